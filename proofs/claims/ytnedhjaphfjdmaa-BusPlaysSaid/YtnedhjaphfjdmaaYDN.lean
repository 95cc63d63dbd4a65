/- Store of the program. -/
import Derived.Test.YtnedhjaphfjdmaaYDX
import Derived.Test.YtnedhjaphfjdmaaYRD
namespace Go.Proofs.Ytnedhjaphfjdmaa
open Go.RowKit Go.Deep Go.Joins
theorem EBox.keep {w w' : World} {g x : Nat} {k : Int} {s : ByteArray} {cs : Array Value} (h : EBox w g k s) (hg : g ≠ x) (hw : w' = w.setRow x cs) : EBox w' g k s := by subst hw; exact h.over hg cs
/-- Beside them an effect of the function's own, at z. -/
structure KC (W wx : World) (z : Nat) (b r : Bd) (k : Int) (s : ByteArray) (k2 : Int) (s2 : ByteArray) : Prop where
  ks : KS W wx b r k s
  e : EBox wx z k2 s2
  far : W.heap.size + 2 < z
theorem KS.more {W w : World} {b r : Bd} {k : Int} {s : ByteArray} (h : KS W w b r k s) : KC W (w.alloc effO) w.heap.size b r k s 0 ⟨#[]⟩ := ⟨h.next (below1 w effO), EBox.new w, h.size⟩
theorem KC.put {W w w' : World} {z : Nat} {b b' r : Bd} {k k2 : Int} {s s2 : ByteArray} (h : KC W w z b r k s k2 s2) (hw : w' = w.setRow W.heap.size (bdC b')) : KC W w' z b' r k s k2 s2 := ⟨h.ks.put hw, h.e.keep (by have := h.far; omega) hw, h.far⟩
theorem KC.tell {W w w' : World} {z : Nat} {b r r' : Bd} {k k2 : Int} {s s2 : ByteArray} (h : KC W w z b r k s k2 s2) (hw : w' = w.setRow (W.heap.size + 1) (bdC r')) : KC W w' z b r' k s k2 s2 := ⟨h.ks.tell hw, h.e.keep (by have := h.far; omega) hw, h.far⟩
theorem KC.give {W w w' : World} {z : Nat} {b r : Bd} {k k' k2 : Int} {s s' s2 : ByteArray} (h : KC W w z b r k s k2 s2) (hw : w' = w.setRow (W.heap.size + 2) #[.int .i64 k', .string s']) : KC W w' z b r k' s' k2 s2 := ⟨h.ks.give hw, h.e.keep (by have := h.far; omega) hw, h.far⟩
theorem KC.set {W w w' : World} {z : Nat} {b r : Bd} {k k2 k' : Int} {s s2 s' : ByteArray} (h : KC W w z b r k s k2 s2) (hw : w' = w.setRow z #[.int .i64 k', .string s']) : KC W w' z b r k s k' s' := ⟨h.ks.far h.far hw, by subst hw; exact h.e.mine k' s', h.far⟩
theorem KC.next {W w w' : World} {z : Nat} {b r : Bd} {k k2 : Int} {s s2 : ByteArray} (h : KC W w z b r k s k2 s2) (j : Below w.heap.size w w') : KC W w' z b r k s k2 s2 := ⟨h.ks.next j, h.e.next j, h.far⟩
set_option maxRecDepth 10000 in
set_option maxHeartbeats 1000000 in
theorem store_1 (b : Bd) (F : List ByteArray) (v : Int) (W : World) (hf : FAt W (.slice b.fp b.fn b.fc) F) (hF : F.length ≤ 8796093022208) : Calls Try.prog 37 #[bdV b, .int .u64 33570816, .int .i64 8, .int .u64 v] W (Told W (stF b F 33570816 8 v).1 (stF b F 33570816 8 v).2.1 (fun x => .tuple #[x, effV (stF b F 33570816 8 v).2.2.1 (stF b F 33570816 8 v).2.2.2.1, .bool (stF b F 33570816 8 v).2.2.2.2])) := by
  have hr : stF b F 33570816 8 v = ({ b with cmp := v }, F, (0), (⟨#[]⟩), true) := rfl
  rw [hr]
  clear hr
  have HFR := Lib.hid hf
  have HFL := Lib.hid hF
  clear hf hF
  go_enter Try.func37, Try.ntmps37
  go_upto_region 1 with (fail)
  have X := Lib.hid (KS.new W b)
  generalize ((W.alloc (bdO b)).alloc zeroO).alloc effO = wx at X ⊢
  go_upto_region 27 with (first | (go_at_call 57; (with_reducible refine (size_1 _).mono ?_); rintro e w' ⟨rfl, rfl⟩) | (with_reducible refine wpList_load_by rfl rfl (Box.load X.out.own) rfl ?_) | (go_at_call 26; (with_reducible refine (copy_bd b F _ (HFR.out.next X.out.below) HFL.out).mono ?_); rintro e w2 ⟨p, cap, rfl, ho, k2⟩; have HO := Lib.hid (ho.base X.out.below.size); have X := Lib.hid (X.out.next k2); clear ho k2) | (with_reducible refine w_box X.out.own rfl rfl rfl rfl ?_; intro wy0 hwy; have HO := Lib.hid ((HO.out.put X.out.own hwy).next (below1 _ effO)); have Y := Lib.hid ((X.out.put hwy).more); clear X hwy) | (with_reducible refine Box.w_cmp Y.out.ks.own rfl rfl rfl rfl ?_; intro wy hwy; have HO := Lib.hid (HO.out.put Y.out.ks.own hwy); have Y := Lib.hid (Y.out.put hwy); clear hwy) | fail)
  refine wp_region_held (S := fun w => Box w W.heap.size ({ (b.at p F.length cap) with cmp := v } : Bd) ∧ EBox w wy0.heap.size (0) (⟨#[]⟩)) (by kernel_rfl) ?_
  have hd : { wy with drawn := wy.drawn + 1 } = wy.drew := rfl
  rw [hd]
  clear hd
  replace Y := Lib.hid (Y.out.next (Below.refl _ _).drew)
  replace HO := Lib.hid (HO.out.next (Below.refl _ _).drew)
  generalize wy.drew = wz at Y HO ⊢
  have hS : Box wz W.heap.size ({ (b.at p F.length cap) with cmp := v } : Bd) ∧ EBox wz wy0.heap.size (0) (⟨#[]⟩) := ⟨Y.out.ks.own, Y.out.e⟩
  refine wpAnyH_take (i := 0) (oi := ⟨some 70, Op.load 35 (.tmp 4), _, _, _, none⟩) (v := _) rfl (by kernel_rfl) (by kernel_rfl) (by kernel_rfl) (fun _ _ _ h => h) (yields_load rfl rfl rfl (fun w hw => hw.1.load)) hS ?_
  simp only [Act.put, List.setIfInBounds_toArray, List.set_cons_zero, List.set_cons_succ]
  refine wpAnyH_take (i := 1) (oi := ⟨some 71, Op.load 80 (.tmp 11), _, _, _, none⟩) (v := _) rfl (by kernel_rfl) (by kernel_rfl) (by kernel_rfl) (fun _ _ _ h => h) (yields_load rfl rfl rfl (fun w hw => hw.2.load)) hS ?_
  simp only [Act.put, List.setIfInBounds_toArray, List.set_cons_zero, List.set_cons_succ]
  refine held_store (i := 2) (o := ⟨none, Op.store 35 (.tmp 8) (.tmp 70), _, _, _, none⟩) (by kernel_rfl) rfl rfl rfl rfl rfl (store_box _ _ _ _ Y.out.ks.res (bdC_size _)) ⟨Y.out.ks.own.over (by omega) _, Y.out.e.over (by have := Y.out.far; omega) _⟩ ?_
  simp only [Act.put]
  replace HO := Lib.hid (HO.out.over Y.out.ks.res (bdC ({ (b.at p F.length cap) with cmp := v } : Bd)))
  replace Y := Lib.hid (Y.out.tell (r' := ({ (b.at p F.length cap) with cmp := v } : Bd)) rfl)
  refine held_store (i := 3) (o := ⟨none, Op.store 80 (.tmp 9) (.tmp 71), _, _, _, none⟩) (by kernel_rfl) rfl rfl rfl rfl rfl (EBox.store Y.out.ks.eff _ _) ⟨Y.out.ks.own.over (by omega) _, Y.out.e.over (by have := Y.out.far; omega) _⟩ ?_
  simp only [Act.put]
  replace HO := Lib.hid (HO.out.eput Y.out.ks.eff (cs := #[.int .i64 ((0)), .string ((⟨#[]⟩))]) rfl)
  replace Y := Lib.hid (Y.out.give (k' := (0)) (s' := (⟨#[]⟩)) rfl)
  replace hS := And.intro Y.out.ks.own Y.out.e
  refine wpAnyH_take (i := 4) (oi := ⟨some 10, Op.assign (.const (.bool true)), _, _, _, none⟩) (v := ?_) rfl (by kernel_rfl) (by kernel_rfl) (by kernel_rfl) (fun _ _ _ h => h) (Or.inl ⟨by rfl, ?_⟩) hS ?_
  rotate_left
  · (intro w hSw; (try dsimp only at hSw); go_simp; try with_reducible rfl)
  simp only [Act.put, List.setIfInBounds_toArray, List.set_cons_zero, List.set_cons_succ]
  refine wpAnyH_done (by kernel_rfl) ?_ _
  go_wp2_with fail
  exact bodyPost_ret (v := .tuple #[bdV ({ (b.at p F.length cap) with cmp := v } : Bd), effV (0) (⟨#[]⟩), .bool true]) (results_store Try.results37 _ _ (W.heap.size + 1) (W.heap.size + 2) _ _ _ _ rfl Y.out.ks.res rfl Y.out.ks.eff rfl) rfl ⟨p, cap, rfl, HO.out, Y.out.ks.below⟩
set_option maxRecDepth 10000 in
set_option maxHeartbeats 1000000 in
theorem store_6 (b : Bd) (F : List ByteArray) (v : Int) (W : World) (hf : FAt W (.slice b.fp b.fn b.fc) F) (hF : F.length ≤ 8796093022208) : Calls Try.prog 37 #[bdV b, .int .u64 268439552, .int .i64 8, .int .u64 v] W (Told W (stF b F 268439552 8 v).1 (stF b F 268439552 8 v).2.1 (fun x => .tuple #[x, effV (stF b F 268439552 8 v).2.2.1 (stF b F 268439552 8 v).2.2.2.1, .bool (stF b F 268439552 8 v).2.2.2.2])) := by
  have hr : stF b F 268439552 8 v = ({ b with sector := v }, F, (0), (⟨#[]⟩), true) := rfl
  rw [hr]
  clear hr
  have HFR := Lib.hid hf
  have HFL := Lib.hid hF
  clear hf hF
  go_enter Try.func37, Try.ntmps37
  go_upto_region 1 with (fail)
  have X := Lib.hid (KS.new W b)
  generalize ((W.alloc (bdO b)).alloc zeroO).alloc effO = wx at X ⊢
  go_upto_region 27 with (first | (go_at_call 57; (with_reducible refine (size_6 _).mono ?_); rintro e w' ⟨rfl, rfl⟩) | (with_reducible refine wpList_load_by rfl rfl (Box.load X.out.own) rfl ?_) | (go_at_call 26; (with_reducible refine (copy_bd b F _ (HFR.out.next X.out.below) HFL.out).mono ?_); rintro e w2 ⟨p, cap, rfl, ho, k2⟩; have HO := Lib.hid (ho.base X.out.below.size); have X := Lib.hid (X.out.next k2); clear ho k2) | (with_reducible refine w_box X.out.own rfl rfl rfl rfl ?_; intro wy0 hwy; have HO := Lib.hid ((HO.out.put X.out.own hwy).next (below1 _ effO)); have Y := Lib.hid ((X.out.put hwy).more); clear X hwy) | (with_reducible refine Box.w_sector Y.out.ks.own rfl rfl rfl rfl ?_; intro wy hwy; have HO := Lib.hid (HO.out.put Y.out.ks.own hwy); have Y := Lib.hid (Y.out.put hwy); clear hwy) | fail)
  refine wp_region_held (S := fun w => Box w W.heap.size ({ (b.at p F.length cap) with sector := v } : Bd) ∧ EBox w wy0.heap.size (0) (⟨#[]⟩)) (by kernel_rfl) ?_
  have hd : { wy with drawn := wy.drawn + 1 } = wy.drew := rfl
  rw [hd]
  clear hd
  replace Y := Lib.hid (Y.out.next (Below.refl _ _).drew)
  replace HO := Lib.hid (HO.out.next (Below.refl _ _).drew)
  generalize wy.drew = wz at Y HO ⊢
  have hS : Box wz W.heap.size ({ (b.at p F.length cap) with sector := v } : Bd) ∧ EBox wz wy0.heap.size (0) (⟨#[]⟩) := ⟨Y.out.ks.own, Y.out.e⟩
  refine wpAnyH_take (i := 0) (oi := ⟨some 70, Op.load 35 (.tmp 4), _, _, _, none⟩) (v := _) rfl (by kernel_rfl) (by kernel_rfl) (by kernel_rfl) (fun _ _ _ h => h) (yields_load rfl rfl rfl (fun w hw => hw.1.load)) hS ?_
  simp only [Act.put, List.setIfInBounds_toArray, List.set_cons_zero, List.set_cons_succ]
  refine wpAnyH_take (i := 1) (oi := ⟨some 71, Op.load 80 (.tmp 11), _, _, _, none⟩) (v := _) rfl (by kernel_rfl) (by kernel_rfl) (by kernel_rfl) (fun _ _ _ h => h) (yields_load rfl rfl rfl (fun w hw => hw.2.load)) hS ?_
  simp only [Act.put, List.setIfInBounds_toArray, List.set_cons_zero, List.set_cons_succ]
  refine held_store (i := 2) (o := ⟨none, Op.store 35 (.tmp 8) (.tmp 70), _, _, _, none⟩) (by kernel_rfl) rfl rfl rfl rfl rfl (store_box _ _ _ _ Y.out.ks.res (bdC_size _)) ⟨Y.out.ks.own.over (by omega) _, Y.out.e.over (by have := Y.out.far; omega) _⟩ ?_
  simp only [Act.put]
  replace HO := Lib.hid (HO.out.over Y.out.ks.res (bdC ({ (b.at p F.length cap) with sector := v } : Bd)))
  replace Y := Lib.hid (Y.out.tell (r' := ({ (b.at p F.length cap) with sector := v } : Bd)) rfl)
  refine held_store (i := 3) (o := ⟨none, Op.store 80 (.tmp 9) (.tmp 71), _, _, _, none⟩) (by kernel_rfl) rfl rfl rfl rfl rfl (EBox.store Y.out.ks.eff _ _) ⟨Y.out.ks.own.over (by omega) _, Y.out.e.over (by have := Y.out.far; omega) _⟩ ?_
  simp only [Act.put]
  replace HO := Lib.hid (HO.out.eput Y.out.ks.eff (cs := #[.int .i64 ((0)), .string ((⟨#[]⟩))]) rfl)
  replace Y := Lib.hid (Y.out.give (k' := (0)) (s' := (⟨#[]⟩)) rfl)
  replace hS := And.intro Y.out.ks.own Y.out.e
  refine wpAnyH_take (i := 4) (oi := ⟨some 10, Op.assign (.const (.bool true)), _, _, _, none⟩) (v := ?_) rfl (by kernel_rfl) (by kernel_rfl) (by kernel_rfl) (fun _ _ _ h => h) (Or.inl ⟨by rfl, ?_⟩) hS ?_
  rotate_left
  · (intro w hSw; (try dsimp only at hSw); go_simp; try with_reducible rfl)
  simp only [Act.put, List.setIfInBounds_toArray, List.set_cons_zero, List.set_cons_succ]
  refine wpAnyH_done (by kernel_rfl) ?_ _
  go_wp2_with fail
  exact bodyPost_ret (v := .tuple #[bdV ({ (b.at p F.length cap) with sector := v } : Bd), effV (0) (⟨#[]⟩), .bool true]) (results_store Try.results37 _ _ (W.heap.size + 1) (W.heap.size + 2) _ _ _ _ rfl Y.out.ks.res rfl Y.out.ks.eff rfl) rfl ⟨p, cap, rfl, HO.out, Y.out.ks.below⟩
set_option maxRecDepth 10000 in
set_option maxHeartbeats 1000000 in
theorem store_7 (b : Bd) (F : List ByteArray) (v : Int) (W : World) (hf : FAt W (.slice b.fp b.fn b.fc) F) (hF : F.length ≤ 8796093022208) : Calls Try.prog 37 #[bdV b, .int .u64 268439560, .int .i64 8, .int .u64 v] W (Told W (stF b F 268439560 8 v).1 (stF b F 268439560 8 v).2.1 (fun x => .tuple #[x, effV (stF b F 268439560 8 v).2.2.1 (stF b F 268439560 8 v).2.2.2.1, .bool (stF b F 268439560 8 v).2.2.2.2])) := by
  have hr : stF b F 268439560 8 v = ({ b with addr := v }, F, (0), (⟨#[]⟩), true) := rfl
  rw [hr]
  clear hr
  have HFR := Lib.hid hf
  have HFL := Lib.hid hF
  clear hf hF
  go_enter Try.func37, Try.ntmps37
  go_upto_region 1 with (fail)
  have X := Lib.hid (KS.new W b)
  generalize ((W.alloc (bdO b)).alloc zeroO).alloc effO = wx at X ⊢
  go_upto_region 27 with (first | (go_at_call 57; (with_reducible refine (size_7 _).mono ?_); rintro e w' ⟨rfl, rfl⟩) | (with_reducible refine wpList_load_by rfl rfl (Box.load X.out.own) rfl ?_) | (go_at_call 26; (with_reducible refine (copy_bd b F _ (HFR.out.next X.out.below) HFL.out).mono ?_); rintro e w2 ⟨p, cap, rfl, ho, k2⟩; have HO := Lib.hid (ho.base X.out.below.size); have X := Lib.hid (X.out.next k2); clear ho k2) | (with_reducible refine w_box X.out.own rfl rfl rfl rfl ?_; intro wy0 hwy; have HO := Lib.hid ((HO.out.put X.out.own hwy).next (below1 _ effO)); have Y := Lib.hid ((X.out.put hwy).more); clear X hwy) | (with_reducible refine Box.w_addr Y.out.ks.own rfl rfl rfl rfl ?_; intro wy hwy; have HO := Lib.hid (HO.out.put Y.out.ks.own hwy); have Y := Lib.hid (Y.out.put hwy); clear hwy) | fail)
  refine wp_region_held (S := fun w => Box w W.heap.size ({ (b.at p F.length cap) with addr := v } : Bd) ∧ EBox w wy0.heap.size (0) (⟨#[]⟩)) (by kernel_rfl) ?_
  have hd : { wy with drawn := wy.drawn + 1 } = wy.drew := rfl
  rw [hd]
  clear hd
  replace Y := Lib.hid (Y.out.next (Below.refl _ _).drew)
  replace HO := Lib.hid (HO.out.next (Below.refl _ _).drew)
  generalize wy.drew = wz at Y HO ⊢
  have hS : Box wz W.heap.size ({ (b.at p F.length cap) with addr := v } : Bd) ∧ EBox wz wy0.heap.size (0) (⟨#[]⟩) := ⟨Y.out.ks.own, Y.out.e⟩
  refine wpAnyH_take (i := 0) (oi := ⟨some 70, Op.load 35 (.tmp 4), _, _, _, none⟩) (v := _) rfl (by kernel_rfl) (by kernel_rfl) (by kernel_rfl) (fun _ _ _ h => h) (yields_load rfl rfl rfl (fun w hw => hw.1.load)) hS ?_
  simp only [Act.put, List.setIfInBounds_toArray, List.set_cons_zero, List.set_cons_succ]
  refine wpAnyH_take (i := 1) (oi := ⟨some 71, Op.load 80 (.tmp 11), _, _, _, none⟩) (v := _) rfl (by kernel_rfl) (by kernel_rfl) (by kernel_rfl) (fun _ _ _ h => h) (yields_load rfl rfl rfl (fun w hw => hw.2.load)) hS ?_
  simp only [Act.put, List.setIfInBounds_toArray, List.set_cons_zero, List.set_cons_succ]
  refine held_store (i := 2) (o := ⟨none, Op.store 35 (.tmp 8) (.tmp 70), _, _, _, none⟩) (by kernel_rfl) rfl rfl rfl rfl rfl (store_box _ _ _ _ Y.out.ks.res (bdC_size _)) ⟨Y.out.ks.own.over (by omega) _, Y.out.e.over (by have := Y.out.far; omega) _⟩ ?_
  simp only [Act.put]
  replace HO := Lib.hid (HO.out.over Y.out.ks.res (bdC ({ (b.at p F.length cap) with addr := v } : Bd)))
  replace Y := Lib.hid (Y.out.tell (r' := ({ (b.at p F.length cap) with addr := v } : Bd)) rfl)
  refine held_store (i := 3) (o := ⟨none, Op.store 80 (.tmp 9) (.tmp 71), _, _, _, none⟩) (by kernel_rfl) rfl rfl rfl rfl rfl (EBox.store Y.out.ks.eff _ _) ⟨Y.out.ks.own.over (by omega) _, Y.out.e.over (by have := Y.out.far; omega) _⟩ ?_
  simp only [Act.put]
  replace HO := Lib.hid (HO.out.eput Y.out.ks.eff (cs := #[.int .i64 ((0)), .string ((⟨#[]⟩))]) rfl)
  replace Y := Lib.hid (Y.out.give (k' := (0)) (s' := (⟨#[]⟩)) rfl)
  replace hS := And.intro Y.out.ks.own Y.out.e
  refine wpAnyH_take (i := 4) (oi := ⟨some 10, Op.assign (.const (.bool true)), _, _, _, none⟩) (v := ?_) rfl (by kernel_rfl) (by kernel_rfl) (by kernel_rfl) (fun _ _ _ h => h) (Or.inl ⟨by rfl, ?_⟩) hS ?_
  rotate_left
  · (intro w hSw; (try dsimp only at hSw); go_simp; try with_reducible rfl)
  simp only [Act.put, List.setIfInBounds_toArray, List.set_cons_zero, List.set_cons_succ]
  refine wpAnyH_done (by kernel_rfl) ?_ _
  go_wp2_with fail
  exact bodyPost_ret (v := .tuple #[bdV ({ (b.at p F.length cap) with addr := v } : Bd), effV (0) (⟨#[]⟩), .bool true]) (results_store Try.results37 _ _ (W.heap.size + 1) (W.heap.size + 2) _ _ _ _ rfl Y.out.ks.res rfl Y.out.ks.eff rfl) rfl ⟨p, cap, rfl, HO.out, Y.out.ks.below⟩
set_option maxRecDepth 10000 in
set_option maxHeartbeats 1000000 in
theorem store_11 (b : Bd) (F : List ByteArray) (v : Int) (W : World) (hf : FAt W (.slice b.fp b.fn b.fc) F) (hF : F.length ≤ 8796093022208) : Calls Try.prog 37 #[bdV b, .int .u64 268443656, .int .i64 8, .int .u64 v] W (Told W (stF b F 268443656 8 v).1 (stF b F 268443656 8 v).2.1 (fun x => .tuple #[x, effV (stF b F 268443656 8 v).2.2.1 (stF b F 268443656 8 v).2.2.2.1, .bool (stF b F 268443656 8 v).2.2.2.2])) := by
  have hr : stF b F 268443656 8 v = ({ b with nicA := v }, F, (0), (⟨#[]⟩), true) := rfl
  rw [hr]
  clear hr
  have HFR := Lib.hid hf
  have HFL := Lib.hid hF
  clear hf hF
  go_enter Try.func37, Try.ntmps37
  go_upto_region 1 with (fail)
  have X := Lib.hid (KS.new W b)
  generalize ((W.alloc (bdO b)).alloc zeroO).alloc effO = wx at X ⊢
  go_upto_region 27 with (first | (go_at_call 57; (with_reducible refine (size_11 _).mono ?_); rintro e w' ⟨rfl, rfl⟩) | (with_reducible refine wpList_load_by rfl rfl (Box.load X.out.own) rfl ?_) | (go_at_call 26; (with_reducible refine (copy_bd b F _ (HFR.out.next X.out.below) HFL.out).mono ?_); rintro e w2 ⟨p, cap, rfl, ho, k2⟩; have HO := Lib.hid (ho.base X.out.below.size); have X := Lib.hid (X.out.next k2); clear ho k2) | (with_reducible refine w_box X.out.own rfl rfl rfl rfl ?_; intro wy0 hwy; have HO := Lib.hid ((HO.out.put X.out.own hwy).next (below1 _ effO)); have Y := Lib.hid ((X.out.put hwy).more); clear X hwy) | (with_reducible refine Box.w_nicA Y.out.ks.own rfl rfl rfl rfl ?_; intro wy hwy; have HO := Lib.hid (HO.out.put Y.out.ks.own hwy); have Y := Lib.hid (Y.out.put hwy); clear hwy) | fail)
  refine wp_region_held (S := fun w => Box w W.heap.size ({ (b.at p F.length cap) with nicA := v } : Bd) ∧ EBox w wy0.heap.size (0) (⟨#[]⟩)) (by kernel_rfl) ?_
  have hd : { wy with drawn := wy.drawn + 1 } = wy.drew := rfl
  rw [hd]
  clear hd
  replace Y := Lib.hid (Y.out.next (Below.refl _ _).drew)
  replace HO := Lib.hid (HO.out.next (Below.refl _ _).drew)
  generalize wy.drew = wz at Y HO ⊢
  have hS : Box wz W.heap.size ({ (b.at p F.length cap) with nicA := v } : Bd) ∧ EBox wz wy0.heap.size (0) (⟨#[]⟩) := ⟨Y.out.ks.own, Y.out.e⟩
  refine wpAnyH_take (i := 0) (oi := ⟨some 70, Op.load 35 (.tmp 4), _, _, _, none⟩) (v := _) rfl (by kernel_rfl) (by kernel_rfl) (by kernel_rfl) (fun _ _ _ h => h) (yields_load rfl rfl rfl (fun w hw => hw.1.load)) hS ?_
  simp only [Act.put, List.setIfInBounds_toArray, List.set_cons_zero, List.set_cons_succ]
  refine wpAnyH_take (i := 1) (oi := ⟨some 71, Op.load 80 (.tmp 11), _, _, _, none⟩) (v := _) rfl (by kernel_rfl) (by kernel_rfl) (by kernel_rfl) (fun _ _ _ h => h) (yields_load rfl rfl rfl (fun w hw => hw.2.load)) hS ?_
  simp only [Act.put, List.setIfInBounds_toArray, List.set_cons_zero, List.set_cons_succ]
  refine held_store (i := 2) (o := ⟨none, Op.store 35 (.tmp 8) (.tmp 70), _, _, _, none⟩) (by kernel_rfl) rfl rfl rfl rfl rfl (store_box _ _ _ _ Y.out.ks.res (bdC_size _)) ⟨Y.out.ks.own.over (by omega) _, Y.out.e.over (by have := Y.out.far; omega) _⟩ ?_
  simp only [Act.put]
  replace HO := Lib.hid (HO.out.over Y.out.ks.res (bdC ({ (b.at p F.length cap) with nicA := v } : Bd)))
  replace Y := Lib.hid (Y.out.tell (r' := ({ (b.at p F.length cap) with nicA := v } : Bd)) rfl)
  refine held_store (i := 3) (o := ⟨none, Op.store 80 (.tmp 9) (.tmp 71), _, _, _, none⟩) (by kernel_rfl) rfl rfl rfl rfl rfl (EBox.store Y.out.ks.eff _ _) ⟨Y.out.ks.own.over (by omega) _, Y.out.e.over (by have := Y.out.far; omega) _⟩ ?_
  simp only [Act.put]
  replace HO := Lib.hid (HO.out.eput Y.out.ks.eff (cs := #[.int .i64 ((0)), .string ((⟨#[]⟩))]) rfl)
  replace Y := Lib.hid (Y.out.give (k' := (0)) (s' := (⟨#[]⟩)) rfl)
  replace hS := And.intro Y.out.ks.own Y.out.e
  refine wpAnyH_take (i := 4) (oi := ⟨some 10, Op.assign (.const (.bool true)), _, _, _, none⟩) (v := ?_) rfl (by kernel_rfl) (by kernel_rfl) (by kernel_rfl) (fun _ _ _ h => h) (Or.inl ⟨by rfl, ?_⟩) hS ?_
  rotate_left
  · (intro w hSw; (try dsimp only at hSw); go_simp; try with_reducible rfl)
  simp only [Act.put, List.setIfInBounds_toArray, List.set_cons_zero, List.set_cons_succ]
  refine wpAnyH_done (by kernel_rfl) ?_ _
  go_wp2_with fail
  exact bodyPost_ret (v := .tuple #[bdV ({ (b.at p F.length cap) with nicA := v } : Bd), effV (0) (⟨#[]⟩), .bool true]) (results_store Try.results37 _ _ (W.heap.size + 1) (W.heap.size + 2) _ _ _ _ rfl Y.out.ks.res rfl Y.out.ks.eff rfl) rfl ⟨p, cap, rfl, HO.out, Y.out.ks.below⟩
set_option maxRecDepth 10000 in
set_option maxHeartbeats 1000000 in
theorem store_13 (b : Bd) (F : List ByteArray) (v : Int) (W : World) (hf : FAt W (.slice b.fp b.fn b.fc) F) (hF : F.length ≤ 8796093022208) : Calls Try.prog 37 #[bdV b, .int .u64 268443672, .int .i64 8, .int .u64 v] W (Told W (stF b F 268443672 8 v).1 (stF b F 268443672 8 v).2.1 (fun x => .tuple #[x, effV (stF b F 268443672 8 v).2.2.1 (stF b F 268443672 8 v).2.2.2.1, .bool (stF b F 268443672 8 v).2.2.2.2])) := by
  have hr : stF b F 268443672 8 v = ({ b with nicL := v }, F, (0), (⟨#[]⟩), true) := rfl
  rw [hr]
  clear hr
  have HFR := Lib.hid hf
  have HFL := Lib.hid hF
  clear hf hF
  go_enter Try.func37, Try.ntmps37
  go_upto_region 1 with (fail)
  have X := Lib.hid (KS.new W b)
  generalize ((W.alloc (bdO b)).alloc zeroO).alloc effO = wx at X ⊢
  go_upto_region 27 with (first | (go_at_call 57; (with_reducible refine (size_13 _).mono ?_); rintro e w' ⟨rfl, rfl⟩) | (with_reducible refine wpList_load_by rfl rfl (Box.load X.out.own) rfl ?_) | (go_at_call 26; (with_reducible refine (copy_bd b F _ (HFR.out.next X.out.below) HFL.out).mono ?_); rintro e w2 ⟨p, cap, rfl, ho, k2⟩; have HO := Lib.hid (ho.base X.out.below.size); have X := Lib.hid (X.out.next k2); clear ho k2) | (with_reducible refine w_box X.out.own rfl rfl rfl rfl ?_; intro wy0 hwy; have HO := Lib.hid ((HO.out.put X.out.own hwy).next (below1 _ effO)); have Y := Lib.hid ((X.out.put hwy).more); clear X hwy) | (with_reducible refine Box.w_nicL Y.out.ks.own rfl rfl rfl rfl ?_; intro wy hwy; have HO := Lib.hid (HO.out.put Y.out.ks.own hwy); have Y := Lib.hid (Y.out.put hwy); clear hwy) | fail)
  refine wp_region_held (S := fun w => Box w W.heap.size ({ (b.at p F.length cap) with nicL := v } : Bd) ∧ EBox w wy0.heap.size (0) (⟨#[]⟩)) (by kernel_rfl) ?_
  have hd : { wy with drawn := wy.drawn + 1 } = wy.drew := rfl
  rw [hd]
  clear hd
  replace Y := Lib.hid (Y.out.next (Below.refl _ _).drew)
  replace HO := Lib.hid (HO.out.next (Below.refl _ _).drew)
  generalize wy.drew = wz at Y HO ⊢
  have hS : Box wz W.heap.size ({ (b.at p F.length cap) with nicL := v } : Bd) ∧ EBox wz wy0.heap.size (0) (⟨#[]⟩) := ⟨Y.out.ks.own, Y.out.e⟩
  refine wpAnyH_take (i := 0) (oi := ⟨some 70, Op.load 35 (.tmp 4), _, _, _, none⟩) (v := _) rfl (by kernel_rfl) (by kernel_rfl) (by kernel_rfl) (fun _ _ _ h => h) (yields_load rfl rfl rfl (fun w hw => hw.1.load)) hS ?_
  simp only [Act.put, List.setIfInBounds_toArray, List.set_cons_zero, List.set_cons_succ]
  refine wpAnyH_take (i := 1) (oi := ⟨some 71, Op.load 80 (.tmp 11), _, _, _, none⟩) (v := _) rfl (by kernel_rfl) (by kernel_rfl) (by kernel_rfl) (fun _ _ _ h => h) (yields_load rfl rfl rfl (fun w hw => hw.2.load)) hS ?_
  simp only [Act.put, List.setIfInBounds_toArray, List.set_cons_zero, List.set_cons_succ]
  refine held_store (i := 2) (o := ⟨none, Op.store 35 (.tmp 8) (.tmp 70), _, _, _, none⟩) (by kernel_rfl) rfl rfl rfl rfl rfl (store_box _ _ _ _ Y.out.ks.res (bdC_size _)) ⟨Y.out.ks.own.over (by omega) _, Y.out.e.over (by have := Y.out.far; omega) _⟩ ?_
  simp only [Act.put]
  replace HO := Lib.hid (HO.out.over Y.out.ks.res (bdC ({ (b.at p F.length cap) with nicL := v } : Bd)))
  replace Y := Lib.hid (Y.out.tell (r' := ({ (b.at p F.length cap) with nicL := v } : Bd)) rfl)
  refine held_store (i := 3) (o := ⟨none, Op.store 80 (.tmp 9) (.tmp 71), _, _, _, none⟩) (by kernel_rfl) rfl rfl rfl rfl rfl (EBox.store Y.out.ks.eff _ _) ⟨Y.out.ks.own.over (by omega) _, Y.out.e.over (by have := Y.out.far; omega) _⟩ ?_
  simp only [Act.put]
  replace HO := Lib.hid (HO.out.eput Y.out.ks.eff (cs := #[.int .i64 ((0)), .string ((⟨#[]⟩))]) rfl)
  replace Y := Lib.hid (Y.out.give (k' := (0)) (s' := (⟨#[]⟩)) rfl)
  replace hS := And.intro Y.out.ks.own Y.out.e
  refine wpAnyH_take (i := 4) (oi := ⟨some 10, Op.assign (.const (.bool true)), _, _, _, none⟩) (v := ?_) rfl (by kernel_rfl) (by kernel_rfl) (by kernel_rfl) (fun _ _ _ h => h) (Or.inl ⟨by rfl, ?_⟩) hS ?_
  rotate_left
  · (intro w hSw; (try dsimp only at hSw); go_simp; try with_reducible rfl)
  simp only [Act.put, List.setIfInBounds_toArray, List.set_cons_zero, List.set_cons_succ]
  refine wpAnyH_done (by kernel_rfl) ?_ _
  go_wp2_with fail
  exact bodyPost_ret (v := .tuple #[bdV ({ (b.at p F.length cap) with nicL := v } : Bd), effV (0) (⟨#[]⟩), .bool true]) (results_store Try.results37 _ _ (W.heap.size + 1) (W.heap.size + 2) _ _ _ _ rfl Y.out.ks.res rfl Y.out.ks.eff rfl) rfl ⟨p, cap, rfl, HO.out, Y.out.ks.below⟩
set_option maxRecDepth 10000 in
set_option maxHeartbeats 1000000 in
theorem store_0 (b : Bd) (F : List ByteArray) (v : Int) (W : World) (hf : FAt W (.slice b.fp b.fn b.fc) F) (hF : F.length ≤ 8796093022208) : Calls Try.prog 37 #[bdV b, .int .u64 33554432, .int .i64 4, .int .u64 v] W (Told W (stF b F 33554432 4 v).1 (stF b F 33554432 4 v).2.1 (fun x => .tuple #[x, effV (stF b F 33554432 4 v).2.2.1 (stF b F 33554432 4 v).2.2.2.1, .bool (stF b F 33554432 4 v).2.2.2.2])) := by
  have hr : stF b F 33554432 4 v = ({ b with msip := bits .and .u64 v 1 == 1 }, F, (0), (⟨#[]⟩), true) := rfl
  rw [hr]
  clear hr
  have HFR := Lib.hid hf
  have HFL := Lib.hid hF
  clear hf hF
  go_enter Try.func37, Try.ntmps37
  go_upto_region 1 with (fail)
  have X := Lib.hid (KS.new W b)
  generalize ((W.alloc (bdO b)).alloc zeroO).alloc effO = wx at X ⊢
  go_upto_region 27 with (first | (go_at_call 57; (with_reducible refine (size_0 _).mono ?_); rintro e w' ⟨rfl, rfl⟩) | (with_reducible refine wpList_load_by rfl rfl (Box.load X.out.own) rfl ?_) | (go_at_call 26; (with_reducible refine (copy_bd b F _ (HFR.out.next X.out.below) HFL.out).mono ?_); rintro e w2 ⟨p, cap, rfl, ho, k2⟩; have HO := Lib.hid (ho.base X.out.below.size); have X := Lib.hid (X.out.next k2); clear ho k2) | (with_reducible refine w_box X.out.own rfl rfl rfl rfl ?_; intro wy0 hwy; have HO := Lib.hid ((HO.out.put X.out.own hwy).next (below1 _ effO)); have Y := Lib.hid ((X.out.put hwy).more); clear X hwy) | (with_reducible refine Box.w_msip Y.out.ks.own rfl rfl rfl rfl ?_; intro wy hwy; have HO := Lib.hid (HO.out.put Y.out.ks.own hwy); have Y := Lib.hid (Y.out.put hwy); clear hwy) | fail)
  refine wp_region_held (S := fun w => Box w W.heap.size ({ (b.at p F.length cap) with msip := bits .and .u64 v 1 == 1 } : Bd) ∧ EBox w wy0.heap.size (0) (⟨#[]⟩)) (by kernel_rfl) ?_
  have hd : { wy with drawn := wy.drawn + 1 } = wy.drew := rfl
  rw [hd]
  clear hd
  replace Y := Lib.hid (Y.out.next (Below.refl _ _).drew)
  replace HO := Lib.hid (HO.out.next (Below.refl _ _).drew)
  generalize wy.drew = wz at Y HO ⊢
  have hS : Box wz W.heap.size ({ (b.at p F.length cap) with msip := bits .and .u64 v 1 == 1 } : Bd) ∧ EBox wz wy0.heap.size (0) (⟨#[]⟩) := ⟨Y.out.ks.own, Y.out.e⟩
  refine wpAnyH_take (i := 0) (oi := ⟨some 70, Op.load 35 (.tmp 4), _, _, _, none⟩) (v := _) rfl (by kernel_rfl) (by kernel_rfl) (by kernel_rfl) (fun _ _ _ h => h) (yields_load rfl rfl rfl (fun w hw => hw.1.load)) hS ?_
  simp only [Act.put, List.setIfInBounds_toArray, List.set_cons_zero, List.set_cons_succ]
  refine wpAnyH_take (i := 1) (oi := ⟨some 71, Op.load 80 (.tmp 11), _, _, _, none⟩) (v := _) rfl (by kernel_rfl) (by kernel_rfl) (by kernel_rfl) (fun _ _ _ h => h) (yields_load rfl rfl rfl (fun w hw => hw.2.load)) hS ?_
  simp only [Act.put, List.setIfInBounds_toArray, List.set_cons_zero, List.set_cons_succ]
  refine held_store (i := 2) (o := ⟨none, Op.store 35 (.tmp 8) (.tmp 70), _, _, _, none⟩) (by kernel_rfl) rfl rfl rfl rfl rfl (store_box _ _ _ _ Y.out.ks.res (bdC_size _)) ⟨Y.out.ks.own.over (by omega) _, Y.out.e.over (by have := Y.out.far; omega) _⟩ ?_
  simp only [Act.put]
  replace HO := Lib.hid (HO.out.over Y.out.ks.res (bdC ({ (b.at p F.length cap) with msip := bits .and .u64 v 1 == 1 } : Bd)))
  replace Y := Lib.hid (Y.out.tell (r' := ({ (b.at p F.length cap) with msip := bits .and .u64 v 1 == 1 } : Bd)) rfl)
  refine held_store (i := 3) (o := ⟨none, Op.store 80 (.tmp 9) (.tmp 71), _, _, _, none⟩) (by kernel_rfl) rfl rfl rfl rfl rfl (EBox.store Y.out.ks.eff _ _) ⟨Y.out.ks.own.over (by omega) _, Y.out.e.over (by have := Y.out.far; omega) _⟩ ?_
  simp only [Act.put]
  replace HO := Lib.hid (HO.out.eput Y.out.ks.eff (cs := #[.int .i64 ((0)), .string ((⟨#[]⟩))]) rfl)
  replace Y := Lib.hid (Y.out.give (k' := (0)) (s' := (⟨#[]⟩)) rfl)
  replace hS := And.intro Y.out.ks.own Y.out.e
  refine wpAnyH_take (i := 4) (oi := ⟨some 10, Op.assign (.const (.bool true)), _, _, _, none⟩) (v := ?_) rfl (by kernel_rfl) (by kernel_rfl) (by kernel_rfl) (fun _ _ _ h => h) (Or.inl ⟨by rfl, ?_⟩) hS ?_
  rotate_left
  · (intro w hSw; (try dsimp only at hSw); go_simp; try with_reducible rfl)
  simp only [Act.put, List.setIfInBounds_toArray, List.set_cons_zero, List.set_cons_succ]
  refine wpAnyH_done (by kernel_rfl) ?_ _
  go_wp2_with fail
  exact bodyPost_ret (v := .tuple #[bdV ({ (b.at p F.length cap) with msip := bits .and .u64 v 1 == 1 } : Bd), effV (0) (⟨#[]⟩), .bool true]) (results_store Try.results37 _ _ (W.heap.size + 1) (W.heap.size + 2) _ _ _ _ rfl Y.out.ks.res rfl Y.out.ks.eff rfl) rfl ⟨p, cap, rfl, HO.out, Y.out.ks.below⟩
set_option maxRecDepth 10000 in
set_option maxHeartbeats 1000000 in
theorem store_4 (b : Bd) (F : List ByteArray) (v : Int) (W : World) (hf : FAt W (.slice b.fp b.fn b.fc) F) (hF : F.length ≤ 8796093022208) : Calls Try.prog 37 #[bdV b, .int .u64 268435457, .int .i64 1, .int .u64 v] W (Told W (stF b F 268435457 1 v).1 (stF b F 268435457 1 v).2.1 (fun x => .tuple #[x, effV (stF b F 268435457 1 v).2.2.1 (stF b F 268435457 1 v).2.2.2.1, .bool (stF b F 268435457 1 v).2.2.2.2])) := by
  have hr : stF b F 268435457 1 v = ({ b with ier := bits .and .u64 v 1 == 1 }, F, (0), (⟨#[]⟩), true) := rfl
  rw [hr]
  clear hr
  have HFR := Lib.hid hf
  have HFL := Lib.hid hF
  clear hf hF
  go_enter Try.func37, Try.ntmps37
  go_upto_region 1 with (fail)
  have X := Lib.hid (KS.new W b)
  generalize ((W.alloc (bdO b)).alloc zeroO).alloc effO = wx at X ⊢
  go_upto_region 27 with (first | (go_at_call 57; (with_reducible refine (size_4 _).mono ?_); rintro e w' ⟨rfl, rfl⟩) | (with_reducible refine wpList_load_by rfl rfl (Box.load X.out.own) rfl ?_) | (go_at_call 26; (with_reducible refine (copy_bd b F _ (HFR.out.next X.out.below) HFL.out).mono ?_); rintro e w2 ⟨p, cap, rfl, ho, k2⟩; have HO := Lib.hid (ho.base X.out.below.size); have X := Lib.hid (X.out.next k2); clear ho k2) | (with_reducible refine w_box X.out.own rfl rfl rfl rfl ?_; intro wy0 hwy; have HO := Lib.hid ((HO.out.put X.out.own hwy).next (below1 _ effO)); have Y := Lib.hid ((X.out.put hwy).more); clear X hwy) | (with_reducible refine Box.w_ier Y.out.ks.own rfl rfl rfl rfl ?_; intro wy hwy; have HO := Lib.hid (HO.out.put Y.out.ks.own hwy); have Y := Lib.hid (Y.out.put hwy); clear hwy) | fail)
  refine wp_region_held (S := fun w => Box w W.heap.size ({ (b.at p F.length cap) with ier := bits .and .u64 v 1 == 1 } : Bd) ∧ EBox w wy0.heap.size (0) (⟨#[]⟩)) (by kernel_rfl) ?_
  have hd : { wy with drawn := wy.drawn + 1 } = wy.drew := rfl
  rw [hd]
  clear hd
  replace Y := Lib.hid (Y.out.next (Below.refl _ _).drew)
  replace HO := Lib.hid (HO.out.next (Below.refl _ _).drew)
  generalize wy.drew = wz at Y HO ⊢
  have hS : Box wz W.heap.size ({ (b.at p F.length cap) with ier := bits .and .u64 v 1 == 1 } : Bd) ∧ EBox wz wy0.heap.size (0) (⟨#[]⟩) := ⟨Y.out.ks.own, Y.out.e⟩
  refine wpAnyH_take (i := 0) (oi := ⟨some 70, Op.load 35 (.tmp 4), _, _, _, none⟩) (v := _) rfl (by kernel_rfl) (by kernel_rfl) (by kernel_rfl) (fun _ _ _ h => h) (yields_load rfl rfl rfl (fun w hw => hw.1.load)) hS ?_
  simp only [Act.put, List.setIfInBounds_toArray, List.set_cons_zero, List.set_cons_succ]
  refine wpAnyH_take (i := 1) (oi := ⟨some 71, Op.load 80 (.tmp 11), _, _, _, none⟩) (v := _) rfl (by kernel_rfl) (by kernel_rfl) (by kernel_rfl) (fun _ _ _ h => h) (yields_load rfl rfl rfl (fun w hw => hw.2.load)) hS ?_
  simp only [Act.put, List.setIfInBounds_toArray, List.set_cons_zero, List.set_cons_succ]
  refine held_store (i := 2) (o := ⟨none, Op.store 35 (.tmp 8) (.tmp 70), _, _, _, none⟩) (by kernel_rfl) rfl rfl rfl rfl rfl (store_box _ _ _ _ Y.out.ks.res (bdC_size _)) ⟨Y.out.ks.own.over (by omega) _, Y.out.e.over (by have := Y.out.far; omega) _⟩ ?_
  simp only [Act.put]
  replace HO := Lib.hid (HO.out.over Y.out.ks.res (bdC ({ (b.at p F.length cap) with ier := bits .and .u64 v 1 == 1 } : Bd)))
  replace Y := Lib.hid (Y.out.tell (r' := ({ (b.at p F.length cap) with ier := bits .and .u64 v 1 == 1 } : Bd)) rfl)
  refine held_store (i := 3) (o := ⟨none, Op.store 80 (.tmp 9) (.tmp 71), _, _, _, none⟩) (by kernel_rfl) rfl rfl rfl rfl rfl (EBox.store Y.out.ks.eff _ _) ⟨Y.out.ks.own.over (by omega) _, Y.out.e.over (by have := Y.out.far; omega) _⟩ ?_
  simp only [Act.put]
  replace HO := Lib.hid (HO.out.eput Y.out.ks.eff (cs := #[.int .i64 ((0)), .string ((⟨#[]⟩))]) rfl)
  replace Y := Lib.hid (Y.out.give (k' := (0)) (s' := (⟨#[]⟩)) rfl)
  replace hS := And.intro Y.out.ks.own Y.out.e
  refine wpAnyH_take (i := 4) (oi := ⟨some 10, Op.assign (.const (.bool true)), _, _, _, none⟩) (v := ?_) rfl (by kernel_rfl) (by kernel_rfl) (by kernel_rfl) (fun _ _ _ h => h) (Or.inl ⟨by rfl, ?_⟩) hS ?_
  rotate_left
  · (intro w hSw; (try dsimp only at hSw); go_simp; try with_reducible rfl)
  simp only [Act.put, List.setIfInBounds_toArray, List.set_cons_zero, List.set_cons_succ]
  refine wpAnyH_done (by kernel_rfl) ?_ _
  go_wp2_with fail
  exact bodyPost_ret (v := .tuple #[bdV ({ (b.at p F.length cap) with ier := bits .and .u64 v 1 == 1 } : Bd), effV (0) (⟨#[]⟩), .bool true]) (results_store Try.results37 _ _ (W.heap.size + 1) (W.heap.size + 2) _ _ _ _ rfl Y.out.ks.res rfl Y.out.ks.eff rfl) rfl ⟨p, cap, rfl, HO.out, Y.out.ks.below⟩
theorem order_hid (v a b : Int) : RowKit.Hid (∀ W, Calls Try.prog 58 #[.int .u64 v, .int .i64 a, .int .i64 b] W fun e W' => e = .returned (.int .i64 (ordV v a b)) ∧ W = W') := Lib.hid (order_any v a b)
theorem bytes_one (v : Int) (h0 : 0 ≤ v) (h1 : v ≤ 18446744073709551615) (W : World) : Calls Try.prog 34 #[.int .u64 v, .int .i64 1] W fun e W' => e = .returned (.string (outS v)) ∧ Below W.heap.size W W' := by
  obtain ⟨n, rfl⟩ := Int.eq_ofNat_of_zero_le h0
  exact bytes_any n 1 W (by omega) (by omega)
set_option maxRecDepth 10000 in
set_option maxHeartbeats 1000000 in
theorem store_8 (b : Bd) (F : List ByteArray) (v : Int) (W : World) (hf : FAt W (.slice b.fp b.fn b.fc) F) (hF : F.length ≤ 8796093022208) : Calls Try.prog 37 #[bdV b, .int .u64 268439568, .int .i64 8, .int .u64 v] W (Told W (stF b F 268439568 8 v).1 (stF b F 268439568 8 v).2.1 (fun x => .tuple #[x, effV (stF b F 268439568 8 v).2.2.1 (stF b F 268439568 8 v).2.2.2.1, .bool (stF b F 268439568 8 v).2.2.2.2])) := by
  have hr : stF b F 268439568 8 v = (b, F, (ordV v 2 3), (⟨#[]⟩), true) := rfl
  rw [hr]
  clear hr
  have HFR := Lib.hid hf
  have HFL := Lib.hid hF
  clear hf hF
  go_enter Try.func37, Try.ntmps37
  go_upto_region 1 with (fail)
  have X := Lib.hid (KS.new W b)
  generalize ((W.alloc (bdO b)).alloc zeroO).alloc effO = wx at X ⊢
  go_upto_region 27 with (first | (go_at_call 57; (with_reducible refine (size_8 _).mono ?_); rintro e w' ⟨rfl, rfl⟩) | (with_reducible refine wpList_load_by rfl rfl (Box.load X.out.own) rfl ?_) | (go_at_call 26; (with_reducible refine (copy_bd b F _ (HFR.out.next X.out.below) HFL.out).mono ?_); rintro e w2 ⟨p, cap, rfl, ho, k2⟩; have HO := Lib.hid (ho.base X.out.below.size); have X := Lib.hid (X.out.next k2); clear ho k2) | (with_reducible refine w_box X.out.own rfl rfl rfl rfl ?_; intro wy0 hwy; have HO := Lib.hid ((HO.out.put X.out.own hwy).next (below1 _ effO)); have Y := Lib.hid ((X.out.put hwy).more); clear X hwy) | (go_at_call 58; (with_reducible refine ((order_hid v 2 3).out _).mono ?_); rintro e w' ⟨rfl, rfl⟩) | (with_reducible refine EBox.w_kind Y.out.e rfl rfl rfl rfl ?_; intro wy hwy; have HO := Lib.hid (HO.out.eput Y.out.e hwy); have Y := Lib.hid (Y.out.set hwy); clear hwy) | fail)
  refine wp_region_held (S := fun w => Box w W.heap.size (b.at p F.length cap) ∧ EBox w wy0.heap.size (ordV v 2 3) (⟨#[]⟩)) (by kernel_rfl) ?_
  have hd : { wy with drawn := wy.drawn + 1 } = wy.drew := rfl
  rw [hd]
  clear hd
  replace Y := Lib.hid (Y.out.next (Below.refl _ _).drew)
  replace HO := Lib.hid (HO.out.next (Below.refl _ _).drew)
  generalize wy.drew = wz at Y HO ⊢
  have hS : Box wz W.heap.size (b.at p F.length cap) ∧ EBox wz wy0.heap.size (ordV v 2 3) (⟨#[]⟩) := ⟨Y.out.ks.own, Y.out.e⟩
  refine wpAnyH_take (i := 0) (oi := ⟨some 70, Op.load 35 (.tmp 4), _, _, _, none⟩) (v := _) rfl (by kernel_rfl) (by kernel_rfl) (by kernel_rfl) (fun _ _ _ h => h) (yields_load rfl rfl rfl (fun w hw => hw.1.load)) hS ?_
  simp only [Act.put, List.setIfInBounds_toArray, List.set_cons_zero, List.set_cons_succ]
  refine wpAnyH_take (i := 1) (oi := ⟨some 71, Op.load 80 (.tmp 11), _, _, _, none⟩) (v := _) rfl (by kernel_rfl) (by kernel_rfl) (by kernel_rfl) (fun _ _ _ h => h) (yields_load rfl rfl rfl (fun w hw => hw.2.load)) hS ?_
  simp only [Act.put, List.setIfInBounds_toArray, List.set_cons_zero, List.set_cons_succ]
  refine held_store (i := 2) (o := ⟨none, Op.store 35 (.tmp 8) (.tmp 70), _, _, _, none⟩) (by kernel_rfl) rfl rfl rfl rfl rfl (store_box _ _ _ _ Y.out.ks.res (bdC_size _)) ⟨Y.out.ks.own.over (by omega) _, Y.out.e.over (by have := Y.out.far; omega) _⟩ ?_
  simp only [Act.put]
  replace HO := Lib.hid (HO.out.over Y.out.ks.res (bdC (b.at p F.length cap)))
  replace Y := Lib.hid (Y.out.tell (r' := (b.at p F.length cap)) rfl)
  refine held_store (i := 3) (o := ⟨none, Op.store 80 (.tmp 9) (.tmp 71), _, _, _, none⟩) (by kernel_rfl) rfl rfl rfl rfl rfl (EBox.store Y.out.ks.eff _ _) ⟨Y.out.ks.own.over (by omega) _, Y.out.e.over (by have := Y.out.far; omega) _⟩ ?_
  simp only [Act.put]
  replace HO := Lib.hid (HO.out.eput Y.out.ks.eff (cs := #[.int .i64 ((ordV v 2 3)), .string ((⟨#[]⟩))]) rfl)
  replace Y := Lib.hid (Y.out.give (k' := (ordV v 2 3)) (s' := (⟨#[]⟩)) rfl)
  replace hS := And.intro Y.out.ks.own Y.out.e
  refine wpAnyH_take (i := 4) (oi := ⟨some 10, Op.assign (.const (.bool true)), _, _, _, none⟩) (v := ?_) rfl (by kernel_rfl) (by kernel_rfl) (by kernel_rfl) (fun _ _ _ h => h) (Or.inl ⟨by rfl, ?_⟩) hS ?_
  rotate_left
  · (intro w hSw; (try dsimp only at hSw); go_simp; try with_reducible rfl)
  simp only [Act.put, List.setIfInBounds_toArray, List.set_cons_zero, List.set_cons_succ]
  refine wpAnyH_done (by kernel_rfl) ?_ _
  go_wp2_with fail
  exact bodyPost_ret (v := .tuple #[bdV (b.at p F.length cap), effV (ordV v 2 3) (⟨#[]⟩), .bool true]) (results_store Try.results37 _ _ (W.heap.size + 1) (W.heap.size + 2) _ _ _ _ rfl Y.out.ks.res rfl Y.out.ks.eff rfl) rfl ⟨p, cap, rfl, HO.out, Y.out.ks.below⟩
set_option maxRecDepth 10000 in
set_option maxHeartbeats 1000000 in
theorem store_12 (b : Bd) (F : List ByteArray) (v : Int) (W : World) (hf : FAt W (.slice b.fp b.fn b.fc) F) (hF : F.length ≤ 8796093022208) : Calls Try.prog 37 #[bdV b, .int .u64 268443664, .int .i64 8, .int .u64 v] W (Told W (stF b F 268443664 8 v).1 (stF b F 268443664 8 v).2.1 (fun x => .tuple #[x, effV (stF b F 268443664 8 v).2.2.1 (stF b F 268443664 8 v).2.2.2.1, .bool (stF b F 268443664 8 v).2.2.2.2])) := by
  have hr : stF b F 268443664 8 v = (b, F, (ordV v 4 5), (⟨#[]⟩), true) := rfl
  rw [hr]
  clear hr
  have HFR := Lib.hid hf
  have HFL := Lib.hid hF
  clear hf hF
  go_enter Try.func37, Try.ntmps37
  go_upto_region 1 with (fail)
  have X := Lib.hid (KS.new W b)
  generalize ((W.alloc (bdO b)).alloc zeroO).alloc effO = wx at X ⊢
  go_upto_region 27 with (first | (go_at_call 57; (with_reducible refine (size_12 _).mono ?_); rintro e w' ⟨rfl, rfl⟩) | (with_reducible refine wpList_load_by rfl rfl (Box.load X.out.own) rfl ?_) | (go_at_call 26; (with_reducible refine (copy_bd b F _ (HFR.out.next X.out.below) HFL.out).mono ?_); rintro e w2 ⟨p, cap, rfl, ho, k2⟩; have HO := Lib.hid (ho.base X.out.below.size); have X := Lib.hid (X.out.next k2); clear ho k2) | (with_reducible refine w_box X.out.own rfl rfl rfl rfl ?_; intro wy0 hwy; have HO := Lib.hid ((HO.out.put X.out.own hwy).next (below1 _ effO)); have Y := Lib.hid ((X.out.put hwy).more); clear X hwy) | (go_at_call 58; (with_reducible refine ((order_hid v 4 5).out _).mono ?_); rintro e w' ⟨rfl, rfl⟩) | (with_reducible refine EBox.w_kind Y.out.e rfl rfl rfl rfl ?_; intro wy hwy; have HO := Lib.hid (HO.out.eput Y.out.e hwy); have Y := Lib.hid (Y.out.set hwy); clear hwy) | fail)
  refine wp_region_held (S := fun w => Box w W.heap.size (b.at p F.length cap) ∧ EBox w wy0.heap.size (ordV v 4 5) (⟨#[]⟩)) (by kernel_rfl) ?_
  have hd : { wy with drawn := wy.drawn + 1 } = wy.drew := rfl
  rw [hd]
  clear hd
  replace Y := Lib.hid (Y.out.next (Below.refl _ _).drew)
  replace HO := Lib.hid (HO.out.next (Below.refl _ _).drew)
  generalize wy.drew = wz at Y HO ⊢
  have hS : Box wz W.heap.size (b.at p F.length cap) ∧ EBox wz wy0.heap.size (ordV v 4 5) (⟨#[]⟩) := ⟨Y.out.ks.own, Y.out.e⟩
  refine wpAnyH_take (i := 0) (oi := ⟨some 70, Op.load 35 (.tmp 4), _, _, _, none⟩) (v := _) rfl (by kernel_rfl) (by kernel_rfl) (by kernel_rfl) (fun _ _ _ h => h) (yields_load rfl rfl rfl (fun w hw => hw.1.load)) hS ?_
  simp only [Act.put, List.setIfInBounds_toArray, List.set_cons_zero, List.set_cons_succ]
  refine wpAnyH_take (i := 1) (oi := ⟨some 71, Op.load 80 (.tmp 11), _, _, _, none⟩) (v := _) rfl (by kernel_rfl) (by kernel_rfl) (by kernel_rfl) (fun _ _ _ h => h) (yields_load rfl rfl rfl (fun w hw => hw.2.load)) hS ?_
  simp only [Act.put, List.setIfInBounds_toArray, List.set_cons_zero, List.set_cons_succ]
  refine held_store (i := 2) (o := ⟨none, Op.store 35 (.tmp 8) (.tmp 70), _, _, _, none⟩) (by kernel_rfl) rfl rfl rfl rfl rfl (store_box _ _ _ _ Y.out.ks.res (bdC_size _)) ⟨Y.out.ks.own.over (by omega) _, Y.out.e.over (by have := Y.out.far; omega) _⟩ ?_
  simp only [Act.put]
  replace HO := Lib.hid (HO.out.over Y.out.ks.res (bdC (b.at p F.length cap)))
  replace Y := Lib.hid (Y.out.tell (r' := (b.at p F.length cap)) rfl)
  refine held_store (i := 3) (o := ⟨none, Op.store 80 (.tmp 9) (.tmp 71), _, _, _, none⟩) (by kernel_rfl) rfl rfl rfl rfl rfl (EBox.store Y.out.ks.eff _ _) ⟨Y.out.ks.own.over (by omega) _, Y.out.e.over (by have := Y.out.far; omega) _⟩ ?_
  simp only [Act.put]
  replace HO := Lib.hid (HO.out.eput Y.out.ks.eff (cs := #[.int .i64 ((ordV v 4 5)), .string ((⟨#[]⟩))]) rfl)
  replace Y := Lib.hid (Y.out.give (k' := (ordV v 4 5)) (s' := (⟨#[]⟩)) rfl)
  replace hS := And.intro Y.out.ks.own Y.out.e
  refine wpAnyH_take (i := 4) (oi := ⟨some 10, Op.assign (.const (.bool true)), _, _, _, none⟩) (v := ?_) rfl (by kernel_rfl) (by kernel_rfl) (by kernel_rfl) (fun _ _ _ h => h) (Or.inl ⟨by rfl, ?_⟩) hS ?_
  rotate_left
  · (intro w hSw; (try dsimp only at hSw); go_simp; try with_reducible rfl)
  simp only [Act.put, List.setIfInBounds_toArray, List.set_cons_zero, List.set_cons_succ]
  refine wpAnyH_done (by kernel_rfl) ?_ _
  go_wp2_with fail
  exact bodyPost_ret (v := .tuple #[bdV (b.at p F.length cap), effV (ordV v 4 5) (⟨#[]⟩), .bool true]) (results_store Try.results37 _ _ (W.heap.size + 1) (W.heap.size + 2) _ _ _ _ rfl Y.out.ks.res rfl Y.out.ks.eff rfl) rfl ⟨p, cap, rfl, HO.out, Y.out.ks.below⟩
set_option maxRecDepth 10000 in
set_option maxHeartbeats 1000000 in
theorem store_3 (b : Bd) (F : List ByteArray) (v : Int) (W : World) (hf : FAt W (.slice b.fp b.fn b.fc) F) (hF : F.length ≤ 8796093022208) (hv : 0 ≤ v ∧ v ≤ 18446744073709551615) : Calls Try.prog 37 #[bdV b, .int .u64 268435456, .int .i64 1, .int .u64 v] W (Told W (stF b F 268435456 1 v).1 (stF b F 268435456 1 v).2.1 (fun x => .tuple #[x, effV (stF b F 268435456 1 v).2.2.1 (stF b F 268435456 1 v).2.2.2.1, .bool (stF b F 268435456 1 v).2.2.2.2])) := by
  have hr : stF b F 268435456 1 v = (b, F, (1), (outS v), true) := rfl
  rw [hr]
  clear hr
  have HFR := Lib.hid hf
  have HFL := Lib.hid hF
  clear hf hF
  have HB := Lib.hid (bytes_one v hv.1 hv.2)
  clear hv
  generalize outS v = sv at HB ⊢
  go_enter Try.func37, Try.ntmps37
  go_upto_region 1 with (fail)
  have X := Lib.hid (KS.new W b)
  generalize ((W.alloc (bdO b)).alloc zeroO).alloc effO = wx at X ⊢
  go_upto_region 27 with (first | (go_at_call 57; (with_reducible refine (size_3 _).mono ?_); rintro e w' ⟨rfl, rfl⟩) | (with_reducible refine wpList_load_by rfl rfl (Box.load X.out.own) rfl ?_) | (go_at_call 26; (with_reducible refine (copy_bd b F _ (HFR.out.next X.out.below) HFL.out).mono ?_); rintro e w2 ⟨p, cap, rfl, ho, k2⟩; have HO := Lib.hid (ho.base X.out.below.size); have X := Lib.hid (X.out.next k2); clear ho k2) | (with_reducible refine w_box X.out.own rfl rfl rfl rfl ?_; intro wy0 hwy; have HO := Lib.hid ((HO.out.put X.out.own hwy).next (below1 _ effO)); have Y := Lib.hid ((X.out.put hwy).more); clear X hwy) | (go_at_call 34; (with_reducible refine (HB.out _).mono ?_); rintro e w3 ⟨rfl, k3⟩; have Y := Lib.hid (Y.out.next k3); have HO := Lib.hid (HO.out.next k3); clear k3) | (with_reducible refine EBox.w_all Y.out.e rfl rfl rfl rfl ?_; intro wy hwy; have HO := Lib.hid (HO.out.eput Y.out.e hwy); have Y := Lib.hid (Y.out.set hwy); clear hwy) | fail)
  refine wp_region_held (S := fun w => Box w W.heap.size (b.at p F.length cap) ∧ EBox w wy0.heap.size (1) sv) (by kernel_rfl) ?_
  have hd : { wy with drawn := wy.drawn + 1 } = wy.drew := rfl
  rw [hd]
  clear hd
  replace Y := Lib.hid (Y.out.next (Below.refl _ _).drew)
  replace HO := Lib.hid (HO.out.next (Below.refl _ _).drew)
  generalize wy.drew = wz at Y HO ⊢
  have hS : Box wz W.heap.size (b.at p F.length cap) ∧ EBox wz wy0.heap.size (1) sv := ⟨Y.out.ks.own, Y.out.e⟩
  refine wpAnyH_take (i := 0) (oi := ⟨some 70, Op.load 35 (.tmp 4), _, _, _, none⟩) (v := _) rfl (by kernel_rfl) (by kernel_rfl) (by kernel_rfl) (fun _ _ _ h => h) (yields_load rfl rfl rfl (fun w hw => hw.1.load)) hS ?_
  simp only [Act.put, List.setIfInBounds_toArray, List.set_cons_zero, List.set_cons_succ]
  refine wpAnyH_take (i := 1) (oi := ⟨some 71, Op.load 80 (.tmp 11), _, _, _, none⟩) (v := _) rfl (by kernel_rfl) (by kernel_rfl) (by kernel_rfl) (fun _ _ _ h => h) (yields_load rfl rfl rfl (fun w hw => hw.2.load)) hS ?_
  simp only [Act.put, List.setIfInBounds_toArray, List.set_cons_zero, List.set_cons_succ]
  refine held_store (i := 2) (o := ⟨none, Op.store 35 (.tmp 8) (.tmp 70), _, _, _, none⟩) (by kernel_rfl) rfl rfl rfl rfl rfl (store_box _ _ _ _ Y.out.ks.res (bdC_size _)) ⟨Y.out.ks.own.over (by omega) _, Y.out.e.over (by have := Y.out.far; omega) _⟩ ?_
  simp only [Act.put]
  replace HO := Lib.hid (HO.out.over Y.out.ks.res (bdC (b.at p F.length cap)))
  replace Y := Lib.hid (Y.out.tell (r' := (b.at p F.length cap)) rfl)
  refine held_store (i := 3) (o := ⟨none, Op.store 80 (.tmp 9) (.tmp 71), _, _, _, none⟩) (by kernel_rfl) rfl rfl rfl rfl rfl (EBox.store Y.out.ks.eff _ _) ⟨Y.out.ks.own.over (by omega) _, Y.out.e.over (by have := Y.out.far; omega) _⟩ ?_
  simp only [Act.put]
  replace HO := Lib.hid (HO.out.eput Y.out.ks.eff (cs := #[.int .i64 ((1)), .string (sv)]) rfl)
  replace Y := Lib.hid (Y.out.give (k' := (1)) (s' := sv) rfl)
  replace hS := And.intro Y.out.ks.own Y.out.e
  refine wpAnyH_take (i := 4) (oi := ⟨some 10, Op.assign (.const (.bool true)), _, _, _, none⟩) (v := ?_) rfl (by kernel_rfl) (by kernel_rfl) (by kernel_rfl) (fun _ _ _ h => h) (Or.inl ⟨by rfl, ?_⟩) hS ?_
  rotate_left
  · (intro w hSw; (try dsimp only at hSw); go_simp; try with_reducible rfl)
  simp only [Act.put, List.setIfInBounds_toArray, List.set_cons_zero, List.set_cons_succ]
  refine wpAnyH_done (by kernel_rfl) ?_ _
  go_wp2_with fail
  exact bodyPost_ret (v := .tuple #[bdV (b.at p F.length cap), effV (1) sv, .bool true]) (results_store Try.results37 _ _ (W.heap.size + 1) (W.heap.size + 2) _ _ _ _ rfl Y.out.ks.res rfl Y.out.ks.eff rfl) rfl ⟨p, cap, rfl, HO.out, Y.out.ks.below⟩
set_option maxRecDepth 10000 in
set_option maxHeartbeats 1000000 in
theorem store_size (b : Bd) (t s u v : Int) (W : World) (c : RowKit.Hid (∀ W, Calls Try.prog 57 #[.int .u64 t] W fun e W' => e = .returned (.int .i64 u) ∧ W = W')) (hs : (s != u) = true) : Calls Try.prog 37 #[bdV b, .int .u64 t, .int .i64 s, .int .u64 v] W (Told W bdZ [] (fun x => .tuple #[x, effV 0 ⟨#[]⟩, .bool false])) := by
  go_enter Try.func37, Try.ntmps37
  go_upto_region 1 with (fail)
  have X := Lib.hid (KS.new W b)
  generalize ((W.alloc (bdO b)).alloc zeroO).alloc effO = wx at X ⊢
  go_wp2_with (first | (go_at_call 57; (with_reducible refine (c.out _).mono ?_); rintro e w' ⟨rfl, rfl⟩) | ((with_reducible show wpList _ _ _ (⟨none, Op.store 35 (.tmp 8) (.tmp 16), _, _, _, _⟩ :: _) _ _); refine w_box (b := bdZ) X.out.res rfl rfl rfl (by rfl) ?_; intro wy hwy; have X := Lib.hid (X.out.tell hwy); clear hwy) | ((with_reducible show wpList _ _ _ (⟨none, Op.store 80 (.tmp 9) (.tmp 17), _, _, _, _⟩ :: _) _ _); refine EBox.w_all (k' := 0) (s' := ⟨#[]⟩) X.out.eff rfl rfl rfl (by rfl) ?_; intro wz hwz; have X := Lib.hid (X.out.give hwz); clear hwz) | fail)
  exact bodyPost_ret (v := .tuple #[bdV bdZ, effV 0 ⟨#[]⟩, .bool false]) (results_store Try.results37 _ _ (W.heap.size + 1) (W.heap.size + 2) _ _ _ _ rfl X.out.res rfl X.out.eff rfl) rfl (told_none (fun x => .tuple #[x, effV 0 ⟨#[]⟩, .bool false]) X.out.below)
set_option maxRecDepth 10000 in
set_option maxHeartbeats 1000000 in
theorem store_r2 (b : Bd) (F : List ByteArray) (v : Int) (W : World) (hf : FAt W (.slice b.fp b.fn b.fc) F) (hF : F.length ≤ 8796093022208) : Calls Try.prog 37 #[bdV b, .int .u64 33603576, .int .i64 8, .int .u64 v] W (Told W bdZ [] (fun x => .tuple #[x, effV 0 ⟨#[]⟩, .bool false])) := by
  have HFR := Lib.hid hf
  have HFL := Lib.hid hF
  clear hf hF
  go_enter Try.func37, Try.ntmps37
  go_upto_region 1 with (fail)
  have X := Lib.hid (KS.new W b)
  generalize ((W.alloc (bdO b)).alloc zeroO).alloc effO = wx at X ⊢
  go_wp2_with (first | (go_at_call 57; (with_reducible refine (size_2 _).mono ?_); rintro e w' ⟨rfl, rfl⟩) | (with_reducible refine wpList_load_by rfl rfl (Box.load X.out.own) rfl ?_) | (go_at_call 26; (with_reducible refine (copy_bd b F _ (HFR.out.next X.out.below) HFL.out).mono ?_); rintro e w2 ⟨p, cap, rfl, ho, k2⟩; have HO := Lib.hid (ho.base X.out.below.size); have X := Lib.hid (X.out.next k2); clear ho k2) | (with_reducible refine w_box X.out.own rfl rfl rfl rfl ?_; intro wy0 hwy; have HO := Lib.hid ((HO.out.put X.out.own hwy).next (below1 _ effO)); have Y := Lib.hid ((X.out.put hwy).more); clear X hwy) | ((with_reducible show wpList _ _ _ (⟨none, Op.store 35 (.tmp 8) (.tmp 21), _, _, _, _⟩ :: _) _ _); refine w_box (b := bdZ) Y.out.ks.res rfl rfl rfl (by rfl) ?_; intro wy hwy; have Y := Lib.hid (Y.out.tell hwy); clear hwy) | ((with_reducible show wpList _ _ _ (⟨none, Op.store 80 (.tmp 9) (.tmp 22), _, _, _, _⟩ :: _) _ _); refine EBox.w_all (k' := 0) (s' := ⟨#[]⟩) Y.out.ks.eff rfl rfl rfl (by rfl) ?_; intro wz hwz; have Y := Lib.hid (Y.out.give hwz); clear hwz) | fail)
  exact bodyPost_ret (v := .tuple #[bdV bdZ, effV 0 ⟨#[]⟩, .bool false]) (results_store Try.results37 _ _ (W.heap.size + 1) (W.heap.size + 2) _ _ _ _ rfl Y.out.ks.res rfl Y.out.ks.eff rfl) rfl (told_none (fun x => .tuple #[x, effV 0 ⟨#[]⟩, .bool false]) Y.out.ks.below)
set_option maxRecDepth 10000 in
set_option maxHeartbeats 1000000 in
theorem store_r5 (b : Bd) (F : List ByteArray) (v : Int) (W : World) (hf : FAt W (.slice b.fp b.fn b.fc) F) (hF : F.length ≤ 8796093022208) : Calls Try.prog 37 #[bdV b, .int .u64 268435461, .int .i64 1, .int .u64 v] W (Told W bdZ [] (fun x => .tuple #[x, effV 0 ⟨#[]⟩, .bool false])) := by
  have HFR := Lib.hid hf
  have HFL := Lib.hid hF
  clear hf hF
  go_enter Try.func37, Try.ntmps37
  go_upto_region 1 with (fail)
  have X := Lib.hid (KS.new W b)
  generalize ((W.alloc (bdO b)).alloc zeroO).alloc effO = wx at X ⊢
  go_wp2_with (first | (go_at_call 57; (with_reducible refine (size_5 _).mono ?_); rintro e w' ⟨rfl, rfl⟩) | (with_reducible refine wpList_load_by rfl rfl (Box.load X.out.own) rfl ?_) | (go_at_call 26; (with_reducible refine (copy_bd b F _ (HFR.out.next X.out.below) HFL.out).mono ?_); rintro e w2 ⟨p, cap, rfl, ho, k2⟩; have HO := Lib.hid (ho.base X.out.below.size); have X := Lib.hid (X.out.next k2); clear ho k2) | (with_reducible refine w_box X.out.own rfl rfl rfl rfl ?_; intro wy0 hwy; have HO := Lib.hid ((HO.out.put X.out.own hwy).next (below1 _ effO)); have Y := Lib.hid ((X.out.put hwy).more); clear X hwy) | ((with_reducible show wpList _ _ _ (⟨none, Op.store 35 (.tmp 8) (.tmp 21), _, _, _, _⟩ :: _) _ _); refine w_box (b := bdZ) Y.out.ks.res rfl rfl rfl (by rfl) ?_; intro wy hwy; have Y := Lib.hid (Y.out.tell hwy); clear hwy) | ((with_reducible show wpList _ _ _ (⟨none, Op.store 80 (.tmp 9) (.tmp 22), _, _, _, _⟩ :: _) _ _); refine EBox.w_all (k' := 0) (s' := ⟨#[]⟩) Y.out.ks.eff rfl rfl rfl (by rfl) ?_; intro wz hwz; have Y := Lib.hid (Y.out.give hwz); clear hwz) | fail)
  exact bodyPost_ret (v := .tuple #[bdV bdZ, effV 0 ⟨#[]⟩, .bool false]) (results_store Try.results37 _ _ (W.heap.size + 1) (W.heap.size + 2) _ _ _ _ rfl Y.out.ks.res rfl Y.out.ks.eff rfl) rfl (told_none (fun x => .tuple #[x, effV 0 ⟨#[]⟩, .bool false]) Y.out.ks.below)
set_option maxRecDepth 10000 in
set_option maxHeartbeats 1000000 in
theorem store_r9 (b : Bd) (F : List ByteArray) (v : Int) (W : World) (hf : FAt W (.slice b.fp b.fn b.fc) F) (hF : F.length ≤ 8796093022208) : Calls Try.prog 37 #[bdV b, .int .u64 268439576, .int .i64 8, .int .u64 v] W (Told W bdZ [] (fun x => .tuple #[x, effV 0 ⟨#[]⟩, .bool false])) := by
  have HFR := Lib.hid hf
  have HFL := Lib.hid hF
  clear hf hF
  go_enter Try.func37, Try.ntmps37
  go_upto_region 1 with (fail)
  have X := Lib.hid (KS.new W b)
  generalize ((W.alloc (bdO b)).alloc zeroO).alloc effO = wx at X ⊢
  go_wp2_with (first | (go_at_call 57; (with_reducible refine (size_9 _).mono ?_); rintro e w' ⟨rfl, rfl⟩) | (with_reducible refine wpList_load_by rfl rfl (Box.load X.out.own) rfl ?_) | (go_at_call 26; (with_reducible refine (copy_bd b F _ (HFR.out.next X.out.below) HFL.out).mono ?_); rintro e w2 ⟨p, cap, rfl, ho, k2⟩; have HO := Lib.hid (ho.base X.out.below.size); have X := Lib.hid (X.out.next k2); clear ho k2) | (with_reducible refine w_box X.out.own rfl rfl rfl rfl ?_; intro wy0 hwy; have HO := Lib.hid ((HO.out.put X.out.own hwy).next (below1 _ effO)); have Y := Lib.hid ((X.out.put hwy).more); clear X hwy) | ((with_reducible show wpList _ _ _ (⟨none, Op.store 35 (.tmp 8) (.tmp 21), _, _, _, _⟩ :: _) _ _); refine w_box (b := bdZ) Y.out.ks.res rfl rfl rfl (by rfl) ?_; intro wy hwy; have Y := Lib.hid (Y.out.tell hwy); clear hwy) | ((with_reducible show wpList _ _ _ (⟨none, Op.store 80 (.tmp 9) (.tmp 22), _, _, _, _⟩ :: _) _ _); refine EBox.w_all (k' := 0) (s' := ⟨#[]⟩) Y.out.ks.eff rfl rfl rfl (by rfl) ?_; intro wz hwz; have Y := Lib.hid (Y.out.give hwz); clear hwz) | fail)
  exact bodyPost_ret (v := .tuple #[bdV bdZ, effV 0 ⟨#[]⟩, .bool false]) (results_store Try.results37 _ _ (W.heap.size + 1) (W.heap.size + 2) _ _ _ _ rfl Y.out.ks.res rfl Y.out.ks.eff rfl) rfl (told_none (fun x => .tuple #[x, effV 0 ⟨#[]⟩, .bool false]) Y.out.ks.below)
set_option maxRecDepth 10000 in
set_option maxHeartbeats 1000000 in
theorem store_r10 (b : Bd) (F : List ByteArray) (v : Int) (W : World) (hf : FAt W (.slice b.fp b.fn b.fc) F) (hF : F.length ≤ 8796093022208) : Calls Try.prog 37 #[bdV b, .int .u64 268443648, .int .i64 8, .int .u64 v] W (Told W bdZ [] (fun x => .tuple #[x, effV 0 ⟨#[]⟩, .bool false])) := by
  have HFR := Lib.hid hf
  have HFL := Lib.hid hF
  clear hf hF
  go_enter Try.func37, Try.ntmps37
  go_upto_region 1 with (fail)
  have X := Lib.hid (KS.new W b)
  generalize ((W.alloc (bdO b)).alloc zeroO).alloc effO = wx at X ⊢
  go_wp2_with (first | (go_at_call 57; (with_reducible refine (size_10 _).mono ?_); rintro e w' ⟨rfl, rfl⟩) | (with_reducible refine wpList_load_by rfl rfl (Box.load X.out.own) rfl ?_) | (go_at_call 26; (with_reducible refine (copy_bd b F _ (HFR.out.next X.out.below) HFL.out).mono ?_); rintro e w2 ⟨p, cap, rfl, ho, k2⟩; have HO := Lib.hid (ho.base X.out.below.size); have X := Lib.hid (X.out.next k2); clear ho k2) | (with_reducible refine w_box X.out.own rfl rfl rfl rfl ?_; intro wy0 hwy; have HO := Lib.hid ((HO.out.put X.out.own hwy).next (below1 _ effO)); have Y := Lib.hid ((X.out.put hwy).more); clear X hwy) | ((with_reducible show wpList _ _ _ (⟨none, Op.store 35 (.tmp 8) (.tmp 21), _, _, _, _⟩ :: _) _ _); refine w_box (b := bdZ) Y.out.ks.res rfl rfl rfl (by rfl) ?_; intro wy hwy; have Y := Lib.hid (Y.out.tell hwy); clear hwy) | ((with_reducible show wpList _ _ _ (⟨none, Op.store 80 (.tmp 9) (.tmp 22), _, _, _, _⟩ :: _) _ _); refine EBox.w_all (k' := 0) (s' := ⟨#[]⟩) Y.out.ks.eff rfl rfl rfl (by rfl) ?_; intro wz hwz; have Y := Lib.hid (Y.out.give hwz); clear hwz) | fail)
  exact bodyPost_ret (v := .tuple #[bdV bdZ, effV 0 ⟨#[]⟩, .bool false]) (results_store Try.results37 _ _ (W.heap.size + 1) (W.heap.size + 2) _ _ _ _ rfl Y.out.ks.res rfl Y.out.ks.eff rfl) rfl (told_none (fun x => .tuple #[x, effV 0 ⟨#[]⟩, .bool false]) Y.out.ks.below)
set_option maxRecDepth 10000 in
set_option maxHeartbeats 1000000 in
theorem store_no (b : Bd) (F : List ByteArray) (t v : Int) (W : World) (hf : FAt W (.slice b.fp b.fn b.fc) F) (hF : F.length ≤ 8796093022208) (h : NoPlace t) : Calls Try.prog 37 #[bdV b, .int .u64 t, .int .i64 0, .int .u64 v] W (Told W bdZ [] (fun x => .tuple #[x, effV 0 ⟨#[]⟩, .bool false])) := by
  have HFR := Lib.hid hf
  have HFL := Lib.hid hF
  clear hf hF
  have c0 := Lib.hid (size_no t h)
  obtain ⟨h0, h1, h2, h3, h4, h5, h6, h7, h8, h9, h10, h11, h12, h13⟩ := h
  go_enter Try.func37, Try.ntmps37
  go_upto_region 1 with (fail)
  have X := Lib.hid (KS.new W b)
  generalize ((W.alloc (bdO b)).alloc zeroO).alloc effO = wx at X ⊢
  go_wp2_with (first | (go_at_call 57; (with_reducible refine (c0.out _).mono ?_); rintro e w' ⟨rfl, rfl⟩) | (with_reducible refine wpList_load_by rfl rfl (Box.load X.out.own) rfl ?_) | (go_at_call 26; (with_reducible refine (copy_bd b F _ (HFR.out.next X.out.below) HFL.out).mono ?_); rintro e w2 ⟨p, cap, rfl, ho, k2⟩; have HO := Lib.hid (ho.base X.out.below.size); have X := Lib.hid (X.out.next k2); clear ho k2) | (with_reducible refine w_box X.out.own rfl rfl rfl rfl ?_; intro wy0 hwy; have HO := Lib.hid ((HO.out.put X.out.own hwy).next (below1 _ effO)); have Y := Lib.hid ((X.out.put hwy).more); clear X hwy) | ((with_reducible show wpList _ _ _ (⟨none, Op.store 35 (.tmp 8) (.tmp 21), _, _, _, _⟩ :: _) _ _); refine w_box (b := bdZ) Y.out.ks.res rfl rfl rfl (by rfl) ?_; intro wy hwy; have Y := Lib.hid (Y.out.tell hwy); clear hwy) | ((with_reducible show wpList _ _ _ (⟨none, Op.store 80 (.tmp 9) (.tmp 22), _, _, _, _⟩ :: _) _ _); refine EBox.w_all (k' := 0) (s' := ⟨#[]⟩) Y.out.ks.eff rfl rfl rfl (by rfl) ?_; intro wz hwz; have Y := Lib.hid (Y.out.give hwz); clear hwz) | fail)
  exact bodyPost_ret (v := .tuple #[bdV bdZ, effV 0 ⟨#[]⟩, .bool false]) (results_store Try.results37 _ _ (W.heap.size + 1) (W.heap.size + 2) _ _ _ _ rfl Y.out.ks.res rfl Y.out.ks.eff rfl) rfl (told_none (fun x => .tuple #[x, effV 0 ⟨#[]⟩, .bool false]) Y.out.ks.below)
theorem store_any (b : Bd) (F : List ByteArray) (t s v : Int) (W : World) (hf : FAt W (.slice b.fp b.fn b.fc) F) (hF : F.length ≤ 8796093022208) (hv : 0 ≤ v ∧ v ≤ 18446744073709551615) : Calls Try.prog 37 #[bdV b, .int .u64 t, .int .i64 s, .int .u64 v] W (Told W (stF b F t s v).1 (stF b F t s v).2.1 (fun x => .tuple #[x, effV (stF b F t s v).2.2.1 (stF b F t s v).2.2.2.1, .bool (stF b F t s v).2.2.2.2])) := by
  by_cases h0 : t = 33554432
  · subst h0
    by_cases hs : s = 4
    · subst hs
      exact store_0 b F v W hf hF
    · rw [stF_none _ _ _ _ _ (by omega)]
      exact store_size b _ s 4 v W (Lib.hid size_0) (by rw [bne_iff_ne]; exact hs)
  by_cases h1 : t = 33570816
  · subst h1
    by_cases hs : s = 8
    · subst hs
      exact store_1 b F v W hf hF
    · rw [stF_none _ _ _ _ _ (by omega)]
      exact store_size b _ s 8 v W (Lib.hid size_1) (by rw [bne_iff_ne]; exact hs)
  by_cases h2 : t = 33603576
  · subst h2
    by_cases hs : s = 8
    · subst hs
      rw [stF_none _ _ _ _ _ (by omega)]
      exact store_r2 b F v W hf hF
    · rw [stF_none _ _ _ _ _ (by omega)]
      exact store_size b _ s 8 v W (Lib.hid size_2) (by rw [bne_iff_ne]; exact hs)
  by_cases h3 : t = 268435456
  · subst h3
    by_cases hs : s = 1
    · subst hs
      exact store_3 b F v W hf hF hv
    · rw [stF_none _ _ _ _ _ (by omega)]
      exact store_size b _ s 1 v W (Lib.hid size_3) (by rw [bne_iff_ne]; exact hs)
  by_cases h4 : t = 268435457
  · subst h4
    by_cases hs : s = 1
    · subst hs
      exact store_4 b F v W hf hF
    · rw [stF_none _ _ _ _ _ (by omega)]
      exact store_size b _ s 1 v W (Lib.hid size_4) (by rw [bne_iff_ne]; exact hs)
  by_cases h5 : t = 268435461
  · subst h5
    by_cases hs : s = 1
    · subst hs
      rw [stF_none _ _ _ _ _ (by omega)]
      exact store_r5 b F v W hf hF
    · rw [stF_none _ _ _ _ _ (by omega)]
      exact store_size b _ s 1 v W (Lib.hid size_5) (by rw [bne_iff_ne]; exact hs)
  by_cases h6 : t = 268439552
  · subst h6
    by_cases hs : s = 8
    · subst hs
      exact store_6 b F v W hf hF
    · rw [stF_none _ _ _ _ _ (by omega)]
      exact store_size b _ s 8 v W (Lib.hid size_6) (by rw [bne_iff_ne]; exact hs)
  by_cases h7 : t = 268439560
  · subst h7
    by_cases hs : s = 8
    · subst hs
      exact store_7 b F v W hf hF
    · rw [stF_none _ _ _ _ _ (by omega)]
      exact store_size b _ s 8 v W (Lib.hid size_7) (by rw [bne_iff_ne]; exact hs)
  by_cases h8 : t = 268439568
  · subst h8
    by_cases hs : s = 8
    · subst hs
      exact store_8 b F v W hf hF
    · rw [stF_none _ _ _ _ _ (by omega)]
      exact store_size b _ s 8 v W (Lib.hid size_8) (by rw [bne_iff_ne]; exact hs)
  by_cases h9 : t = 268439576
  · subst h9
    by_cases hs : s = 8
    · subst hs
      rw [stF_none _ _ _ _ _ (by omega)]
      exact store_r9 b F v W hf hF
    · rw [stF_none _ _ _ _ _ (by omega)]
      exact store_size b _ s 8 v W (Lib.hid size_9) (by rw [bne_iff_ne]; exact hs)
  by_cases h10 : t = 268443648
  · subst h10
    by_cases hs : s = 8
    · subst hs
      rw [stF_none _ _ _ _ _ (by omega)]
      exact store_r10 b F v W hf hF
    · rw [stF_none _ _ _ _ _ (by omega)]
      exact store_size b _ s 8 v W (Lib.hid size_10) (by rw [bne_iff_ne]; exact hs)
  by_cases h11 : t = 268443656
  · subst h11
    by_cases hs : s = 8
    · subst hs
      exact store_11 b F v W hf hF
    · rw [stF_none _ _ _ _ _ (by omega)]
      exact store_size b _ s 8 v W (Lib.hid size_11) (by rw [bne_iff_ne]; exact hs)
  by_cases h12 : t = 268443664
  · subst h12
    by_cases hs : s = 8
    · subst hs
      exact store_12 b F v W hf hF
    · rw [stF_none _ _ _ _ _ (by omega)]
      exact store_size b _ s 8 v W (Lib.hid size_12) (by rw [bne_iff_ne]; exact hs)
  by_cases h13 : t = 268443672
  · subst h13
    by_cases hs : s = 8
    · subst hs
      exact store_13 b F v W hf hF
    · rw [stF_none _ _ _ _ _ (by omega)]
      exact store_size b _ s 8 v W (Lib.hid size_13) (by rw [bne_iff_ne]; exact hs)
  have hn : NoPlace t := ⟨beq_eq_false_iff_ne.2 h0, beq_eq_false_iff_ne.2 h1, beq_eq_false_iff_ne.2 h2, beq_eq_false_iff_ne.2 h3, beq_eq_false_iff_ne.2 h4, beq_eq_false_iff_ne.2 h5, beq_eq_false_iff_ne.2 h6, beq_eq_false_iff_ne.2 h7, beq_eq_false_iff_ne.2 h8, beq_eq_false_iff_ne.2 h9, beq_eq_false_iff_ne.2 h10, beq_eq_false_iff_ne.2 h11, beq_eq_false_iff_ne.2 h12, beq_eq_false_iff_ne.2 h13⟩
  rw [stF_none _ _ _ _ _ (by omega)]
  by_cases hs : s = 0
  · subst hs
    exact store_no b F t v W hf hF hn
  · exact store_size b t s 0 v W (Lib.hid (size_no t hn)) (by rw [bne_iff_ne]; exact hs)

end Go.Proofs.Ytnedhjaphfjdmaa
