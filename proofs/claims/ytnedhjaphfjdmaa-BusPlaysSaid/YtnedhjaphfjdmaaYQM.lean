/- Load of the reference, devices. -/
import Derived.Test.YtnedhjaphfjdmaaYDX
import Derived.StillTailTactics
namespace Go.Proofs.Ytnedhjaphfjdmaa
open Go.RowKit Go.Deep Go.Joins
set_option maxRecDepth 10000 in
set_option maxHeartbeats 1000000 in
theorem rdl_1 (b : Bd) (F : List ByteArray) (n : Int) (W : World) (hf : FAt W (.slice b.fp b.fn b.fc) F) (hF : F.length ≤ 8796093022208) : Calls Try.prog 48 #[bdV b, .int .u64 33570816, .int .i64 8, .int .u64 n] W (Told W (ldF b F 33570816 8 n).1 (ldF b F 33570816 8 n).2.1 (fun v => .tuple #[v, .int .u64 (ldF b F 33570816 8 n).2.2.1, .bool (ldF b F 33570816 8 n).2.2.2])) := by
  have hr : ldF b F 33570816 8 n = (b, F, b.cmp, true) := rfl
  rw [hr]
  clear hr
  have HFR := Lib.hid hf
  have HFL := Lib.hid hF
  clear hf hF
  go_enter Try.func48, Try.ntmps48
  go_upto_region 1 with (fail)
  have X := Lib.hid (KA.new W b)
  generalize (W.alloc (bdO b)).alloc zeroO = wx at X ⊢
  go_upto_region 5 with (first | (with_reducible refine wpList_load_by rfl rfl (Box.load X.out.own) rfl ?_) | (go_at_call 29; (with_reducible refine (rcopy_bd b F _ (HFR.out.next X.out.below) HFL.out).mono ?_); rintro e w2 ⟨p, cap, rfl, ho, k2⟩; have HO := Lib.hid (ho.base X.out.below.size); have X := Lib.hid (X.out.next k2); clear ho k2; have Y := Lib.hid X.out.more0; have HO := Lib.hid (HO.out.next (below1 _ zeroO)); clear X) | (with_reducible refine w_box Y.out.out rfl rfl rfl rfl ?_; intro wy hwy; have HO := Lib.hid (HO.out.put Y.out.out hwy); have Y := Lib.hid (Y.out.put hwy); clear hwy) | (with_reducible refine wpList_load_by rfl rfl (Box.load Y.out.out) rfl ?_) | (with_reducible refine w_box Y.out.res rfl rfl rfl rfl ?_; intro wy hwy; have HO := Lib.hid (HO.out.put Y.out.res hwy); have Y := Lib.hid (Y.out.tell hwy); clear hwy) | fail)
  refine wp_region_held (S := fun w => Box w w2.heap.size (b.at p F.length cap) ∧ Box w W.heap.size b) (by kernel_rfl) ?_
  have hd : { wy with drawn := wy.drawn + 1 } = wy.drew := rfl
  rw [hd]
  clear hd
  replace Y := Lib.hid Y.out.drew
  replace HO := Lib.hid (HO.out.drewN 1)
  have hd : wy.drewN 1 = wy.drew := rfl
  rw [hd] at HO
  clear hd
  generalize wy.drew = wz at Y HO ⊢
  have hS : Box wz w2.heap.size (b.at p F.length cap) ∧ Box wz W.heap.size b := ⟨Y.out.out, Y.out.own⟩
  refine tl 0 hS (fun w hw => hw.1.load) ?_
  refine tk 1 hS ?_
  refine tl 2 hS (fun w hw => hw.2.load_cmp) ?_
  refine held_store (i := 3) (o := ⟨none, Op.store 35 (.tmp 8) (.tmp 32), _, _, _, none⟩) (by kernel_rfl) rfl rfl rfl rfl rfl (store_box _ _ _ _ Y.out.res (bdC_size _)) ⟨Y.out.out.over (by have := Y.out.far; omega) _, Y.out.own.over (by omega) _⟩ ?_
  simp only [puts]
  replace HO := Lib.hid (HO.out.over Y.out.res (bdC (b.at p F.length cap)))
  replace Y := Lib.hid (Y.out.tell (r' := b.at p F.length cap) rfl)
  replace hS := And.intro Y.out.out Y.out.own
  refine tk 4 hS ?_
  refine tk 5 hS ?_
  refine wpAnyH_done (by kernel_rfl) ?_ _
  go_wp2_with (first | (with_reducible refine wpList_load_by rfl rfl (Box.load X.out.own) rfl ?_) | (go_at_call 29; (with_reducible refine (rcopy_bd b F _ (HFR.out.next X.out.below) HFL.out).mono ?_); rintro e w2 ⟨p, cap, rfl, ho, k2⟩; have HO := Lib.hid (ho.base X.out.below.size); have X := Lib.hid (X.out.next k2); clear ho k2; have Y := Lib.hid X.out.more0; have HO := Lib.hid (HO.out.next (below1 _ zeroO)); clear X) | (with_reducible refine w_box Y.out.out rfl rfl rfl rfl ?_; intro wy hwy; have HO := Lib.hid (HO.out.put Y.out.out hwy); have Y := Lib.hid (Y.out.put hwy); clear hwy) | (with_reducible refine wpList_load_by rfl rfl (Box.load Y.out.out) rfl ?_) | (with_reducible refine w_box Y.out.res rfl rfl rfl rfl ?_; intro wy hwy; have HO := Lib.hid (HO.out.put Y.out.res hwy); have Y := Lib.hid (Y.out.tell hwy); clear hwy) | fail)
  exact bodyPost_ret (v := .tuple #[bdV (b.at p F.length cap), .int .u64 (b.cmp), .bool true]) (results_three Try.results48 _ _ (W.heap.size + 1) _ _ _ rfl Y.out.res rfl rfl) rfl ⟨p, cap, rfl, HO.out, Y.out.below⟩
set_option maxRecDepth 10000 in
set_option maxHeartbeats 1000000 in
theorem rdl_6 (b : Bd) (F : List ByteArray) (n : Int) (W : World) (hf : FAt W (.slice b.fp b.fn b.fc) F) (hF : F.length ≤ 8796093022208) : Calls Try.prog 48 #[bdV b, .int .u64 268439552, .int .i64 8, .int .u64 n] W (Told W (ldF b F 268439552 8 n).1 (ldF b F 268439552 8 n).2.1 (fun v => .tuple #[v, .int .u64 (ldF b F 268439552 8 n).2.2.1, .bool (ldF b F 268439552 8 n).2.2.2])) := by
  have hr : ldF b F 268439552 8 n = (b, F, b.sector, true) := rfl
  rw [hr]
  clear hr
  have HFR := Lib.hid hf
  have HFL := Lib.hid hF
  clear hf hF
  go_enter Try.func48, Try.ntmps48
  go_upto_region 1 with (fail)
  have X := Lib.hid (KA.new W b)
  generalize (W.alloc (bdO b)).alloc zeroO = wx at X ⊢
  go_upto_region 18 with (first | (with_reducible refine wpList_load_by rfl rfl (Box.load X.out.own) rfl ?_) | (go_at_call 29; (with_reducible refine (rcopy_bd b F _ (HFR.out.next X.out.below) HFL.out).mono ?_); rintro e w2 ⟨p, cap, rfl, ho, k2⟩; have HO := Lib.hid (ho.base X.out.below.size); have X := Lib.hid (X.out.next k2); clear ho k2; have Y := Lib.hid X.out.more0; have HO := Lib.hid (HO.out.next (below1 _ zeroO)); clear X) | (with_reducible refine w_box Y.out.out rfl rfl rfl rfl ?_; intro wy hwy; have HO := Lib.hid (HO.out.put Y.out.out hwy); have Y := Lib.hid (Y.out.put hwy); clear hwy) | (with_reducible refine wpList_load_by rfl rfl (Box.load Y.out.out) rfl ?_) | (with_reducible refine w_box Y.out.res rfl rfl rfl rfl ?_; intro wy hwy; have HO := Lib.hid (HO.out.put Y.out.res hwy); have Y := Lib.hid (Y.out.tell hwy); clear hwy) | fail)
  refine wp_region_held (S := fun w => Box w w2.heap.size (b.at p F.length cap) ∧ Box w W.heap.size b) (by kernel_rfl) ?_
  have hd : { wy with drawn := wy.drawn + 1 } = wy.drew := rfl
  rw [hd]
  clear hd
  replace Y := Lib.hid Y.out.drew
  replace HO := Lib.hid (HO.out.drewN 1)
  have hd : wy.drewN 1 = wy.drew := rfl
  rw [hd] at HO
  clear hd
  generalize wy.drew = wz at Y HO ⊢
  have hS : Box wz w2.heap.size (b.at p F.length cap) ∧ Box wz W.heap.size b := ⟨Y.out.out, Y.out.own⟩
  refine tl 0 hS (fun w hw => hw.1.load) ?_
  refine tk 1 hS ?_
  refine tl 2 hS (fun w hw => hw.2.load_sector) ?_
  refine held_store (i := 3) (o := ⟨none, Op.store 35 (.tmp 8) (.tmp 97), _, _, _, none⟩) (by kernel_rfl) rfl rfl rfl rfl rfl (store_box _ _ _ _ Y.out.res (bdC_size _)) ⟨Y.out.out.over (by have := Y.out.far; omega) _, Y.out.own.over (by omega) _⟩ ?_
  simp only [puts]
  replace HO := Lib.hid (HO.out.over Y.out.res (bdC (b.at p F.length cap)))
  replace Y := Lib.hid (Y.out.tell (r' := b.at p F.length cap) rfl)
  replace hS := And.intro Y.out.out Y.out.own
  refine tk 4 hS ?_
  refine tk 5 hS ?_
  refine wpAnyH_done (by kernel_rfl) ?_ _
  go_wp2_with (first | (with_reducible refine wpList_load_by rfl rfl (Box.load X.out.own) rfl ?_) | (go_at_call 29; (with_reducible refine (rcopy_bd b F _ (HFR.out.next X.out.below) HFL.out).mono ?_); rintro e w2 ⟨p, cap, rfl, ho, k2⟩; have HO := Lib.hid (ho.base X.out.below.size); have X := Lib.hid (X.out.next k2); clear ho k2; have Y := Lib.hid X.out.more0; have HO := Lib.hid (HO.out.next (below1 _ zeroO)); clear X) | (with_reducible refine w_box Y.out.out rfl rfl rfl rfl ?_; intro wy hwy; have HO := Lib.hid (HO.out.put Y.out.out hwy); have Y := Lib.hid (Y.out.put hwy); clear hwy) | (with_reducible refine wpList_load_by rfl rfl (Box.load Y.out.out) rfl ?_) | (with_reducible refine w_box Y.out.res rfl rfl rfl rfl ?_; intro wy hwy; have HO := Lib.hid (HO.out.put Y.out.res hwy); have Y := Lib.hid (Y.out.tell hwy); clear hwy) | fail)
  exact bodyPost_ret (v := .tuple #[bdV (b.at p F.length cap), .int .u64 (b.sector), .bool true]) (results_three Try.results48 _ _ (W.heap.size + 1) _ _ _ rfl Y.out.res rfl rfl) rfl ⟨p, cap, rfl, HO.out, Y.out.below⟩
set_option maxRecDepth 10000 in
set_option maxHeartbeats 1000000 in
theorem rdl_7 (b : Bd) (F : List ByteArray) (n : Int) (W : World) (hf : FAt W (.slice b.fp b.fn b.fc) F) (hF : F.length ≤ 8796093022208) : Calls Try.prog 48 #[bdV b, .int .u64 268439560, .int .i64 8, .int .u64 n] W (Told W (ldF b F 268439560 8 n).1 (ldF b F 268439560 8 n).2.1 (fun v => .tuple #[v, .int .u64 (ldF b F 268439560 8 n).2.2.1, .bool (ldF b F 268439560 8 n).2.2.2])) := by
  have hr : ldF b F 268439560 8 n = (b, F, b.addr, true) := rfl
  rw [hr]
  clear hr
  have HFR := Lib.hid hf
  have HFL := Lib.hid hF
  clear hf hF
  go_enter Try.func48, Try.ntmps48
  go_upto_region 1 with (fail)
  have X := Lib.hid (KA.new W b)
  generalize (W.alloc (bdO b)).alloc zeroO = wx at X ⊢
  go_upto_region 20 with (first | (with_reducible refine wpList_load_by rfl rfl (Box.load X.out.own) rfl ?_) | (go_at_call 29; (with_reducible refine (rcopy_bd b F _ (HFR.out.next X.out.below) HFL.out).mono ?_); rintro e w2 ⟨p, cap, rfl, ho, k2⟩; have HO := Lib.hid (ho.base X.out.below.size); have X := Lib.hid (X.out.next k2); clear ho k2; have Y := Lib.hid X.out.more0; have HO := Lib.hid (HO.out.next (below1 _ zeroO)); clear X) | (with_reducible refine w_box Y.out.out rfl rfl rfl rfl ?_; intro wy hwy; have HO := Lib.hid (HO.out.put Y.out.out hwy); have Y := Lib.hid (Y.out.put hwy); clear hwy) | (with_reducible refine wpList_load_by rfl rfl (Box.load Y.out.out) rfl ?_) | (with_reducible refine w_box Y.out.res rfl rfl rfl rfl ?_; intro wy hwy; have HO := Lib.hid (HO.out.put Y.out.res hwy); have Y := Lib.hid (Y.out.tell hwy); clear hwy) | fail)
  refine wp_region_held (S := fun w => Box w w2.heap.size (b.at p F.length cap) ∧ Box w W.heap.size b) (by kernel_rfl) ?_
  have hd : { wy with drawn := wy.drawn + 1 } = wy.drew := rfl
  rw [hd]
  clear hd
  replace Y := Lib.hid Y.out.drew
  replace HO := Lib.hid (HO.out.drewN 1)
  have hd : wy.drewN 1 = wy.drew := rfl
  rw [hd] at HO
  clear hd
  generalize wy.drew = wz at Y HO ⊢
  have hS : Box wz w2.heap.size (b.at p F.length cap) ∧ Box wz W.heap.size b := ⟨Y.out.out, Y.out.own⟩
  refine tl 0 hS (fun w hw => hw.1.load) ?_
  refine tk 1 hS ?_
  refine tl 2 hS (fun w hw => hw.2.load_addr) ?_
  refine held_store (i := 3) (o := ⟨none, Op.store 35 (.tmp 8) (.tmp 107), _, _, _, none⟩) (by kernel_rfl) rfl rfl rfl rfl rfl (store_box _ _ _ _ Y.out.res (bdC_size _)) ⟨Y.out.out.over (by have := Y.out.far; omega) _, Y.out.own.over (by omega) _⟩ ?_
  simp only [puts]
  replace HO := Lib.hid (HO.out.over Y.out.res (bdC (b.at p F.length cap)))
  replace Y := Lib.hid (Y.out.tell (r' := b.at p F.length cap) rfl)
  replace hS := And.intro Y.out.out Y.out.own
  refine tk 4 hS ?_
  refine tk 5 hS ?_
  refine wpAnyH_done (by kernel_rfl) ?_ _
  go_wp2_with (first | (with_reducible refine wpList_load_by rfl rfl (Box.load X.out.own) rfl ?_) | (go_at_call 29; (with_reducible refine (rcopy_bd b F _ (HFR.out.next X.out.below) HFL.out).mono ?_); rintro e w2 ⟨p, cap, rfl, ho, k2⟩; have HO := Lib.hid (ho.base X.out.below.size); have X := Lib.hid (X.out.next k2); clear ho k2; have Y := Lib.hid X.out.more0; have HO := Lib.hid (HO.out.next (below1 _ zeroO)); clear X) | (with_reducible refine w_box Y.out.out rfl rfl rfl rfl ?_; intro wy hwy; have HO := Lib.hid (HO.out.put Y.out.out hwy); have Y := Lib.hid (Y.out.put hwy); clear hwy) | (with_reducible refine wpList_load_by rfl rfl (Box.load Y.out.out) rfl ?_) | (with_reducible refine w_box Y.out.res rfl rfl rfl rfl ?_; intro wy hwy; have HO := Lib.hid (HO.out.put Y.out.res hwy); have Y := Lib.hid (Y.out.tell hwy); clear hwy) | fail)
  exact bodyPost_ret (v := .tuple #[bdV (b.at p F.length cap), .int .u64 (b.addr), .bool true]) (results_three Try.results48 _ _ (W.heap.size + 1) _ _ _ rfl Y.out.res rfl rfl) rfl ⟨p, cap, rfl, HO.out, Y.out.below⟩
set_option maxRecDepth 10000 in
set_option maxHeartbeats 1000000 in
theorem rdl_11 (b : Bd) (F : List ByteArray) (n : Int) (W : World) (hf : FAt W (.slice b.fp b.fn b.fc) F) (hF : F.length ≤ 8796093022208) : Calls Try.prog 48 #[bdV b, .int .u64 268443656, .int .i64 8, .int .u64 n] W (Told W (ldF b F 268443656 8 n).1 (ldF b F 268443656 8 n).2.1 (fun v => .tuple #[v, .int .u64 (ldF b F 268443656 8 n).2.2.1, .bool (ldF b F 268443656 8 n).2.2.2])) := by
  have hr : ldF b F 268443656 8 n = (b, F, b.nicA, true) := rfl
  rw [hr]
  clear hr
  have HFR := Lib.hid hf
  have HFL := Lib.hid hF
  clear hf hF
  go_enter Try.func48, Try.ntmps48
  go_upto_region 1 with (fail)
  have X := Lib.hid (KA.new W b)
  generalize (W.alloc (bdO b)).alloc zeroO = wx at X ⊢
  go_upto_region 29 with (first | (with_reducible refine wpList_load_by rfl rfl (Box.load X.out.own) rfl ?_) | (go_at_call 29; (with_reducible refine (rcopy_bd b F _ (HFR.out.next X.out.below) HFL.out).mono ?_); rintro e w2 ⟨p, cap, rfl, ho, k2⟩; have HO := Lib.hid (ho.base X.out.below.size); have X := Lib.hid (X.out.next k2); clear ho k2; have Y := Lib.hid X.out.more0; have HO := Lib.hid (HO.out.next (below1 _ zeroO)); clear X) | (with_reducible refine w_box Y.out.out rfl rfl rfl rfl ?_; intro wy hwy; have HO := Lib.hid (HO.out.put Y.out.out hwy); have Y := Lib.hid (Y.out.put hwy); clear hwy) | (with_reducible refine wpList_load_by rfl rfl (Box.load Y.out.out) rfl ?_) | (with_reducible refine w_box Y.out.res rfl rfl rfl rfl ?_; intro wy hwy; have HO := Lib.hid (HO.out.put Y.out.res hwy); have Y := Lib.hid (Y.out.tell hwy); clear hwy) | fail)
  refine wp_region_held (S := fun w => Box w w2.heap.size (b.at p F.length cap) ∧ Box w W.heap.size b) (by kernel_rfl) ?_
  have hd : { wy with drawn := wy.drawn + 1 } = wy.drew := rfl
  rw [hd]
  clear hd
  replace Y := Lib.hid Y.out.drew
  replace HO := Lib.hid (HO.out.drewN 1)
  have hd : wy.drewN 1 = wy.drew := rfl
  rw [hd] at HO
  clear hd
  generalize wy.drew = wz at Y HO ⊢
  have hS : Box wz w2.heap.size (b.at p F.length cap) ∧ Box wz W.heap.size b := ⟨Y.out.out, Y.out.own⟩
  refine tl 0 hS (fun w hw => hw.1.load) ?_
  refine tk 1 hS ?_
  refine tl 2 hS (fun w hw => hw.2.load_nicA) ?_
  refine held_store (i := 3) (o := ⟨none, Op.store 35 (.tmp 8) (.tmp 152), _, _, _, none⟩) (by kernel_rfl) rfl rfl rfl rfl rfl (store_box _ _ _ _ Y.out.res (bdC_size _)) ⟨Y.out.out.over (by have := Y.out.far; omega) _, Y.out.own.over (by omega) _⟩ ?_
  simp only [puts]
  replace HO := Lib.hid (HO.out.over Y.out.res (bdC (b.at p F.length cap)))
  replace Y := Lib.hid (Y.out.tell (r' := b.at p F.length cap) rfl)
  replace hS := And.intro Y.out.out Y.out.own
  refine tk 4 hS ?_
  refine tk 5 hS ?_
  refine wpAnyH_done (by kernel_rfl) ?_ _
  go_wp2_with (first | (with_reducible refine wpList_load_by rfl rfl (Box.load X.out.own) rfl ?_) | (go_at_call 29; (with_reducible refine (rcopy_bd b F _ (HFR.out.next X.out.below) HFL.out).mono ?_); rintro e w2 ⟨p, cap, rfl, ho, k2⟩; have HO := Lib.hid (ho.base X.out.below.size); have X := Lib.hid (X.out.next k2); clear ho k2; have Y := Lib.hid X.out.more0; have HO := Lib.hid (HO.out.next (below1 _ zeroO)); clear X) | (with_reducible refine w_box Y.out.out rfl rfl rfl rfl ?_; intro wy hwy; have HO := Lib.hid (HO.out.put Y.out.out hwy); have Y := Lib.hid (Y.out.put hwy); clear hwy) | (with_reducible refine wpList_load_by rfl rfl (Box.load Y.out.out) rfl ?_) | (with_reducible refine w_box Y.out.res rfl rfl rfl rfl ?_; intro wy hwy; have HO := Lib.hid (HO.out.put Y.out.res hwy); have Y := Lib.hid (Y.out.tell hwy); clear hwy) | fail)
  exact bodyPost_ret (v := .tuple #[bdV (b.at p F.length cap), .int .u64 (b.nicA), .bool true]) (results_three Try.results48 _ _ (W.heap.size + 1) _ _ _ rfl Y.out.res rfl rfl) rfl ⟨p, cap, rfl, HO.out, Y.out.below⟩
set_option maxRecDepth 10000 in
set_option maxHeartbeats 1000000 in
theorem rdl_13 (b : Bd) (F : List ByteArray) (n : Int) (W : World) (hf : FAt W (.slice b.fp b.fn b.fc) F) (hF : F.length ≤ 8796093022208) : Calls Try.prog 48 #[bdV b, .int .u64 268443672, .int .i64 8, .int .u64 n] W (Told W (ldF b F 268443672 8 n).1 (ldF b F 268443672 8 n).2.1 (fun v => .tuple #[v, .int .u64 (ldF b F 268443672 8 n).2.2.1, .bool (ldF b F 268443672 8 n).2.2.2])) := by
  have hr : ldF b F 268443672 8 n = (b, F, b.nicL, true) := rfl
  rw [hr]
  clear hr
  have HFR := Lib.hid hf
  have HFL := Lib.hid hF
  clear hf hF
  go_enter Try.func48, Try.ntmps48
  go_upto_region 1 with (fail)
  have X := Lib.hid (KA.new W b)
  generalize (W.alloc (bdO b)).alloc zeroO = wx at X ⊢
  go_upto_region 31 with (first | (with_reducible refine wpList_load_by rfl rfl (Box.load X.out.own) rfl ?_) | (go_at_call 29; (with_reducible refine (rcopy_bd b F _ (HFR.out.next X.out.below) HFL.out).mono ?_); rintro e w2 ⟨p, cap, rfl, ho, k2⟩; have HO := Lib.hid (ho.base X.out.below.size); have X := Lib.hid (X.out.next k2); clear ho k2; have Y := Lib.hid X.out.more0; have HO := Lib.hid (HO.out.next (below1 _ zeroO)); clear X) | (with_reducible refine w_box Y.out.out rfl rfl rfl rfl ?_; intro wy hwy; have HO := Lib.hid (HO.out.put Y.out.out hwy); have Y := Lib.hid (Y.out.put hwy); clear hwy) | (with_reducible refine wpList_load_by rfl rfl (Box.load Y.out.out) rfl ?_) | (with_reducible refine w_box Y.out.res rfl rfl rfl rfl ?_; intro wy hwy; have HO := Lib.hid (HO.out.put Y.out.res hwy); have Y := Lib.hid (Y.out.tell hwy); clear hwy) | fail)
  refine wp_region_held (S := fun w => Box w w2.heap.size (b.at p F.length cap) ∧ Box w W.heap.size b) (by kernel_rfl) ?_
  have hd : { wy with drawn := wy.drawn + 1 } = wy.drew := rfl
  rw [hd]
  clear hd
  replace Y := Lib.hid Y.out.drew
  replace HO := Lib.hid (HO.out.drewN 1)
  have hd : wy.drewN 1 = wy.drew := rfl
  rw [hd] at HO
  clear hd
  generalize wy.drew = wz at Y HO ⊢
  have hS : Box wz w2.heap.size (b.at p F.length cap) ∧ Box wz W.heap.size b := ⟨Y.out.out, Y.out.own⟩
  refine tl 0 hS (fun w hw => hw.1.load) ?_
  refine tk 1 hS ?_
  refine tl 2 hS (fun w hw => hw.2.load_nicL) ?_
  refine held_store (i := 3) (o := ⟨none, Op.store 35 (.tmp 8) (.tmp 162), _, _, _, none⟩) (by kernel_rfl) rfl rfl rfl rfl rfl (store_box _ _ _ _ Y.out.res (bdC_size _)) ⟨Y.out.out.over (by have := Y.out.far; omega) _, Y.out.own.over (by omega) _⟩ ?_
  simp only [puts]
  replace HO := Lib.hid (HO.out.over Y.out.res (bdC (b.at p F.length cap)))
  replace Y := Lib.hid (Y.out.tell (r' := b.at p F.length cap) rfl)
  replace hS := And.intro Y.out.out Y.out.own
  refine tk 4 hS ?_
  refine tk 5 hS ?_
  refine wpAnyH_done (by kernel_rfl) ?_ _
  go_wp2_with (first | (with_reducible refine wpList_load_by rfl rfl (Box.load X.out.own) rfl ?_) | (go_at_call 29; (with_reducible refine (rcopy_bd b F _ (HFR.out.next X.out.below) HFL.out).mono ?_); rintro e w2 ⟨p, cap, rfl, ho, k2⟩; have HO := Lib.hid (ho.base X.out.below.size); have X := Lib.hid (X.out.next k2); clear ho k2; have Y := Lib.hid X.out.more0; have HO := Lib.hid (HO.out.next (below1 _ zeroO)); clear X) | (with_reducible refine w_box Y.out.out rfl rfl rfl rfl ?_; intro wy hwy; have HO := Lib.hid (HO.out.put Y.out.out hwy); have Y := Lib.hid (Y.out.put hwy); clear hwy) | (with_reducible refine wpList_load_by rfl rfl (Box.load Y.out.out) rfl ?_) | (with_reducible refine w_box Y.out.res rfl rfl rfl rfl ?_; intro wy hwy; have HO := Lib.hid (HO.out.put Y.out.res hwy); have Y := Lib.hid (Y.out.tell hwy); clear hwy) | fail)
  exact bodyPost_ret (v := .tuple #[bdV (b.at p F.length cap), .int .u64 (b.nicL), .bool true]) (results_three Try.results48 _ _ (W.heap.size + 1) _ _ _ rfl Y.out.res rfl rfl) rfl ⟨p, cap, rfl, HO.out, Y.out.below⟩
set_option maxRecDepth 10000 in
set_option maxHeartbeats 1000000 in
theorem rdl_2 (b : Bd) (F : List ByteArray) (n : Int) (W : World) (hf : FAt W (.slice b.fp b.fn b.fc) F) (hF : F.length ≤ 8796093022208) : Calls Try.prog 48 #[bdV b, .int .u64 33603576, .int .i64 8, .int .u64 n] W (Told W (ldF b F 33603576 8 n).1 (ldF b F 33603576 8 n).2.1 (fun v => .tuple #[v, .int .u64 (ldF b F 33603576 8 n).2.2.1, .bool (ldF b F 33603576 8 n).2.2.2])) := by
  have hr : ldF b F 33603576 8 n = (b, F, n, true) := rfl
  rw [hr]
  clear hr
  have HFR := Lib.hid hf
  have HFL := Lib.hid hF
  clear hf hF
  go_enter Try.func48, Try.ntmps48
  go_upto_region 1 with (fail)
  have X := Lib.hid (KA.new W b)
  generalize (W.alloc (bdO b)).alloc zeroO = wx at X ⊢
  go_wp2_with (first | (with_reducible refine wpList_load_by rfl rfl (Box.load X.out.own) rfl ?_) | (go_at_call 29; (with_reducible refine (rcopy_bd b F _ (HFR.out.next X.out.below) HFL.out).mono ?_); rintro e w2 ⟨p, cap, rfl, ho, k2⟩; have HO := Lib.hid (ho.base X.out.below.size); have X := Lib.hid (X.out.next k2); clear ho k2; have Y := Lib.hid X.out.more0; have HO := Lib.hid (HO.out.next (below1 _ zeroO)); clear X) | (with_reducible refine w_box Y.out.out rfl rfl rfl rfl ?_; intro wy hwy; have HO := Lib.hid (HO.out.put Y.out.out hwy); have Y := Lib.hid (Y.out.put hwy); clear hwy) | (with_reducible refine wpList_load_by rfl rfl (Box.load Y.out.out) rfl ?_) | (with_reducible refine w_box Y.out.res rfl rfl rfl rfl ?_; intro wy hwy; have HO := Lib.hid (HO.out.put Y.out.res hwy); have Y := Lib.hid (Y.out.tell hwy); clear hwy) | fail)
  exact bodyPost_ret (v := .tuple #[bdV (b.at p F.length cap), .int .u64 (n), .bool true]) (results_three Try.results48 _ _ (W.heap.size + 1) _ _ _ rfl Y.out.res rfl rfl) rfl ⟨p, cap, rfl, HO.out, Y.out.below⟩
set_option maxRecDepth 10000 in
set_option maxHeartbeats 1000000 in
theorem rdl_0 (b : Bd) (F : List ByteArray) (n : Int) (W : World) (hf : FAt W (.slice b.fp b.fn b.fc) F) (hF : F.length ≤ 8796093022208) : Calls Try.prog 48 #[bdV b, .int .u64 33554432, .int .i64 4, .int .u64 n] W (Told W (ldF b F 33554432 4 n).1 (ldF b F 33554432 4 n).2.1 (fun v => .tuple #[v, .int .u64 (ldF b F 33554432 4 n).2.2.1, .bool (ldF b F 33554432 4 n).2.2.2])) := by
  have hr : ldF b F 33554432 4 n = (b, F, bV b.msip 0, true) := rfl
  rw [hr]
  clear hr
  have HFR := Lib.hid hf
  have HFL := Lib.hid hF
  clear hf hF
  go_enter Try.func48, Try.ntmps48
  go_upto_region 1 with (fail)
  have X := Lib.hid (KA.new W b)
  generalize (W.alloc (bdO b)).alloc zeroO = wx at X ⊢
  go_upto_region 3 with (first | (with_reducible refine wpList_load_by rfl rfl (Box.load X.out.own) rfl ?_) | (go_at_call 29; (with_reducible refine (rcopy_bd b F _ (HFR.out.next X.out.below) HFL.out).mono ?_); rintro e w2 ⟨p, cap, rfl, ho, k2⟩; have HO := Lib.hid (ho.base X.out.below.size); have X := Lib.hid (X.out.next k2); clear ho k2; have Y := Lib.hid X.out.more0; have HO := Lib.hid (HO.out.next (below1 _ zeroO)); clear X) | (with_reducible refine w_box Y.out.out rfl rfl rfl rfl ?_; intro wy hwy; have HO := Lib.hid (HO.out.put Y.out.out hwy); have Y := Lib.hid (Y.out.put hwy); clear hwy) | (with_reducible refine wpList_load_by rfl rfl (Box.load Y.out.out) rfl ?_) | (with_reducible refine w_box Y.out.res rfl rfl rfl rfl ?_; intro wy hwy; have HO := Lib.hid (HO.out.put Y.out.res hwy); have Y := Lib.hid (Y.out.tell hwy); clear hwy) | fail)
  refine wp_region_still_tail 4 (by kernel_rfl) (by kernel_rfl) ?_
  simp only [List.take_succ_cons, List.take_zero, List.drop_succ_cons, List.drop_zero]
  have hd : { wy with drawn := wy.drawn + 1 } = wy.drew := rfl
  rw [hd]
  clear hd
  replace Y := Lib.hid Y.out.drew
  replace HO := Lib.hid (HO.out.drewN 1)
  have hd : wy.drewN 1 = wy.drew := rfl
  rw [hd] at HO
  clear hd
  generalize wy.drew = wz at Y HO ⊢
  (with_reducible refine still_load rfl rfl (Box.load Y.out.out) rfl ?_)
  simp only [puts]
  still_step
  (with_reducible refine still_load rfl rfl (Box.load_msip Y.out.own) rfl ?_)
  simp only [puts]
  still_call ((rbit_0 _ _).mono fun _ _ h => ⟨h.1, h.2.symm⟩)
  refine wpStill_nil ?_
  go_wp2_with (first | (with_reducible refine wpList_load_by rfl rfl (Box.load X.out.own) rfl ?_) | (go_at_call 29; (with_reducible refine (rcopy_bd b F _ (HFR.out.next X.out.below) HFL.out).mono ?_); rintro e w2 ⟨p, cap, rfl, ho, k2⟩; have HO := Lib.hid (ho.base X.out.below.size); have X := Lib.hid (X.out.next k2); clear ho k2; have Y := Lib.hid X.out.more0; have HO := Lib.hid (HO.out.next (below1 _ zeroO)); clear X) | (with_reducible refine w_box Y.out.out rfl rfl rfl rfl ?_; intro wy hwy; have HO := Lib.hid (HO.out.put Y.out.out hwy); have Y := Lib.hid (Y.out.put hwy); clear hwy) | (with_reducible refine wpList_load_by rfl rfl (Box.load Y.out.out) rfl ?_) | (with_reducible refine w_box Y.out.res rfl rfl rfl rfl ?_; intro wy hwy; have HO := Lib.hid (HO.out.put Y.out.res hwy); have Y := Lib.hid (Y.out.tell hwy); clear hwy) | fail)
  exact bodyPost_ret (v := .tuple #[bdV (b.at p F.length cap), .int .u64 (bV b.msip 0), .bool true]) (results_three Try.results48 _ _ (W.heap.size + 1) _ _ _ rfl Y.out.res rfl rfl) rfl ⟨p, cap, rfl, HO.out, Y.out.below⟩
set_option maxRecDepth 10000 in
set_option maxHeartbeats 1000000 in
theorem rdl_4 (b : Bd) (F : List ByteArray) (n : Int) (W : World) (hf : FAt W (.slice b.fp b.fn b.fc) F) (hF : F.length ≤ 8796093022208) : Calls Try.prog 48 #[bdV b, .int .u64 268435457, .int .i64 1, .int .u64 n] W (Told W (ldF b F 268435457 1 n).1 (ldF b F 268435457 1 n).2.1 (fun v => .tuple #[v, .int .u64 (ldF b F 268435457 1 n).2.2.1, .bool (ldF b F 268435457 1 n).2.2.2])) := by
  have hr : ldF b F 268435457 1 n = (b, F, bV b.ier 0, true) := rfl
  rw [hr]
  clear hr
  have HFR := Lib.hid hf
  have HFL := Lib.hid hF
  clear hf hF
  go_enter Try.func48, Try.ntmps48
  go_upto_region 1 with (fail)
  have X := Lib.hid (KA.new W b)
  generalize (W.alloc (bdO b)).alloc zeroO = wx at X ⊢
  go_upto_region 14 with (first | (with_reducible refine wpList_load_by rfl rfl (Box.load X.out.own) rfl ?_) | (go_at_call 29; (with_reducible refine (rcopy_bd b F _ (HFR.out.next X.out.below) HFL.out).mono ?_); rintro e w2 ⟨p, cap, rfl, ho, k2⟩; have HO := Lib.hid (ho.base X.out.below.size); have X := Lib.hid (X.out.next k2); clear ho k2; have Y := Lib.hid X.out.more0; have HO := Lib.hid (HO.out.next (below1 _ zeroO)); clear X) | (with_reducible refine w_box Y.out.out rfl rfl rfl rfl ?_; intro wy hwy; have HO := Lib.hid (HO.out.put Y.out.out hwy); have Y := Lib.hid (Y.out.put hwy); clear hwy) | (with_reducible refine wpList_load_by rfl rfl (Box.load Y.out.out) rfl ?_) | (with_reducible refine w_box Y.out.res rfl rfl rfl rfl ?_; intro wy hwy; have HO := Lib.hid (HO.out.put Y.out.res hwy); have Y := Lib.hid (Y.out.tell hwy); clear hwy) | fail)
  refine wp_region_still_tail 4 (by kernel_rfl) (by kernel_rfl) ?_
  simp only [List.take_succ_cons, List.take_zero, List.drop_succ_cons, List.drop_zero]
  have hd : { wy with drawn := wy.drawn + 1 } = wy.drew := rfl
  rw [hd]
  clear hd
  replace Y := Lib.hid Y.out.drew
  replace HO := Lib.hid (HO.out.drewN 1)
  have hd : wy.drewN 1 = wy.drew := rfl
  rw [hd] at HO
  clear hd
  generalize wy.drew = wz at Y HO ⊢
  (with_reducible refine still_load rfl rfl (Box.load Y.out.out) rfl ?_)
  simp only [puts]
  still_step
  (with_reducible refine still_load rfl rfl (Box.load_ier Y.out.own) rfl ?_)
  simp only [puts]
  still_call ((rbit_0 _ _).mono fun _ _ h => ⟨h.1, h.2.symm⟩)
  refine wpStill_nil ?_
  go_wp2_with (first | (with_reducible refine wpList_load_by rfl rfl (Box.load X.out.own) rfl ?_) | (go_at_call 29; (with_reducible refine (rcopy_bd b F _ (HFR.out.next X.out.below) HFL.out).mono ?_); rintro e w2 ⟨p, cap, rfl, ho, k2⟩; have HO := Lib.hid (ho.base X.out.below.size); have X := Lib.hid (X.out.next k2); clear ho k2; have Y := Lib.hid X.out.more0; have HO := Lib.hid (HO.out.next (below1 _ zeroO)); clear X) | (with_reducible refine w_box Y.out.out rfl rfl rfl rfl ?_; intro wy hwy; have HO := Lib.hid (HO.out.put Y.out.out hwy); have Y := Lib.hid (Y.out.put hwy); clear hwy) | (with_reducible refine wpList_load_by rfl rfl (Box.load Y.out.out) rfl ?_) | (with_reducible refine w_box Y.out.res rfl rfl rfl rfl ?_; intro wy hwy; have HO := Lib.hid (HO.out.put Y.out.res hwy); have Y := Lib.hid (Y.out.tell hwy); clear hwy) | fail)
  exact bodyPost_ret (v := .tuple #[bdV (b.at p F.length cap), .int .u64 (bV b.ier 0), .bool true]) (results_three Try.results48 _ _ (W.heap.size + 1) _ _ _ rfl Y.out.res rfl rfl) rfl ⟨p, cap, rfl, HO.out, Y.out.below⟩
set_option maxRecDepth 10000 in
set_option maxHeartbeats 1000000 in
theorem rdl_5 (b : Bd) (F : List ByteArray) (n : Int) (W : World) (hf : FAt W (.slice b.fp b.fn b.fc) F) (hF : F.length ≤ 8796093022208) : Calls Try.prog 48 #[bdV b, .int .u64 268435461, .int .i64 1, .int .u64 n] W (Told W (ldF b F 268435461 1 n).1 (ldF b F 268435461 1 n).2.1 (fun v => .tuple #[v, .int .u64 (ldF b F 268435461 1 n).2.2.1, .bool (ldF b F 268435461 1 n).2.2.2])) := by
  have hr : ldF b F 268435461 1 n = (b, F, bits .or .u64 (bV (decide (0 < b.inn.size)) 0) 96, true) := rfl
  rw [hr]
  clear hr
  have HFR := Lib.hid hf
  have HFL := Lib.hid hF
  clear hf hF
  go_enter Try.func48, Try.ntmps48
  go_upto_region 1 with (fail)
  have X := Lib.hid (KA.new W b)
  generalize (W.alloc (bdO b)).alloc zeroO = wx at X ⊢
  go_upto_region 16 with (first | (with_reducible refine wpList_load_by rfl rfl (Box.load X.out.own) rfl ?_) | (go_at_call 29; (with_reducible refine (rcopy_bd b F _ (HFR.out.next X.out.below) HFL.out).mono ?_); rintro e w2 ⟨p, cap, rfl, ho, k2⟩; have HO := Lib.hid (ho.base X.out.below.size); have X := Lib.hid (X.out.next k2); clear ho k2; have Y := Lib.hid X.out.more0; have HO := Lib.hid (HO.out.next (below1 _ zeroO)); clear X) | (with_reducible refine w_box Y.out.out rfl rfl rfl rfl ?_; intro wy hwy; have HO := Lib.hid (HO.out.put Y.out.out hwy); have Y := Lib.hid (Y.out.put hwy); clear hwy) | (with_reducible refine wpList_load_by rfl rfl (Box.load Y.out.out) rfl ?_) | (with_reducible refine w_box Y.out.res rfl rfl rfl rfl ?_; intro wy hwy; have HO := Lib.hid (HO.out.put Y.out.res hwy); have Y := Lib.hid (Y.out.tell hwy); clear hwy) | fail)
  refine wp_region_held (S := fun w => Box w w2.heap.size (b.at p F.length cap) ∧ Box w W.heap.size b) (by kernel_rfl) ?_
  have hd : { wy with drawn := wy.drawn + 1 } = wy.drew := rfl
  rw [hd]
  clear hd
  replace Y := Lib.hid Y.out.drew
  replace HO := Lib.hid (HO.out.drewN 1)
  have hd : wy.drewN 1 = wy.drew := rfl
  rw [hd] at HO
  clear hd
  generalize wy.drew = wz at Y HO ⊢
  have hS : Box wz w2.heap.size (b.at p F.length cap) ∧ Box wz W.heap.size b := ⟨Y.out.out, Y.out.own⟩
  refine tl 0 hS (fun w hw => hw.1.load) ?_
  refine tk 1 hS ?_
  refine tl 2 hS (fun w hw => hw.2.load_inn) ?_
  refine tk 3 hS ?_
  refine tk 4 hS ?_
  refine held_call (i := 5) (o := ⟨some 88, Op.call { callee := .value (.func 45), args := #[.tmp 87, .const (.int .u64 0)], argTypes := #[4, 59] }, _, _, _, none⟩) (by kernel_rfl) rfl rfl (by go_simp) (rbit_0 (decide (0 < b.inn.size)) _) hS ?_
  simp only [puts]
  refine tk 6 hS ?_
  refine held_store (i := 7) (o := ⟨none, Op.store 35 (.tmp 8) (.tmp 83), _, _, _, none⟩) (by kernel_rfl) rfl rfl rfl rfl rfl (store_box _ _ _ _ Y.out.res (bdC_size _)) ⟨Y.out.out.over (by have := Y.out.far; omega) _, Y.out.own.over (by omega) _⟩ ?_
  simp only [puts]
  replace HO := Lib.hid (HO.out.over Y.out.res (bdC (b.at p F.length cap)))
  replace Y := Lib.hid (Y.out.tell (r' := (b.at p F.length cap)) rfl)
  replace hS := And.intro Y.out.out Y.out.own
  refine tk 8 hS ?_
  refine tk 9 hS ?_
  refine wpAnyH_done (by kernel_rfl) ?_ _
  go_wp2_with (first | (with_reducible refine wpList_load_by rfl rfl (Box.load X.out.own) rfl ?_) | (go_at_call 29; (with_reducible refine (rcopy_bd b F _ (HFR.out.next X.out.below) HFL.out).mono ?_); rintro e w2 ⟨p, cap, rfl, ho, k2⟩; have HO := Lib.hid (ho.base X.out.below.size); have X := Lib.hid (X.out.next k2); clear ho k2; have Y := Lib.hid X.out.more0; have HO := Lib.hid (HO.out.next (below1 _ zeroO)); clear X) | (with_reducible refine w_box Y.out.out rfl rfl rfl rfl ?_; intro wy hwy; have HO := Lib.hid (HO.out.put Y.out.out hwy); have Y := Lib.hid (Y.out.put hwy); clear hwy) | (with_reducible refine wpList_load_by rfl rfl (Box.load Y.out.out) rfl ?_) | (with_reducible refine w_box Y.out.res rfl rfl rfl rfl ?_; intro wy hwy; have HO := Lib.hid (HO.out.put Y.out.res hwy); have Y := Lib.hid (Y.out.tell hwy); clear hwy) | fail)
  exact bodyPost_ret (v := .tuple #[bdV (b.at p F.length cap), .int .u64 (bits .or .u64 (bV (decide (0 < b.inn.size)) 0) 96), .bool true]) (results_three Try.results48 _ _ (W.heap.size + 1) _ _ _ rfl Y.out.res rfl rfl) rfl ⟨p, cap, rfl, HO.out, Y.out.below⟩
set_option maxRecDepth 10000 in
set_option maxHeartbeats 1000000 in
theorem rdl_9 (b : Bd) (F : List ByteArray) (n : Int) (W : World) (hf : FAt W (.slice b.fp b.fn b.fc) F) (hF : F.length ≤ 8796093022208) : Calls Try.prog 48 #[bdV b, .int .u64 268439576, .int .i64 8, .int .u64 n] W (Told W (ldF b F 268439576 8 n).1 (ldF b F 268439576 8 n).2.1 (fun v => .tuple #[v, .int .u64 (ldF b F 268439576 8 n).2.2.1, .bool (ldF b F 268439576 8 n).2.2.2])) := by
  have hr : ldF b F 268439576 8 n = ({ b with done := false }, F, bits .or .u64 (bV b.done 0) (bV b.bad 1), true) := rfl
  rw [hr]
  clear hr
  have HFR := Lib.hid hf
  have HFL := Lib.hid hF
  clear hf hF
  go_enter Try.func48, Try.ntmps48
  go_upto_region 1 with (fail)
  have X := Lib.hid (KA.new W b)
  generalize (W.alloc (bdO b)).alloc zeroO = wx at X ⊢
  go_upto_region 23 with (first | (with_reducible refine wpList_load_by rfl rfl (Box.load X.out.own) rfl ?_) | (go_at_call 29; (with_reducible refine (rcopy_bd b F _ (HFR.out.next X.out.below) HFL.out).mono ?_); rintro e w2 ⟨p, cap, rfl, ho, k2⟩; have HO := Lib.hid (ho.base X.out.below.size); have X := Lib.hid (X.out.next k2); clear ho k2; have Y := Lib.hid X.out.more0; have HO := Lib.hid (HO.out.next (below1 _ zeroO)); clear X) | (with_reducible refine w_box Y.out.out rfl rfl rfl rfl ?_; intro wy hwy; have HO := Lib.hid (HO.out.put Y.out.out hwy); have Y := Lib.hid (Y.out.put hwy); clear hwy) | (with_reducible refine wpList_load_by rfl rfl (Box.load Y.out.out) rfl ?_) | (with_reducible refine w_box Y.out.res rfl rfl rfl rfl ?_; intro wy hwy; have HO := Lib.hid (HO.out.put Y.out.res hwy); have Y := Lib.hid (Y.out.tell hwy); clear hwy) | (with_reducible refine Box.w_done Y.out.out rfl rfl rfl rfl ?_; intro wy hwy; have HO := Lib.hid (HO.out.put Y.out.out hwy); have Y := Lib.hid (Y.out.put hwy); clear hwy) | fail)
  refine wp_region_held (S := fun w => Box w w2.heap.size ({ (b.at p F.length cap) with done := false } : Bd) ∧ Box w W.heap.size b) (by kernel_rfl) ?_
  have hd : { wy with drawn := wy.drawn + 1 } = wy.drew := rfl
  rw [hd]
  clear hd
  replace Y := Lib.hid Y.out.drew
  replace HO := Lib.hid (HO.out.drewN 1)
  have hd : wy.drewN 1 = wy.drew := rfl
  rw [hd] at HO
  clear hd
  generalize wy.drew = wz at Y HO ⊢
  have hS : Box wz w2.heap.size ({ (b.at p F.length cap) with done := false } : Bd) ∧ Box wz W.heap.size b := ⟨Y.out.out, Y.out.own⟩
  refine tl 0 hS (fun w hw => hw.1.load) ?_
  refine tk 1 hS ?_
  refine tl 2 hS (fun w hw => hw.2.load_done) ?_
  refine tk 4 hS ?_
  refine tl 5 hS (fun w hw => hw.2.load_bad) ?_
  refine held_call (i := 3) (o := ⟨some 121, Op.call { callee := .value (.func 45), args := #[.tmp 120, .const (.int .u64 0)], argTypes := #[4, 59] }, _, _, _, none⟩) (by kernel_rfl) rfl rfl (by go_simp) (rbit_0 b.done _) hS ?_
  simp only [puts]
  refine held_call (i := 6) (o := ⟨some 124, Op.call { callee := .value (.func 45), args := #[.tmp 123, .const (.int .u64 1)], argTypes := #[4, 59] }, _, _, _, none⟩) (by kernel_rfl) rfl rfl (by go_simp) (rbit_1 b.bad _) hS ?_
  simp only [puts]
  refine tk 7 hS ?_
  refine held_store (i := 8) (o := ⟨none, Op.store 35 (.tmp 8) (.tmp 118), _, _, _, none⟩) (by kernel_rfl) rfl rfl rfl rfl rfl (store_box _ _ _ _ Y.out.res (bdC_size _)) ⟨Y.out.out.over (by have := Y.out.far; omega) _, Y.out.own.over (by omega) _⟩ ?_
  simp only [puts]
  replace HO := Lib.hid (HO.out.over Y.out.res (bdC ({ (b.at p F.length cap) with done := false } : Bd)))
  replace Y := Lib.hid (Y.out.tell (r' := ({ (b.at p F.length cap) with done := false } : Bd)) rfl)
  replace hS := And.intro Y.out.out Y.out.own
  refine tk 9 hS ?_
  refine tk 10 hS ?_
  refine wpAnyH_done (by kernel_rfl) ?_ _
  go_wp2_with (first | (with_reducible refine wpList_load_by rfl rfl (Box.load X.out.own) rfl ?_) | (go_at_call 29; (with_reducible refine (rcopy_bd b F _ (HFR.out.next X.out.below) HFL.out).mono ?_); rintro e w2 ⟨p, cap, rfl, ho, k2⟩; have HO := Lib.hid (ho.base X.out.below.size); have X := Lib.hid (X.out.next k2); clear ho k2; have Y := Lib.hid X.out.more0; have HO := Lib.hid (HO.out.next (below1 _ zeroO)); clear X) | (with_reducible refine w_box Y.out.out rfl rfl rfl rfl ?_; intro wy hwy; have HO := Lib.hid (HO.out.put Y.out.out hwy); have Y := Lib.hid (Y.out.put hwy); clear hwy) | (with_reducible refine wpList_load_by rfl rfl (Box.load Y.out.out) rfl ?_) | (with_reducible refine w_box Y.out.res rfl rfl rfl rfl ?_; intro wy hwy; have HO := Lib.hid (HO.out.put Y.out.res hwy); have Y := Lib.hid (Y.out.tell hwy); clear hwy) | fail)
  exact bodyPost_ret (v := .tuple #[bdV ({ (b.at p F.length cap) with done := false }), .int .u64 (bits .or .u64 (bV b.done 0) (bV b.bad 1)), .bool true]) (results_three Try.results48 _ _ (W.heap.size + 1) _ _ _ rfl Y.out.res rfl rfl) rfl ⟨p, cap, rfl, HO.out, Y.out.below⟩
set_option maxRecDepth 10000 in
set_option maxHeartbeats 1000000 in
theorem rdl_3a (b : Bd) (F : List ByteArray) (n : Int) (W : World) (hf : FAt W (.slice b.fp b.fn b.fc) F) (hF : F.length ≤ 8796093022208) (h0 : ¬ 0 < b.inn.size) : Calls Try.prog 48 #[bdV b, .int .u64 268435456, .int .i64 1, .int .u64 n] W (Told W (ldF b F 268435456 1 n).1 (ldF b F 268435456 1 n).2.1 (fun v => .tuple #[v, .int .u64 (ldF b F 268435456 1 n).2.2.1, .bool (ldF b F 268435456 1 n).2.2.2])) := by
  have hr : ldF b F 268435456 1 n = ({ b with inn := tailS b.inn }, F, headS b.inn, true) := rfl
  rw [hr]
  clear hr
  have HFR := Lib.hid hf
  have HFL := Lib.hid hF
  clear hf hF
  have e0 : b.inn.toList.isEmpty = true := by have h := in_none b.inn; rw [decide_eq_false (by omega)] at h; simpa using h
  have e1 : b.inn.size = 0 := by omega
  have HT : RowKit.Hid (headS b.inn = 0 ∧ tailS b.inn = b.inn) := Lib.hid ⟨dif_neg (by omega), if_neg (by omega)⟩
  rw [HT.out.1, HT.out.2]
  go_enter Try.func48, Try.ntmps48
  go_upto_region 1 with (fail)
  have X := Lib.hid (KA.new W b)
  generalize (W.alloc (bdO b)).alloc zeroO = wx at X ⊢
  go_wp2_with (first | (with_reducible refine wpList_load_by rfl rfl (Box.load X.out.own) rfl ?_) | (go_at_call 29; (with_reducible refine (rcopy_bd b F _ (HFR.out.next X.out.below) HFL.out).mono ?_); rintro e w2 ⟨p, cap, rfl, ho, k2⟩; have HO := Lib.hid (ho.base X.out.below.size); have X := Lib.hid (X.out.next k2); clear ho k2; have Y := Lib.hid X.out.more0; have HO := Lib.hid (HO.out.next (below1 _ zeroO)); clear X) | (with_reducible refine w_box Y.out.out rfl rfl rfl rfl ?_; intro wy hwy; have HO := Lib.hid (HO.out.put Y.out.out hwy); have Y := Lib.hid (Y.out.put hwy); clear hwy) | (with_reducible refine wpList_load_by rfl rfl (Box.load Y.out.out) rfl ?_) | (with_reducible refine w_box Y.out.res rfl rfl rfl rfl ?_; intro wy hwy; have HO := Lib.hid (HO.out.put Y.out.res hwy); have Y := Lib.hid (Y.out.tell hwy); clear hwy) | (with_reducible refine wpList_load_by rfl rfl (Box.load_inn Y.out.own) rfl ?_) | fail)
  exact bodyPost_ret (v := .tuple #[bdV (b.at p F.length cap), .int .u64 (0), .bool true]) (results_three Try.results48 _ _ (W.heap.size + 1) _ _ _ rfl Y.out.res rfl rfl) rfl ⟨p, cap, rfl, HO.out, Y.out.below⟩
set_option maxRecDepth 10000 in
set_option maxHeartbeats 1000000 in
theorem rdl_3b (b : Bd) (F : List ByteArray) (n : Int) (W : World) (hf : FAt W (.slice b.fp b.fn b.fc) F) (hF : F.length ≤ 8796093022208) (h0 : 0 < b.inn.size) : Calls Try.prog 48 #[bdV b, .int .u64 268435456, .int .i64 1, .int .u64 n] W (Told W (ldF b F 268435456 1 n).1 (ldF b F 268435456 1 n).2.1 (fun v => .tuple #[v, .int .u64 (ldF b F 268435456 1 n).2.2.1, .bool (ldF b F 268435456 1 n).2.2.2])) := by
  have hr : ldF b F 268435456 1 n = ({ b with inn := tailS b.inn }, F, headS b.inn, true) := rfl
  rw [hr]
  clear hr
  have HFR := Lib.hid hf
  have HFL := Lib.hid hF
  clear hf hF
  have e0 : b.inn.toList.isEmpty = false := by have h := in_none b.inn; rw [decide_eq_true h0] at h; simpa using h
  have HT : RowKit.Hid (headS b.inn = IntKind.u64.wrap (b.inn[0].toNat : Int) ∧ tailS b.inn = b.inn.extract 1 b.inn.size) := Lib.hid ⟨by unfold headS; rw [dif_pos h0, IntKind.wrap_u64]; have := b.inn[0].toNat_lt; omega, if_pos h0⟩
  rw [HT.out.1, HT.out.2]
  have e1 : b.inn.toList ≠ [] := by rw [List.isEmpty_eq_false_iff] at e0; exact e0
  have e2 : (1 : Int) ≤ b.inn.size := by omega
  have e3 : ¬ b.inn.size = 0 := by omega
  go_enter Try.func48, Try.ntmps48
  go_upto_region 1 with (fail)
  have X := Lib.hid (KA.new W b)
  generalize (W.alloc (bdO b)).alloc zeroO = wx at X ⊢
  go_upto_region 12 with (first | (with_reducible refine wpList_load_by rfl rfl (Box.load X.out.own) rfl ?_) | (go_at_call 29; (with_reducible refine (rcopy_bd b F _ (HFR.out.next X.out.below) HFL.out).mono ?_); rintro e w2 ⟨p, cap, rfl, ho, k2⟩; have HO := Lib.hid (ho.base X.out.below.size); have X := Lib.hid (X.out.next k2); clear ho k2; have Y := Lib.hid X.out.more0; have HO := Lib.hid (HO.out.next (below1 _ zeroO)); clear X) | (with_reducible refine w_box Y.out.out rfl rfl rfl rfl ?_; intro wy hwy; have HO := Lib.hid (HO.out.put Y.out.out hwy); have Y := Lib.hid (Y.out.put hwy); clear hwy) | (with_reducible refine wpList_load_by rfl rfl (Box.load Y.out.out) rfl ?_) | (with_reducible refine w_box Y.out.res rfl rfl rfl rfl ?_; intro wy hwy; have HO := Lib.hid (HO.out.put Y.out.res hwy); have Y := Lib.hid (Y.out.tell hwy); clear hwy) | (with_reducible refine wpList_load_by rfl rfl (Box.load_inn Y.out.own) rfl ?_) | (with_reducible refine Box.w_inn Y.out.out rfl rfl rfl rfl ?_; intro wy hwy; have HO := Lib.hid (HO.out.put Y.out.out hwy); have Y := Lib.hid (Y.out.put hwy); clear hwy) | fail)
  refine wp_region_held (S := fun w => Box w w2.heap.size ({ (b.at p F.length cap) with inn := b.inn.extract 1 b.inn.size } : Bd) ∧ Box w W.heap.size b) (by kernel_rfl) ?_
  have hd : { wy with drawn := wy.drawn + 1 } = wy.drew := rfl
  rw [hd]
  clear hd
  replace Y := Lib.hid Y.out.drew
  replace HO := Lib.hid (HO.out.drewN 1)
  have hd : wy.drewN 1 = wy.drew := rfl
  rw [hd] at HO
  clear hd
  generalize wy.drew = wz at Y HO ⊢
  have hS : Box wz w2.heap.size ({ (b.at p F.length cap) with inn := b.inn.extract 1 b.inn.size } : Bd) ∧ Box wz W.heap.size b := ⟨Y.out.out, Y.out.own⟩
  refine tl 0 hS (fun w hw => hw.1.load) ?_
  refine tk 1 hS ?_
  refine tl 2 hS (fun w hw => hw.2.load_inn) ?_
  refine tk 3 hS ?_
  refine tk 4 hS ?_
  refine held_store (i := 5) (o := ⟨none, Op.store 35 (.tmp 8) (.tmp 60), _, _, _, none⟩) (by kernel_rfl) rfl rfl rfl rfl rfl (store_box _ _ _ _ Y.out.res (bdC_size _)) ⟨Y.out.out.over (by have := Y.out.far; omega) _, Y.out.own.over (by omega) _⟩ ?_
  simp only [puts]
  replace HO := Lib.hid (HO.out.over Y.out.res (bdC ({ (b.at p F.length cap) with inn := b.inn.extract 1 b.inn.size } : Bd)))
  replace Y := Lib.hid (Y.out.tell (r' := ({ (b.at p F.length cap) with inn := b.inn.extract 1 b.inn.size } : Bd)) rfl)
  replace hS := And.intro Y.out.out Y.out.own
  refine tk 6 hS ?_
  refine tk 7 hS ?_
  refine wpAnyH_done (by kernel_rfl) ?_ _
  go_wp2_with (first | (with_reducible refine wpList_load_by rfl rfl (Box.load X.out.own) rfl ?_) | (go_at_call 29; (with_reducible refine (rcopy_bd b F _ (HFR.out.next X.out.below) HFL.out).mono ?_); rintro e w2 ⟨p, cap, rfl, ho, k2⟩; have HO := Lib.hid (ho.base X.out.below.size); have X := Lib.hid (X.out.next k2); clear ho k2; have Y := Lib.hid X.out.more0; have HO := Lib.hid (HO.out.next (below1 _ zeroO)); clear X) | (with_reducible refine w_box Y.out.out rfl rfl rfl rfl ?_; intro wy hwy; have HO := Lib.hid (HO.out.put Y.out.out hwy); have Y := Lib.hid (Y.out.put hwy); clear hwy) | (with_reducible refine wpList_load_by rfl rfl (Box.load Y.out.out) rfl ?_) | (with_reducible refine w_box Y.out.res rfl rfl rfl rfl ?_; intro wy hwy; have HO := Lib.hid (HO.out.put Y.out.res hwy); have Y := Lib.hid (Y.out.tell hwy); clear hwy) | fail)
  exact bodyPost_ret (v := .tuple #[bdV ({ (b.at p F.length cap) with inn := b.inn.extract 1 b.inn.size }), .int .u64 (IntKind.u64.wrap (b.inn[0].toNat : Int)), .bool true]) (results_three Try.results48 _ _ (W.heap.size + 1) _ _ _ rfl Y.out.res rfl rfl) rfl ⟨p, cap, rfl, HO.out, Y.out.below⟩
theorem Box.load_fr_of {w : World} {g n : Nat} {b : Bd} (k : Box w g b) {q : Option Addr} (hq : b.fp = q) (hn : b.fn = n) : (Instr.loadAt 28 (.pointer (some ⟨g, 9, none⟩))).run Try.prog w = .ok (.slice q n b.fc) w := by rw [← hq, ← hn]; exact k.load_fr
set_option maxRecDepth 10000 in
set_option maxHeartbeats 1000000 in
theorem rdl_10a (b : Bd) (F : List ByteArray) (n : Int) (W : World) (hf : FAt W (.slice b.fp b.fn b.fc) F) (hF : F.length ≤ 8796093022208) (h0 : ¬ 0 < F.length) : Calls Try.prog 48 #[bdV b, .int .u64 268443648, .int .i64 8, .int .u64 n] W (Told W (ldF b F 268443648 8 n).1 (ldF b F 268443648 8 n).2.1 (fun v => .tuple #[v, .int .u64 (ldF b F 268443648 8 n).2.2.1, .bool (ldF b F 268443648 8 n).2.2.2])) := by
  have hr : ldF b F 268443648 8 n = (b, F, lenF F, true) := rfl
  rw [hr]
  clear hr
  have HFR := Lib.hid hf
  have HFL := Lib.hid hF
  clear hf hF
  have HT : RowKit.Hid (lenF F = 0) := Lib.hid (dif_neg h0)
  rw [HT.out]
  have hl := HFR.out.len
  have g0 : b.fn = 0 := by omega
  clear hl
  go_enter Try.func48, Try.ntmps48
  go_upto_region 1 with (fail)
  have X := Lib.hid (KA.new W b)
  generalize (W.alloc (bdO b)).alloc zeroO = wx at X ⊢
  go_wp2_with (first | (with_reducible refine wpList_load_by rfl rfl (Box.load X.out.own) rfl ?_) | (go_at_call 29; (with_reducible refine (rcopy_bd b F _ (HFR.out.next X.out.below) HFL.out).mono ?_); rintro e w2 ⟨p, cap, rfl, ho, k2⟩; have HO := Lib.hid (ho.base X.out.below.size); have X := Lib.hid (X.out.next k2); clear ho k2; have Y := Lib.hid X.out.more0; have HO := Lib.hid (HO.out.next (below1 _ zeroO)); clear X) | (with_reducible refine w_box Y.out.out rfl rfl rfl rfl ?_; intro wy hwy; have HO := Lib.hid (HO.out.put Y.out.out hwy); have Y := Lib.hid (Y.out.put hwy); clear hwy) | (with_reducible refine wpList_load_by rfl rfl (Box.load Y.out.out) rfl ?_) | (with_reducible refine w_box Y.out.res rfl rfl rfl rfl ?_; intro wy hwy; have HO := Lib.hid (HO.out.put Y.out.res hwy); have Y := Lib.hid (Y.out.tell hwy); clear hwy) | (with_reducible refine wpList_load_by rfl rfl (Box.load_fr_of Y.out.own rfl g0) rfl ?_) | fail)
  exact bodyPost_ret (v := .tuple #[bdV (b.at p F.length cap), .int .u64 (0), .bool true]) (results_three Try.results48 _ _ (W.heap.size + 1) _ _ _ rfl Y.out.res rfl rfl) rfl ⟨p, cap, rfl, HO.out, Y.out.below⟩
set_option maxRecDepth 10000 in
set_option maxHeartbeats 1000000 in
theorem rdl_10b (b : Bd) (F : List ByteArray) (n : Int) (W : World) (hf : FAt W (.slice b.fp b.fn b.fc) F) (hF : F.length ≤ 8796093022208) (h0 : 0 < F.length) : Calls Try.prog 48 #[bdV b, .int .u64 268443648, .int .i64 8, .int .u64 n] W (Told W (ldF b F 268443648 8 n).1 (ldF b F 268443648 8 n).2.1 (fun v => .tuple #[v, .int .u64 (ldF b F 268443648 8 n).2.2.1, .bool (ldF b F 268443648 8 n).2.2.2])) := by
  have hr : ldF b F 268443648 8 n = (b, F, lenF F, true) := rfl
  rw [hr]
  clear hr
  have HFR := Lib.hid hf
  have HFL := Lib.hid hF
  clear hf hF
  have HT : RowKit.Hid (lenF F = IntKind.u64.wrap (F[0].size : Int)) := Lib.hid (dif_pos h0)
  rw [HT.out]
  obtain ⟨g, off, c2, e, _, _, hg, hc⟩ := HFR.out.cell h0
  simp only [Value.slice.injEq] at e
  obtain ⟨g1, g2, _⟩ := e
  have c0 := hc 0 h0
  rw [Nat.add_zero] at c0
  have C0 := Lib.hid (fun w (h : Below W.heap.size W w) => (h.cell (p := ⟨g, off, none⟩) hg).trans c0)
  have g3 : ¬ F.length = 0 := by omega
  clear hc c0 hg
  go_enter Try.func48, Try.ntmps48
  go_upto_region 1 with (fail)
  have X := Lib.hid (KA.new W b)
  generalize (W.alloc (bdO b)).alloc zeroO = wx at X ⊢
  go_upto_region 27 with (first | (with_reducible refine wpList_load_by rfl rfl (Box.load X.out.own) rfl ?_) | (go_at_call 29; (with_reducible refine (rcopy_bd b F _ (HFR.out.next X.out.below) HFL.out).mono ?_); rintro e w2 ⟨p, cap, rfl, ho, k2⟩; have HO := Lib.hid (ho.base X.out.below.size); have X := Lib.hid (X.out.next k2); clear ho k2; have Y := Lib.hid X.out.more0; have HO := Lib.hid (HO.out.next (below1 _ zeroO)); clear X) | (with_reducible refine w_box Y.out.out rfl rfl rfl rfl ?_; intro wy hwy; have HO := Lib.hid (HO.out.put Y.out.out hwy); have Y := Lib.hid (Y.out.put hwy); clear hwy) | (with_reducible refine wpList_load_by rfl rfl (Box.load Y.out.out) rfl ?_) | (with_reducible refine w_box Y.out.res rfl rfl rfl rfl ?_; intro wy hwy; have HO := Lib.hid (HO.out.put Y.out.res hwy); have Y := Lib.hid (Y.out.tell hwy); clear hwy) | (with_reducible refine wpList_load_by rfl rfl (Box.load_fr_of Y.out.own g1 g2) rfl ?_) | fail)
  refine wp_region_held (S := fun w => Box w w2.heap.size (b.at p F.length cap) ∧ Box w W.heap.size b ∧ w.cell? ⟨g, off, none⟩ = some (.string F[0])) (by kernel_rfl) ?_
  have hd : { wy with drawn := wy.drawn + 1 } = wy.drew := rfl
  rw [hd]
  clear hd
  replace Y := Lib.hid Y.out.drew
  replace HO := Lib.hid (HO.out.drewN 1)
  have hd : wy.drewN 1 = wy.drew := rfl
  rw [hd] at HO
  clear hd
  generalize wy.drew = wz at Y HO ⊢
  have hS : Box wz w2.heap.size (b.at p F.length cap) ∧ Box wz W.heap.size b ∧ wz.cell? ⟨g, off, none⟩ = some (.string F[0]) := ⟨Y.out.out, Y.out.own, C0.out _ Y.out.below⟩
  refine tl 0 hS (fun w hw => hw.1.load) ?_
  refine tk 1 hS ?_
  refine tl 2 hS (fun w hw => hw.2.1.load_fr_of g1 g2) ?_
  refine tk 3 hS ?_
  refine wpAnyH_take (i := 4) (oi := ⟨some 142, Op.load 9 (.tmp 141), _, _, _, none⟩) (v := ?_) rfl (by kernel_rfl) (by kernel_rfl) (by kernel_rfl) (fun _ _ _ h => h) (Or.inl ⟨by rfl, ?_⟩) hS ?_
  rotate_left
  · (rintro w ⟨_, _, hSw⟩; go_simp; try with_reducible rfl)
  simp only [puts]
  refine tk 5 hS ?_
  refine tk 6 hS ?_
  refine held_store (i := 7) (o := ⟨none, Op.store 35 (.tmp 8) (.tmp 138), _, _, _, none⟩) (by kernel_rfl) rfl rfl rfl rfl rfl (store_box _ _ _ _ Y.out.res (bdC_size _)) ⟨Y.out.out.over (by have := Y.out.far; omega) _, Y.out.own.over (by omega) _, C0.out _ (below_setRow Y.out.below (Nat.le_succ _) _)⟩ ?_
  simp only [puts]
  replace HO := Lib.hid (HO.out.over Y.out.res (bdC (b.at p F.length cap)))
  replace Y := Lib.hid (Y.out.tell (r' := (b.at p F.length cap)) rfl)
  replace hS := And.intro Y.out.out (And.intro Y.out.own (C0.out _ Y.out.below))
  refine tk 8 hS ?_
  refine tk 9 hS ?_
  refine wpAnyH_done (by kernel_rfl) ?_ _
  go_wp2_with (first | (with_reducible refine wpList_load_by rfl rfl (Box.load X.out.own) rfl ?_) | (go_at_call 29; (with_reducible refine (rcopy_bd b F _ (HFR.out.next X.out.below) HFL.out).mono ?_); rintro e w2 ⟨p, cap, rfl, ho, k2⟩; have HO := Lib.hid (ho.base X.out.below.size); have X := Lib.hid (X.out.next k2); clear ho k2; have Y := Lib.hid X.out.more0; have HO := Lib.hid (HO.out.next (below1 _ zeroO)); clear X) | (with_reducible refine w_box Y.out.out rfl rfl rfl rfl ?_; intro wy hwy; have HO := Lib.hid (HO.out.put Y.out.out hwy); have Y := Lib.hid (Y.out.put hwy); clear hwy) | (with_reducible refine wpList_load_by rfl rfl (Box.load Y.out.out) rfl ?_) | (with_reducible refine w_box Y.out.res rfl rfl rfl rfl ?_; intro wy hwy; have HO := Lib.hid (HO.out.put Y.out.res hwy); have Y := Lib.hid (Y.out.tell hwy); clear hwy) | fail)
  exact bodyPost_ret (v := .tuple #[bdV (b.at p F.length cap), .int .u64 (IntKind.u64.wrap (F[0].size : Int)), .bool true]) (results_three Try.results48 _ _ (W.heap.size + 1) _ _ _ rfl Y.out.res rfl rfl) rfl ⟨p, cap, rfl, HO.out, Y.out.below⟩
set_option maxRecDepth 10000 in
set_option maxHeartbeats 1000000 in
theorem rdl_size0 (b : Bd) (F : List ByteArray) (s n : Int) (W : World) (hf : FAt W (.slice b.fp b.fn b.fc) F) (hF : F.length ≤ 8796093022208) (hs : (s == 4) = false) : Calls Try.prog 48 #[bdV b, .int .u64 33554432, .int .i64 s, .int .u64 n] W (Told W bdZ [] (fun v => .tuple #[v, .int .u64 0, .bool false])) := by
  have HFR := Lib.hid hf
  have HFL := Lib.hid hF
  clear hf hF
  go_enter Try.func48, Try.ntmps48
  go_upto_region 1 with (fail)
  have X := Lib.hid (KA.new W b)
  generalize (W.alloc (bdO b)).alloc zeroO = wx at X ⊢
  go_wp2_with (first | (with_reducible refine wpList_load_by rfl rfl (Box.load X.out.own) rfl ?_) | (go_at_call 29; (with_reducible refine (rcopy_bd b F _ (HFR.out.next X.out.below) HFL.out).mono ?_); rintro e w2 ⟨p, cap, rfl, ho, k2⟩; have HO := Lib.hid (ho.base X.out.below.size); have X := Lib.hid (X.out.next k2); clear ho k2; have Y := Lib.hid X.out.more0; have HO := Lib.hid (HO.out.next (below1 _ zeroO)); clear X) | (with_reducible refine w_box Y.out.out rfl rfl rfl rfl ?_; intro wy hwy; have HO := Lib.hid (HO.out.put Y.out.out hwy); have Y := Lib.hid (Y.out.put hwy); clear hwy) | ((with_reducible show wpList _ _ _ (⟨none, Op.store 35 (.tmp 8) (.tmp 165), _, _, _, _⟩ :: _) _ _); refine w_box (b := bdZ) Y.out.res rfl rfl rfl (by rfl) ?_; intro wy hwy; have Y := Lib.hid (Y.out.tell hwy); clear hwy) | fail)
  exact bodyPost_ret (v := .tuple #[bdV bdZ, .int .u64 0, .bool false]) (results_three Try.results48 _ _ (W.heap.size + 1) _ _ _ rfl Y.out.res rfl rfl) rfl (told_none (fun v => .tuple #[v, .int .u64 0, .bool false]) Y.out.below)
set_option maxRecDepth 10000 in
set_option maxHeartbeats 1000000 in
theorem rdl_size1 (b : Bd) (F : List ByteArray) (s n : Int) (W : World) (hf : FAt W (.slice b.fp b.fn b.fc) F) (hF : F.length ≤ 8796093022208) (hs : (s == 8) = false) : Calls Try.prog 48 #[bdV b, .int .u64 33570816, .int .i64 s, .int .u64 n] W (Told W bdZ [] (fun v => .tuple #[v, .int .u64 0, .bool false])) := by
  have HFR := Lib.hid hf
  have HFL := Lib.hid hF
  clear hf hF
  go_enter Try.func48, Try.ntmps48
  go_upto_region 1 with (fail)
  have X := Lib.hid (KA.new W b)
  generalize (W.alloc (bdO b)).alloc zeroO = wx at X ⊢
  go_wp2_with (first | (with_reducible refine wpList_load_by rfl rfl (Box.load X.out.own) rfl ?_) | (go_at_call 29; (with_reducible refine (rcopy_bd b F _ (HFR.out.next X.out.below) HFL.out).mono ?_); rintro e w2 ⟨p, cap, rfl, ho, k2⟩; have HO := Lib.hid (ho.base X.out.below.size); have X := Lib.hid (X.out.next k2); clear ho k2; have Y := Lib.hid X.out.more0; have HO := Lib.hid (HO.out.next (below1 _ zeroO)); clear X) | (with_reducible refine w_box Y.out.out rfl rfl rfl rfl ?_; intro wy hwy; have HO := Lib.hid (HO.out.put Y.out.out hwy); have Y := Lib.hid (Y.out.put hwy); clear hwy) | ((with_reducible show wpList _ _ _ (⟨none, Op.store 35 (.tmp 8) (.tmp 165), _, _, _, _⟩ :: _) _ _); refine w_box (b := bdZ) Y.out.res rfl rfl rfl (by rfl) ?_; intro wy hwy; have Y := Lib.hid (Y.out.tell hwy); clear hwy) | fail)
  exact bodyPost_ret (v := .tuple #[bdV bdZ, .int .u64 0, .bool false]) (results_three Try.results48 _ _ (W.heap.size + 1) _ _ _ rfl Y.out.res rfl rfl) rfl (told_none (fun v => .tuple #[v, .int .u64 0, .bool false]) Y.out.below)
set_option maxRecDepth 10000 in
set_option maxHeartbeats 1000000 in
theorem rdl_size2 (b : Bd) (F : List ByteArray) (s n : Int) (W : World) (hf : FAt W (.slice b.fp b.fn b.fc) F) (hF : F.length ≤ 8796093022208) (hs : (s == 8) = false) : Calls Try.prog 48 #[bdV b, .int .u64 33603576, .int .i64 s, .int .u64 n] W (Told W bdZ [] (fun v => .tuple #[v, .int .u64 0, .bool false])) := by
  have HFR := Lib.hid hf
  have HFL := Lib.hid hF
  clear hf hF
  go_enter Try.func48, Try.ntmps48
  go_upto_region 1 with (fail)
  have X := Lib.hid (KA.new W b)
  generalize (W.alloc (bdO b)).alloc zeroO = wx at X ⊢
  go_wp2_with (first | (with_reducible refine wpList_load_by rfl rfl (Box.load X.out.own) rfl ?_) | (go_at_call 29; (with_reducible refine (rcopy_bd b F _ (HFR.out.next X.out.below) HFL.out).mono ?_); rintro e w2 ⟨p, cap, rfl, ho, k2⟩; have HO := Lib.hid (ho.base X.out.below.size); have X := Lib.hid (X.out.next k2); clear ho k2; have Y := Lib.hid X.out.more0; have HO := Lib.hid (HO.out.next (below1 _ zeroO)); clear X) | (with_reducible refine w_box Y.out.out rfl rfl rfl rfl ?_; intro wy hwy; have HO := Lib.hid (HO.out.put Y.out.out hwy); have Y := Lib.hid (Y.out.put hwy); clear hwy) | ((with_reducible show wpList _ _ _ (⟨none, Op.store 35 (.tmp 8) (.tmp 165), _, _, _, _⟩ :: _) _ _); refine w_box (b := bdZ) Y.out.res rfl rfl rfl (by rfl) ?_; intro wy hwy; have Y := Lib.hid (Y.out.tell hwy); clear hwy) | fail)
  exact bodyPost_ret (v := .tuple #[bdV bdZ, .int .u64 0, .bool false]) (results_three Try.results48 _ _ (W.heap.size + 1) _ _ _ rfl Y.out.res rfl rfl) rfl (told_none (fun v => .tuple #[v, .int .u64 0, .bool false]) Y.out.below)
set_option maxRecDepth 10000 in
set_option maxHeartbeats 1000000 in
theorem rdl_size3 (b : Bd) (F : List ByteArray) (s n : Int) (W : World) (hf : FAt W (.slice b.fp b.fn b.fc) F) (hF : F.length ≤ 8796093022208) (hs : (s == 1) = false) : Calls Try.prog 48 #[bdV b, .int .u64 268435456, .int .i64 s, .int .u64 n] W (Told W bdZ [] (fun v => .tuple #[v, .int .u64 0, .bool false])) := by
  have HFR := Lib.hid hf
  have HFL := Lib.hid hF
  clear hf hF
  go_enter Try.func48, Try.ntmps48
  go_upto_region 1 with (fail)
  have X := Lib.hid (KA.new W b)
  generalize (W.alloc (bdO b)).alloc zeroO = wx at X ⊢
  go_wp2_with (first | (with_reducible refine wpList_load_by rfl rfl (Box.load X.out.own) rfl ?_) | (go_at_call 29; (with_reducible refine (rcopy_bd b F _ (HFR.out.next X.out.below) HFL.out).mono ?_); rintro e w2 ⟨p, cap, rfl, ho, k2⟩; have HO := Lib.hid (ho.base X.out.below.size); have X := Lib.hid (X.out.next k2); clear ho k2; have Y := Lib.hid X.out.more0; have HO := Lib.hid (HO.out.next (below1 _ zeroO)); clear X) | (with_reducible refine w_box Y.out.out rfl rfl rfl rfl ?_; intro wy hwy; have HO := Lib.hid (HO.out.put Y.out.out hwy); have Y := Lib.hid (Y.out.put hwy); clear hwy) | ((with_reducible show wpList _ _ _ (⟨none, Op.store 35 (.tmp 8) (.tmp 165), _, _, _, _⟩ :: _) _ _); refine w_box (b := bdZ) Y.out.res rfl rfl rfl (by rfl) ?_; intro wy hwy; have Y := Lib.hid (Y.out.tell hwy); clear hwy) | fail)
  exact bodyPost_ret (v := .tuple #[bdV bdZ, .int .u64 0, .bool false]) (results_three Try.results48 _ _ (W.heap.size + 1) _ _ _ rfl Y.out.res rfl rfl) rfl (told_none (fun v => .tuple #[v, .int .u64 0, .bool false]) Y.out.below)
set_option maxRecDepth 10000 in
set_option maxHeartbeats 1000000 in
theorem rdl_size4 (b : Bd) (F : List ByteArray) (s n : Int) (W : World) (hf : FAt W (.slice b.fp b.fn b.fc) F) (hF : F.length ≤ 8796093022208) (hs : (s == 1) = false) : Calls Try.prog 48 #[bdV b, .int .u64 268435457, .int .i64 s, .int .u64 n] W (Told W bdZ [] (fun v => .tuple #[v, .int .u64 0, .bool false])) := by
  have HFR := Lib.hid hf
  have HFL := Lib.hid hF
  clear hf hF
  go_enter Try.func48, Try.ntmps48
  go_upto_region 1 with (fail)
  have X := Lib.hid (KA.new W b)
  generalize (W.alloc (bdO b)).alloc zeroO = wx at X ⊢
  go_wp2_with (first | (with_reducible refine wpList_load_by rfl rfl (Box.load X.out.own) rfl ?_) | (go_at_call 29; (with_reducible refine (rcopy_bd b F _ (HFR.out.next X.out.below) HFL.out).mono ?_); rintro e w2 ⟨p, cap, rfl, ho, k2⟩; have HO := Lib.hid (ho.base X.out.below.size); have X := Lib.hid (X.out.next k2); clear ho k2; have Y := Lib.hid X.out.more0; have HO := Lib.hid (HO.out.next (below1 _ zeroO)); clear X) | (with_reducible refine w_box Y.out.out rfl rfl rfl rfl ?_; intro wy hwy; have HO := Lib.hid (HO.out.put Y.out.out hwy); have Y := Lib.hid (Y.out.put hwy); clear hwy) | ((with_reducible show wpList _ _ _ (⟨none, Op.store 35 (.tmp 8) (.tmp 165), _, _, _, _⟩ :: _) _ _); refine w_box (b := bdZ) Y.out.res rfl rfl rfl (by rfl) ?_; intro wy hwy; have Y := Lib.hid (Y.out.tell hwy); clear hwy) | fail)
  exact bodyPost_ret (v := .tuple #[bdV bdZ, .int .u64 0, .bool false]) (results_three Try.results48 _ _ (W.heap.size + 1) _ _ _ rfl Y.out.res rfl rfl) rfl (told_none (fun v => .tuple #[v, .int .u64 0, .bool false]) Y.out.below)
set_option maxRecDepth 10000 in
set_option maxHeartbeats 1000000 in
theorem rdl_size5 (b : Bd) (F : List ByteArray) (s n : Int) (W : World) (hf : FAt W (.slice b.fp b.fn b.fc) F) (hF : F.length ≤ 8796093022208) (hs : (s == 1) = false) : Calls Try.prog 48 #[bdV b, .int .u64 268435461, .int .i64 s, .int .u64 n] W (Told W bdZ [] (fun v => .tuple #[v, .int .u64 0, .bool false])) := by
  have HFR := Lib.hid hf
  have HFL := Lib.hid hF
  clear hf hF
  go_enter Try.func48, Try.ntmps48
  go_upto_region 1 with (fail)
  have X := Lib.hid (KA.new W b)
  generalize (W.alloc (bdO b)).alloc zeroO = wx at X ⊢
  go_wp2_with (first | (with_reducible refine wpList_load_by rfl rfl (Box.load X.out.own) rfl ?_) | (go_at_call 29; (with_reducible refine (rcopy_bd b F _ (HFR.out.next X.out.below) HFL.out).mono ?_); rintro e w2 ⟨p, cap, rfl, ho, k2⟩; have HO := Lib.hid (ho.base X.out.below.size); have X := Lib.hid (X.out.next k2); clear ho k2; have Y := Lib.hid X.out.more0; have HO := Lib.hid (HO.out.next (below1 _ zeroO)); clear X) | (with_reducible refine w_box Y.out.out rfl rfl rfl rfl ?_; intro wy hwy; have HO := Lib.hid (HO.out.put Y.out.out hwy); have Y := Lib.hid (Y.out.put hwy); clear hwy) | ((with_reducible show wpList _ _ _ (⟨none, Op.store 35 (.tmp 8) (.tmp 165), _, _, _, _⟩ :: _) _ _); refine w_box (b := bdZ) Y.out.res rfl rfl rfl (by rfl) ?_; intro wy hwy; have Y := Lib.hid (Y.out.tell hwy); clear hwy) | fail)
  exact bodyPost_ret (v := .tuple #[bdV bdZ, .int .u64 0, .bool false]) (results_three Try.results48 _ _ (W.heap.size + 1) _ _ _ rfl Y.out.res rfl rfl) rfl (told_none (fun v => .tuple #[v, .int .u64 0, .bool false]) Y.out.below)
set_option maxRecDepth 10000 in
set_option maxHeartbeats 1000000 in
theorem rdl_size6 (b : Bd) (F : List ByteArray) (s n : Int) (W : World) (hf : FAt W (.slice b.fp b.fn b.fc) F) (hF : F.length ≤ 8796093022208) (hs : (s == 8) = false) : Calls Try.prog 48 #[bdV b, .int .u64 268439552, .int .i64 s, .int .u64 n] W (Told W bdZ [] (fun v => .tuple #[v, .int .u64 0, .bool false])) := by
  have HFR := Lib.hid hf
  have HFL := Lib.hid hF
  clear hf hF
  go_enter Try.func48, Try.ntmps48
  go_upto_region 1 with (fail)
  have X := Lib.hid (KA.new W b)
  generalize (W.alloc (bdO b)).alloc zeroO = wx at X ⊢
  go_wp2_with (first | (with_reducible refine wpList_load_by rfl rfl (Box.load X.out.own) rfl ?_) | (go_at_call 29; (with_reducible refine (rcopy_bd b F _ (HFR.out.next X.out.below) HFL.out).mono ?_); rintro e w2 ⟨p, cap, rfl, ho, k2⟩; have HO := Lib.hid (ho.base X.out.below.size); have X := Lib.hid (X.out.next k2); clear ho k2; have Y := Lib.hid X.out.more0; have HO := Lib.hid (HO.out.next (below1 _ zeroO)); clear X) | (with_reducible refine w_box Y.out.out rfl rfl rfl rfl ?_; intro wy hwy; have HO := Lib.hid (HO.out.put Y.out.out hwy); have Y := Lib.hid (Y.out.put hwy); clear hwy) | ((with_reducible show wpList _ _ _ (⟨none, Op.store 35 (.tmp 8) (.tmp 165), _, _, _, _⟩ :: _) _ _); refine w_box (b := bdZ) Y.out.res rfl rfl rfl (by rfl) ?_; intro wy hwy; have Y := Lib.hid (Y.out.tell hwy); clear hwy) | fail)
  exact bodyPost_ret (v := .tuple #[bdV bdZ, .int .u64 0, .bool false]) (results_three Try.results48 _ _ (W.heap.size + 1) _ _ _ rfl Y.out.res rfl rfl) rfl (told_none (fun v => .tuple #[v, .int .u64 0, .bool false]) Y.out.below)
set_option maxRecDepth 10000 in
set_option maxHeartbeats 1000000 in
theorem rdl_size7 (b : Bd) (F : List ByteArray) (s n : Int) (W : World) (hf : FAt W (.slice b.fp b.fn b.fc) F) (hF : F.length ≤ 8796093022208) (hs : (s == 8) = false) : Calls Try.prog 48 #[bdV b, .int .u64 268439560, .int .i64 s, .int .u64 n] W (Told W bdZ [] (fun v => .tuple #[v, .int .u64 0, .bool false])) := by
  have HFR := Lib.hid hf
  have HFL := Lib.hid hF
  clear hf hF
  go_enter Try.func48, Try.ntmps48
  go_upto_region 1 with (fail)
  have X := Lib.hid (KA.new W b)
  generalize (W.alloc (bdO b)).alloc zeroO = wx at X ⊢
  go_wp2_with (first | (with_reducible refine wpList_load_by rfl rfl (Box.load X.out.own) rfl ?_) | (go_at_call 29; (with_reducible refine (rcopy_bd b F _ (HFR.out.next X.out.below) HFL.out).mono ?_); rintro e w2 ⟨p, cap, rfl, ho, k2⟩; have HO := Lib.hid (ho.base X.out.below.size); have X := Lib.hid (X.out.next k2); clear ho k2; have Y := Lib.hid X.out.more0; have HO := Lib.hid (HO.out.next (below1 _ zeroO)); clear X) | (with_reducible refine w_box Y.out.out rfl rfl rfl rfl ?_; intro wy hwy; have HO := Lib.hid (HO.out.put Y.out.out hwy); have Y := Lib.hid (Y.out.put hwy); clear hwy) | ((with_reducible show wpList _ _ _ (⟨none, Op.store 35 (.tmp 8) (.tmp 165), _, _, _, _⟩ :: _) _ _); refine w_box (b := bdZ) Y.out.res rfl rfl rfl (by rfl) ?_; intro wy hwy; have Y := Lib.hid (Y.out.tell hwy); clear hwy) | fail)
  exact bodyPost_ret (v := .tuple #[bdV bdZ, .int .u64 0, .bool false]) (results_three Try.results48 _ _ (W.heap.size + 1) _ _ _ rfl Y.out.res rfl rfl) rfl (told_none (fun v => .tuple #[v, .int .u64 0, .bool false]) Y.out.below)
set_option maxRecDepth 10000 in
set_option maxHeartbeats 1000000 in
theorem rdl_size9 (b : Bd) (F : List ByteArray) (s n : Int) (W : World) (hf : FAt W (.slice b.fp b.fn b.fc) F) (hF : F.length ≤ 8796093022208) (hs : (s == 8) = false) : Calls Try.prog 48 #[bdV b, .int .u64 268439576, .int .i64 s, .int .u64 n] W (Told W bdZ [] (fun v => .tuple #[v, .int .u64 0, .bool false])) := by
  have HFR := Lib.hid hf
  have HFL := Lib.hid hF
  clear hf hF
  go_enter Try.func48, Try.ntmps48
  go_upto_region 1 with (fail)
  have X := Lib.hid (KA.new W b)
  generalize (W.alloc (bdO b)).alloc zeroO = wx at X ⊢
  go_wp2_with (first | (with_reducible refine wpList_load_by rfl rfl (Box.load X.out.own) rfl ?_) | (go_at_call 29; (with_reducible refine (rcopy_bd b F _ (HFR.out.next X.out.below) HFL.out).mono ?_); rintro e w2 ⟨p, cap, rfl, ho, k2⟩; have HO := Lib.hid (ho.base X.out.below.size); have X := Lib.hid (X.out.next k2); clear ho k2; have Y := Lib.hid X.out.more0; have HO := Lib.hid (HO.out.next (below1 _ zeroO)); clear X) | (with_reducible refine w_box Y.out.out rfl rfl rfl rfl ?_; intro wy hwy; have HO := Lib.hid (HO.out.put Y.out.out hwy); have Y := Lib.hid (Y.out.put hwy); clear hwy) | ((with_reducible show wpList _ _ _ (⟨none, Op.store 35 (.tmp 8) (.tmp 165), _, _, _, _⟩ :: _) _ _); refine w_box (b := bdZ) Y.out.res rfl rfl rfl (by rfl) ?_; intro wy hwy; have Y := Lib.hid (Y.out.tell hwy); clear hwy) | fail)
  exact bodyPost_ret (v := .tuple #[bdV bdZ, .int .u64 0, .bool false]) (results_three Try.results48 _ _ (W.heap.size + 1) _ _ _ rfl Y.out.res rfl rfl) rfl (told_none (fun v => .tuple #[v, .int .u64 0, .bool false]) Y.out.below)
set_option maxRecDepth 10000 in
set_option maxHeartbeats 1000000 in
theorem rdl_size10 (b : Bd) (F : List ByteArray) (s n : Int) (W : World) (hf : FAt W (.slice b.fp b.fn b.fc) F) (hF : F.length ≤ 8796093022208) (hs : (s == 8) = false) : Calls Try.prog 48 #[bdV b, .int .u64 268443648, .int .i64 s, .int .u64 n] W (Told W bdZ [] (fun v => .tuple #[v, .int .u64 0, .bool false])) := by
  have HFR := Lib.hid hf
  have HFL := Lib.hid hF
  clear hf hF
  go_enter Try.func48, Try.ntmps48
  go_upto_region 1 with (fail)
  have X := Lib.hid (KA.new W b)
  generalize (W.alloc (bdO b)).alloc zeroO = wx at X ⊢
  go_wp2_with (first | (with_reducible refine wpList_load_by rfl rfl (Box.load X.out.own) rfl ?_) | (go_at_call 29; (with_reducible refine (rcopy_bd b F _ (HFR.out.next X.out.below) HFL.out).mono ?_); rintro e w2 ⟨p, cap, rfl, ho, k2⟩; have HO := Lib.hid (ho.base X.out.below.size); have X := Lib.hid (X.out.next k2); clear ho k2; have Y := Lib.hid X.out.more0; have HO := Lib.hid (HO.out.next (below1 _ zeroO)); clear X) | (with_reducible refine w_box Y.out.out rfl rfl rfl rfl ?_; intro wy hwy; have HO := Lib.hid (HO.out.put Y.out.out hwy); have Y := Lib.hid (Y.out.put hwy); clear hwy) | ((with_reducible show wpList _ _ _ (⟨none, Op.store 35 (.tmp 8) (.tmp 165), _, _, _, _⟩ :: _) _ _); refine w_box (b := bdZ) Y.out.res rfl rfl rfl (by rfl) ?_; intro wy hwy; have Y := Lib.hid (Y.out.tell hwy); clear hwy) | fail)
  exact bodyPost_ret (v := .tuple #[bdV bdZ, .int .u64 0, .bool false]) (results_three Try.results48 _ _ (W.heap.size + 1) _ _ _ rfl Y.out.res rfl rfl) rfl (told_none (fun v => .tuple #[v, .int .u64 0, .bool false]) Y.out.below)
set_option maxRecDepth 10000 in
set_option maxHeartbeats 1000000 in
theorem rdl_size11 (b : Bd) (F : List ByteArray) (s n : Int) (W : World) (hf : FAt W (.slice b.fp b.fn b.fc) F) (hF : F.length ≤ 8796093022208) (hs : (s == 8) = false) : Calls Try.prog 48 #[bdV b, .int .u64 268443656, .int .i64 s, .int .u64 n] W (Told W bdZ [] (fun v => .tuple #[v, .int .u64 0, .bool false])) := by
  have HFR := Lib.hid hf
  have HFL := Lib.hid hF
  clear hf hF
  go_enter Try.func48, Try.ntmps48
  go_upto_region 1 with (fail)
  have X := Lib.hid (KA.new W b)
  generalize (W.alloc (bdO b)).alloc zeroO = wx at X ⊢
  go_wp2_with (first | (with_reducible refine wpList_load_by rfl rfl (Box.load X.out.own) rfl ?_) | (go_at_call 29; (with_reducible refine (rcopy_bd b F _ (HFR.out.next X.out.below) HFL.out).mono ?_); rintro e w2 ⟨p, cap, rfl, ho, k2⟩; have HO := Lib.hid (ho.base X.out.below.size); have X := Lib.hid (X.out.next k2); clear ho k2; have Y := Lib.hid X.out.more0; have HO := Lib.hid (HO.out.next (below1 _ zeroO)); clear X) | (with_reducible refine w_box Y.out.out rfl rfl rfl rfl ?_; intro wy hwy; have HO := Lib.hid (HO.out.put Y.out.out hwy); have Y := Lib.hid (Y.out.put hwy); clear hwy) | ((with_reducible show wpList _ _ _ (⟨none, Op.store 35 (.tmp 8) (.tmp 165), _, _, _, _⟩ :: _) _ _); refine w_box (b := bdZ) Y.out.res rfl rfl rfl (by rfl) ?_; intro wy hwy; have Y := Lib.hid (Y.out.tell hwy); clear hwy) | fail)
  exact bodyPost_ret (v := .tuple #[bdV bdZ, .int .u64 0, .bool false]) (results_three Try.results48 _ _ (W.heap.size + 1) _ _ _ rfl Y.out.res rfl rfl) rfl (told_none (fun v => .tuple #[v, .int .u64 0, .bool false]) Y.out.below)
set_option maxRecDepth 10000 in
set_option maxHeartbeats 1000000 in
theorem rdl_size13 (b : Bd) (F : List ByteArray) (s n : Int) (W : World) (hf : FAt W (.slice b.fp b.fn b.fc) F) (hF : F.length ≤ 8796093022208) (hs : (s == 8) = false) : Calls Try.prog 48 #[bdV b, .int .u64 268443672, .int .i64 s, .int .u64 n] W (Told W bdZ [] (fun v => .tuple #[v, .int .u64 0, .bool false])) := by
  have HFR := Lib.hid hf
  have HFL := Lib.hid hF
  clear hf hF
  go_enter Try.func48, Try.ntmps48
  go_upto_region 1 with (fail)
  have X := Lib.hid (KA.new W b)
  generalize (W.alloc (bdO b)).alloc zeroO = wx at X ⊢
  go_wp2_with (first | (with_reducible refine wpList_load_by rfl rfl (Box.load X.out.own) rfl ?_) | (go_at_call 29; (with_reducible refine (rcopy_bd b F _ (HFR.out.next X.out.below) HFL.out).mono ?_); rintro e w2 ⟨p, cap, rfl, ho, k2⟩; have HO := Lib.hid (ho.base X.out.below.size); have X := Lib.hid (X.out.next k2); clear ho k2; have Y := Lib.hid X.out.more0; have HO := Lib.hid (HO.out.next (below1 _ zeroO)); clear X) | (with_reducible refine w_box Y.out.out rfl rfl rfl rfl ?_; intro wy hwy; have HO := Lib.hid (HO.out.put Y.out.out hwy); have Y := Lib.hid (Y.out.put hwy); clear hwy) | ((with_reducible show wpList _ _ _ (⟨none, Op.store 35 (.tmp 8) (.tmp 165), _, _, _, _⟩ :: _) _ _); refine w_box (b := bdZ) Y.out.res rfl rfl rfl (by rfl) ?_; intro wy hwy; have Y := Lib.hid (Y.out.tell hwy); clear hwy) | fail)
  exact bodyPost_ret (v := .tuple #[bdV bdZ, .int .u64 0, .bool false]) (results_three Try.results48 _ _ (W.heap.size + 1) _ _ _ rfl Y.out.res rfl rfl) rfl (told_none (fun v => .tuple #[v, .int .u64 0, .bool false]) Y.out.below)
def NoRead (t : Int) : Prop := (t == 33554432) = false ∧ (t == 33570816) = false ∧ (t == 33603576) = false ∧ (t == 268435456) = false ∧ (t == 268435457) = false ∧ (t == 268435461) = false ∧ (t == 268439552) = false ∧ (t == 268439560) = false ∧ (t == 268439576) = false ∧ (t == 268443648) = false ∧ (t == 268443656) = false ∧ (t == 268443672) = false
set_option maxRecDepth 10000 in
set_option maxHeartbeats 1000000 in
theorem rdl_no (b : Bd) (F : List ByteArray) (t s n : Int) (W : World) (hf : FAt W (.slice b.fp b.fn b.fc) F) (hF : F.length ≤ 8796093022208) (h : NoRead t) : Calls Try.prog 48 #[bdV b, .int .u64 t, .int .i64 s, .int .u64 n] W (Told W bdZ [] (fun v => .tuple #[v, .int .u64 0, .bool false])) := by
  obtain ⟨h0, h1, h2, h3, h4, h5, h6, h7, h9, h10, h11, h13⟩ := h
  have HFR := Lib.hid hf
  have HFL := Lib.hid hF
  clear hf hF
  go_enter Try.func48, Try.ntmps48
  go_upto_region 1 with (fail)
  have X := Lib.hid (KA.new W b)
  generalize (W.alloc (bdO b)).alloc zeroO = wx at X ⊢
  go_wp2_with (first | (with_reducible refine wpList_load_by rfl rfl (Box.load X.out.own) rfl ?_) | (go_at_call 29; (with_reducible refine (rcopy_bd b F _ (HFR.out.next X.out.below) HFL.out).mono ?_); rintro e w2 ⟨p, cap, rfl, ho, k2⟩; have HO := Lib.hid (ho.base X.out.below.size); have X := Lib.hid (X.out.next k2); clear ho k2; have Y := Lib.hid X.out.more0; have HO := Lib.hid (HO.out.next (below1 _ zeroO)); clear X) | (with_reducible refine w_box Y.out.out rfl rfl rfl rfl ?_; intro wy hwy; have HO := Lib.hid (HO.out.put Y.out.out hwy); have Y := Lib.hid (Y.out.put hwy); clear hwy) | ((with_reducible show wpList _ _ _ (⟨none, Op.store 35 (.tmp 8) (.tmp 165), _, _, _, _⟩ :: _) _ _); refine w_box (b := bdZ) Y.out.res rfl rfl rfl (by rfl) ?_; intro wy hwy; have Y := Lib.hid (Y.out.tell hwy); clear hwy) | fail)
  exact bodyPost_ret (v := .tuple #[bdV bdZ, .int .u64 0, .bool false]) (results_three Try.results48 _ _ (W.heap.size + 1) _ _ _ rfl Y.out.res rfl rfl) rfl (told_none (fun v => .tuple #[v, .int .u64 0, .bool false]) Y.out.below)
theorem rdload_any (b : Bd) (F : List ByteArray) (t s n : Int) (W : World) (hf : FAt W (.slice b.fp b.fn b.fc) F) (hF : F.length ≤ 8796093022208) : Calls Try.prog 48 #[bdV b, .int .u64 t, .int .i64 s, .int .u64 n] W (Told W (ldF b F t s n).1 (ldF b F t s n).2.1 (fun v => .tuple #[v, .int .u64 (ldF b F t s n).2.2.1, .bool (ldF b F t s n).2.2.2])) := by
  by_cases h0 : t = 33554432
  · subst h0
    by_cases hs : s = 4
    · subst hs
      exact rdl_0 b F n W hf hF
    · rw [ldF_none _ _ _ _ _ (by omega)]
      exact rdl_size0 b F s n W hf hF (beq_eq_false_iff_ne.2 hs)
  by_cases h1 : t = 33570816
  · subst h1
    by_cases hs : s = 8
    · subst hs
      exact rdl_1 b F n W hf hF
    · rw [ldF_none _ _ _ _ _ (by omega)]
      exact rdl_size1 b F s n W hf hF (beq_eq_false_iff_ne.2 hs)
  by_cases h2 : t = 33603576
  · subst h2
    by_cases hs : s = 8
    · subst hs
      exact rdl_2 b F n W hf hF
    · rw [ldF_none _ _ _ _ _ (by omega)]
      exact rdl_size2 b F s n W hf hF (beq_eq_false_iff_ne.2 hs)
  by_cases h3 : t = 268435456
  · subst h3
    by_cases hs : s = 1
    · subst hs
      by_cases hq : 0 < b.inn.size
      · exact rdl_3b b F n W hf hF hq
      · exact rdl_3a b F n W hf hF hq
    · rw [ldF_none _ _ _ _ _ (by omega)]
      exact rdl_size3 b F s n W hf hF (beq_eq_false_iff_ne.2 hs)
  by_cases h4 : t = 268435457
  · subst h4
    by_cases hs : s = 1
    · subst hs
      exact rdl_4 b F n W hf hF
    · rw [ldF_none _ _ _ _ _ (by omega)]
      exact rdl_size4 b F s n W hf hF (beq_eq_false_iff_ne.2 hs)
  by_cases h5 : t = 268435461
  · subst h5
    by_cases hs : s = 1
    · subst hs
      exact rdl_5 b F n W hf hF
    · rw [ldF_none _ _ _ _ _ (by omega)]
      exact rdl_size5 b F s n W hf hF (beq_eq_false_iff_ne.2 hs)
  by_cases h6 : t = 268439552
  · subst h6
    by_cases hs : s = 8
    · subst hs
      exact rdl_6 b F n W hf hF
    · rw [ldF_none _ _ _ _ _ (by omega)]
      exact rdl_size6 b F s n W hf hF (beq_eq_false_iff_ne.2 hs)
  by_cases h7 : t = 268439560
  · subst h7
    by_cases hs : s = 8
    · subst hs
      exact rdl_7 b F n W hf hF
    · rw [ldF_none _ _ _ _ _ (by omega)]
      exact rdl_size7 b F s n W hf hF (beq_eq_false_iff_ne.2 hs)
  by_cases h9 : t = 268439576
  · subst h9
    by_cases hs : s = 8
    · subst hs
      exact rdl_9 b F n W hf hF
    · rw [ldF_none _ _ _ _ _ (by omega)]
      exact rdl_size9 b F s n W hf hF (beq_eq_false_iff_ne.2 hs)
  by_cases h10 : t = 268443648
  · subst h10
    by_cases hs : s = 8
    · subst hs
      by_cases hq : 0 < F.length
      · exact rdl_10b b F n W hf hF hq
      · exact rdl_10a b F n W hf hF hq
    · rw [ldF_none _ _ _ _ _ (by omega)]
      exact rdl_size10 b F s n W hf hF (beq_eq_false_iff_ne.2 hs)
  by_cases h11 : t = 268443656
  · subst h11
    by_cases hs : s = 8
    · subst hs
      exact rdl_11 b F n W hf hF
    · rw [ldF_none _ _ _ _ _ (by omega)]
      exact rdl_size11 b F s n W hf hF (beq_eq_false_iff_ne.2 hs)
  by_cases h13 : t = 268443672
  · subst h13
    by_cases hs : s = 8
    · subst hs
      exact rdl_13 b F n W hf hF
    · rw [ldF_none _ _ _ _ _ (by omega)]
      exact rdl_size13 b F s n W hf hF (beq_eq_false_iff_ne.2 hs)
  rw [ldF_none _ _ _ _ _ (by omega)]
  exact rdl_no b F t s n W hf hF ⟨beq_eq_false_iff_ne.2 h0, beq_eq_false_iff_ne.2 h1, beq_eq_false_iff_ne.2 h2, beq_eq_false_iff_ne.2 h3, beq_eq_false_iff_ne.2 h4, beq_eq_false_iff_ne.2 h5, beq_eq_false_iff_ne.2 h6, beq_eq_false_iff_ne.2 h7, beq_eq_false_iff_ne.2 h9, beq_eq_false_iff_ne.2 h10, beq_eq_false_iff_ne.2 h11, beq_eq_false_iff_ne.2 h13⟩

end Go.Proofs.Ytnedhjaphfjdmaa
