/- Store of the reference, devices. -/
import Derived.Test.YtnedhjaphfjdmaaYDN
import Derived.Test.YtnedhjaphfjdmaaYDX
import Derived.Test.YtnedhjaphfjdmaaYRD
namespace Go.Proofs.Ytnedhjaphfjdmaa
open Go.RowKit Go.Deep Go.Joins
/-- A function's own board, the two results, and the board at z that is changed. -/
structure KD (W wx : World) (z : Nat) (b o r : Bd) (k : Int) (s : ByteArray) : Prop where
  ks : KS W wx b r k s
  out : Box wx z o
  far : W.heap.size + 2 < z
theorem KS.more0 {W w : World} {b r : Bd} {k : Int} {s : ByteArray} (h : KS W w b r k s) : KD W (w.alloc zeroO) w.heap.size b bdZ r k s := ⟨h.next (below1 w zeroO), Box.new w bdZ, h.size⟩
theorem KD.put {W w w' : World} {z : Nat} {b o o' r : Bd} {k : Int} {s : ByteArray} (h : KD W w z b o r k s) (hw : w' = w.setRow z (bdC o')) : KD W w' z b o' r k s := ⟨h.ks.far h.far hw, by subst hw; exact Box.mine h.out o', h.far⟩
theorem Box.keep {w w' : World} {g x : Nat} {b : Bd} {cs : Array Value} (h : Box w g b) (hg : g ≠ x) (hw : w' = w.setRow x cs) : Box w' g b := by subst hw; exact h.over hg cs
theorem KD.tell {W w w' : World} {z : Nat} {b o r r' : Bd} {k : Int} {s : ByteArray} (h : KD W w z b o r k s) (hw : w' = w.setRow (W.heap.size + 1) (bdC r')) : KD W w' z b o r' k s := ⟨h.ks.tell hw, h.out.keep (by have := h.far; omega) hw, h.far⟩
theorem KD.give {W w w' : World} {z : Nat} {b o r : Bd} {k k' : Int} {s s' : ByteArray} (h : KD W w z b o r k s) (hw : w' = w.setRow (W.heap.size + 2) #[.int .i64 k', .string s']) : KD W w' z b o r k' s' := ⟨h.ks.give hw, h.out.keep (by have := h.far; omega) hw, h.far⟩
theorem KD.next {W w w' : World} {z : Nat} {b o r : Bd} {k : Int} {s : ByteArray} (h : KD W w z b o r k s) (j : Below w.heap.size w w') : KD W w' z b o r k s := ⟨h.ks.next j, h.out.next j, h.far⟩
set_option maxRecDepth 10000 in
set_option maxHeartbeats 1000000 in
theorem rds_1 (b : Bd) (F : List ByteArray) (v : Int) (W : World) (hf : FAt W (.slice b.fp b.fn b.fc) F) (hF : F.length ≤ 8796093022208) : Calls Try.prog 52 #[bdV b, .int .u64 33570816, .int .i64 8, .int .u64 v] W (Told W (stF b F 33570816 8 v).1 (stF b F 33570816 8 v).2.1 (fun x => .tuple #[x, effV (stF b F 33570816 8 v).2.2.1 (stF b F 33570816 8 v).2.2.2.1, .bool (stF b F 33570816 8 v).2.2.2.2])) := by
  have hr : stF b F 33570816 8 v = ({ b with cmp := v }, F, (0), (⟨#[]⟩), true) := rfl
  rw [hr]
  clear hr
  have HFR := Lib.hid hf
  have HFL := Lib.hid hF
  clear hf hF
  go_enter Try.func52, Try.ntmps52
  go_upto_region 1 with (fail)
  have X := Lib.hid (KS.new W b)
  generalize ((W.alloc (bdO b)).alloc zeroO).alloc effO = wx at X ⊢
  go_wp2_with (first | (with_reducible refine wpList_load_by rfl rfl (Box.load X.out.own) rfl ?_) | (go_at_call 29; (with_reducible refine (rcopy_bd b F _ (HFR.out.next X.out.below) HFL.out).mono ?_); rintro e w2 ⟨p, cap, rfl, ho, k2⟩; have HO := Lib.hid ((ho.base X.out.below.size).next (below1 _ zeroO)); have Y := Lib.hid ((X.out.next k2).more0); clear X ho k2) | (with_reducible refine w_box Y.out.out rfl rfl rfl rfl ?_; intro wy hwy; have HO := Lib.hid (HO.out.put Y.out.out hwy); have Y := Lib.hid (Y.out.put hwy); clear hwy) | (with_reducible refine wpList_load_by rfl rfl (Box.load Y.out.out) rfl ?_) | (with_reducible refine w_box Y.out.ks.res rfl rfl rfl rfl ?_; intro wy hwy; have HO := Lib.hid (HO.out.put Y.out.ks.res hwy); have Y := Lib.hid (Y.out.tell hwy); clear hwy) | ((with_reducible show wpList _ _ _ (⟨none, Op.store 80 (.tmp 9) (.tmp 119), _, _, _, _⟩ :: _) _ _); refine EBox.w_all (k' := 0) (s' := ⟨#[]⟩) Y.out.ks.eff rfl rfl rfl (by rfl) ?_; intro wz hwz; have HO := Lib.hid (HO.out.eput Y.out.ks.eff hwz); have Y := Lib.hid (Y.out.give hwz); clear hwz) | (with_reducible refine Box.w_cmp Y.out.out rfl rfl rfl rfl ?_; intro wy hwy; have HO := Lib.hid (HO.out.put Y.out.out hwy); have Y := Lib.hid (Y.out.put hwy); clear hwy) | fail)
  exact bodyPost_ret (v := .tuple #[bdV ({ (b.at p F.length cap) with cmp := v } : Bd), effV (0) (⟨#[]⟩), .bool true]) (results_store Try.results52 _ _ (W.heap.size + 1) (W.heap.size + 2) _ _ _ _ rfl Y.out.ks.res rfl Y.out.ks.eff rfl) rfl ⟨p, cap, rfl, HO.out, Y.out.ks.below⟩
set_option maxRecDepth 10000 in
set_option maxHeartbeats 1000000 in
theorem rds_6 (b : Bd) (F : List ByteArray) (v : Int) (W : World) (hf : FAt W (.slice b.fp b.fn b.fc) F) (hF : F.length ≤ 8796093022208) : Calls Try.prog 52 #[bdV b, .int .u64 268439552, .int .i64 8, .int .u64 v] W (Told W (stF b F 268439552 8 v).1 (stF b F 268439552 8 v).2.1 (fun x => .tuple #[x, effV (stF b F 268439552 8 v).2.2.1 (stF b F 268439552 8 v).2.2.2.1, .bool (stF b F 268439552 8 v).2.2.2.2])) := by
  have hr : stF b F 268439552 8 v = ({ b with sector := v }, F, (0), (⟨#[]⟩), true) := rfl
  rw [hr]
  clear hr
  have HFR := Lib.hid hf
  have HFL := Lib.hid hF
  clear hf hF
  go_enter Try.func52, Try.ntmps52
  go_upto_region 1 with (fail)
  have X := Lib.hid (KS.new W b)
  generalize ((W.alloc (bdO b)).alloc zeroO).alloc effO = wx at X ⊢
  go_wp2_with (first | (with_reducible refine wpList_load_by rfl rfl (Box.load X.out.own) rfl ?_) | (go_at_call 29; (with_reducible refine (rcopy_bd b F _ (HFR.out.next X.out.below) HFL.out).mono ?_); rintro e w2 ⟨p, cap, rfl, ho, k2⟩; have HO := Lib.hid ((ho.base X.out.below.size).next (below1 _ zeroO)); have Y := Lib.hid ((X.out.next k2).more0); clear X ho k2) | (with_reducible refine w_box Y.out.out rfl rfl rfl rfl ?_; intro wy hwy; have HO := Lib.hid (HO.out.put Y.out.out hwy); have Y := Lib.hid (Y.out.put hwy); clear hwy) | (with_reducible refine wpList_load_by rfl rfl (Box.load Y.out.out) rfl ?_) | (with_reducible refine w_box Y.out.ks.res rfl rfl rfl rfl ?_; intro wy hwy; have HO := Lib.hid (HO.out.put Y.out.ks.res hwy); have Y := Lib.hid (Y.out.tell hwy); clear hwy) | ((with_reducible show wpList _ _ _ (⟨none, Op.store 80 (.tmp 9) (.tmp 119), _, _, _, _⟩ :: _) _ _); refine EBox.w_all (k' := 0) (s' := ⟨#[]⟩) Y.out.ks.eff rfl rfl rfl (by rfl) ?_; intro wz hwz; have HO := Lib.hid (HO.out.eput Y.out.ks.eff hwz); have Y := Lib.hid (Y.out.give hwz); clear hwz) | (with_reducible refine Box.w_sector Y.out.out rfl rfl rfl rfl ?_; intro wy hwy; have HO := Lib.hid (HO.out.put Y.out.out hwy); have Y := Lib.hid (Y.out.put hwy); clear hwy) | fail)
  exact bodyPost_ret (v := .tuple #[bdV ({ (b.at p F.length cap) with sector := v } : Bd), effV (0) (⟨#[]⟩), .bool true]) (results_store Try.results52 _ _ (W.heap.size + 1) (W.heap.size + 2) _ _ _ _ rfl Y.out.ks.res rfl Y.out.ks.eff rfl) rfl ⟨p, cap, rfl, HO.out, Y.out.ks.below⟩
set_option maxRecDepth 10000 in
set_option maxHeartbeats 1000000 in
theorem rds_7 (b : Bd) (F : List ByteArray) (v : Int) (W : World) (hf : FAt W (.slice b.fp b.fn b.fc) F) (hF : F.length ≤ 8796093022208) : Calls Try.prog 52 #[bdV b, .int .u64 268439560, .int .i64 8, .int .u64 v] W (Told W (stF b F 268439560 8 v).1 (stF b F 268439560 8 v).2.1 (fun x => .tuple #[x, effV (stF b F 268439560 8 v).2.2.1 (stF b F 268439560 8 v).2.2.2.1, .bool (stF b F 268439560 8 v).2.2.2.2])) := by
  have hr : stF b F 268439560 8 v = ({ b with addr := v }, F, (0), (⟨#[]⟩), true) := rfl
  rw [hr]
  clear hr
  have HFR := Lib.hid hf
  have HFL := Lib.hid hF
  clear hf hF
  go_enter Try.func52, Try.ntmps52
  go_upto_region 1 with (fail)
  have X := Lib.hid (KS.new W b)
  generalize ((W.alloc (bdO b)).alloc zeroO).alloc effO = wx at X ⊢
  go_wp2_with (first | (with_reducible refine wpList_load_by rfl rfl (Box.load X.out.own) rfl ?_) | (go_at_call 29; (with_reducible refine (rcopy_bd b F _ (HFR.out.next X.out.below) HFL.out).mono ?_); rintro e w2 ⟨p, cap, rfl, ho, k2⟩; have HO := Lib.hid ((ho.base X.out.below.size).next (below1 _ zeroO)); have Y := Lib.hid ((X.out.next k2).more0); clear X ho k2) | (with_reducible refine w_box Y.out.out rfl rfl rfl rfl ?_; intro wy hwy; have HO := Lib.hid (HO.out.put Y.out.out hwy); have Y := Lib.hid (Y.out.put hwy); clear hwy) | (with_reducible refine wpList_load_by rfl rfl (Box.load Y.out.out) rfl ?_) | (with_reducible refine w_box Y.out.ks.res rfl rfl rfl rfl ?_; intro wy hwy; have HO := Lib.hid (HO.out.put Y.out.ks.res hwy); have Y := Lib.hid (Y.out.tell hwy); clear hwy) | ((with_reducible show wpList _ _ _ (⟨none, Op.store 80 (.tmp 9) (.tmp 119), _, _, _, _⟩ :: _) _ _); refine EBox.w_all (k' := 0) (s' := ⟨#[]⟩) Y.out.ks.eff rfl rfl rfl (by rfl) ?_; intro wz hwz; have HO := Lib.hid (HO.out.eput Y.out.ks.eff hwz); have Y := Lib.hid (Y.out.give hwz); clear hwz) | (with_reducible refine Box.w_addr Y.out.out rfl rfl rfl rfl ?_; intro wy hwy; have HO := Lib.hid (HO.out.put Y.out.out hwy); have Y := Lib.hid (Y.out.put hwy); clear hwy) | fail)
  exact bodyPost_ret (v := .tuple #[bdV ({ (b.at p F.length cap) with addr := v } : Bd), effV (0) (⟨#[]⟩), .bool true]) (results_store Try.results52 _ _ (W.heap.size + 1) (W.heap.size + 2) _ _ _ _ rfl Y.out.ks.res rfl Y.out.ks.eff rfl) rfl ⟨p, cap, rfl, HO.out, Y.out.ks.below⟩
set_option maxRecDepth 10000 in
set_option maxHeartbeats 1000000 in
theorem rds_11 (b : Bd) (F : List ByteArray) (v : Int) (W : World) (hf : FAt W (.slice b.fp b.fn b.fc) F) (hF : F.length ≤ 8796093022208) : Calls Try.prog 52 #[bdV b, .int .u64 268443656, .int .i64 8, .int .u64 v] W (Told W (stF b F 268443656 8 v).1 (stF b F 268443656 8 v).2.1 (fun x => .tuple #[x, effV (stF b F 268443656 8 v).2.2.1 (stF b F 268443656 8 v).2.2.2.1, .bool (stF b F 268443656 8 v).2.2.2.2])) := by
  have hr : stF b F 268443656 8 v = ({ b with nicA := v }, F, (0), (⟨#[]⟩), true) := rfl
  rw [hr]
  clear hr
  have HFR := Lib.hid hf
  have HFL := Lib.hid hF
  clear hf hF
  go_enter Try.func52, Try.ntmps52
  go_upto_region 1 with (fail)
  have X := Lib.hid (KS.new W b)
  generalize ((W.alloc (bdO b)).alloc zeroO).alloc effO = wx at X ⊢
  go_wp2_with (first | (with_reducible refine wpList_load_by rfl rfl (Box.load X.out.own) rfl ?_) | (go_at_call 29; (with_reducible refine (rcopy_bd b F _ (HFR.out.next X.out.below) HFL.out).mono ?_); rintro e w2 ⟨p, cap, rfl, ho, k2⟩; have HO := Lib.hid ((ho.base X.out.below.size).next (below1 _ zeroO)); have Y := Lib.hid ((X.out.next k2).more0); clear X ho k2) | (with_reducible refine w_box Y.out.out rfl rfl rfl rfl ?_; intro wy hwy; have HO := Lib.hid (HO.out.put Y.out.out hwy); have Y := Lib.hid (Y.out.put hwy); clear hwy) | (with_reducible refine wpList_load_by rfl rfl (Box.load Y.out.out) rfl ?_) | (with_reducible refine w_box Y.out.ks.res rfl rfl rfl rfl ?_; intro wy hwy; have HO := Lib.hid (HO.out.put Y.out.ks.res hwy); have Y := Lib.hid (Y.out.tell hwy); clear hwy) | ((with_reducible show wpList _ _ _ (⟨none, Op.store 80 (.tmp 9) (.tmp 119), _, _, _, _⟩ :: _) _ _); refine EBox.w_all (k' := 0) (s' := ⟨#[]⟩) Y.out.ks.eff rfl rfl rfl (by rfl) ?_; intro wz hwz; have HO := Lib.hid (HO.out.eput Y.out.ks.eff hwz); have Y := Lib.hid (Y.out.give hwz); clear hwz) | (with_reducible refine Box.w_nicA Y.out.out rfl rfl rfl rfl ?_; intro wy hwy; have HO := Lib.hid (HO.out.put Y.out.out hwy); have Y := Lib.hid (Y.out.put hwy); clear hwy) | fail)
  exact bodyPost_ret (v := .tuple #[bdV ({ (b.at p F.length cap) with nicA := v } : Bd), effV (0) (⟨#[]⟩), .bool true]) (results_store Try.results52 _ _ (W.heap.size + 1) (W.heap.size + 2) _ _ _ _ rfl Y.out.ks.res rfl Y.out.ks.eff rfl) rfl ⟨p, cap, rfl, HO.out, Y.out.ks.below⟩
set_option maxRecDepth 10000 in
set_option maxHeartbeats 1000000 in
theorem rds_13 (b : Bd) (F : List ByteArray) (v : Int) (W : World) (hf : FAt W (.slice b.fp b.fn b.fc) F) (hF : F.length ≤ 8796093022208) : Calls Try.prog 52 #[bdV b, .int .u64 268443672, .int .i64 8, .int .u64 v] W (Told W (stF b F 268443672 8 v).1 (stF b F 268443672 8 v).2.1 (fun x => .tuple #[x, effV (stF b F 268443672 8 v).2.2.1 (stF b F 268443672 8 v).2.2.2.1, .bool (stF b F 268443672 8 v).2.2.2.2])) := by
  have hr : stF b F 268443672 8 v = ({ b with nicL := v }, F, (0), (⟨#[]⟩), true) := rfl
  rw [hr]
  clear hr
  have HFR := Lib.hid hf
  have HFL := Lib.hid hF
  clear hf hF
  go_enter Try.func52, Try.ntmps52
  go_upto_region 1 with (fail)
  have X := Lib.hid (KS.new W b)
  generalize ((W.alloc (bdO b)).alloc zeroO).alloc effO = wx at X ⊢
  go_wp2_with (first | (with_reducible refine wpList_load_by rfl rfl (Box.load X.out.own) rfl ?_) | (go_at_call 29; (with_reducible refine (rcopy_bd b F _ (HFR.out.next X.out.below) HFL.out).mono ?_); rintro e w2 ⟨p, cap, rfl, ho, k2⟩; have HO := Lib.hid ((ho.base X.out.below.size).next (below1 _ zeroO)); have Y := Lib.hid ((X.out.next k2).more0); clear X ho k2) | (with_reducible refine w_box Y.out.out rfl rfl rfl rfl ?_; intro wy hwy; have HO := Lib.hid (HO.out.put Y.out.out hwy); have Y := Lib.hid (Y.out.put hwy); clear hwy) | (with_reducible refine wpList_load_by rfl rfl (Box.load Y.out.out) rfl ?_) | (with_reducible refine w_box Y.out.ks.res rfl rfl rfl rfl ?_; intro wy hwy; have HO := Lib.hid (HO.out.put Y.out.ks.res hwy); have Y := Lib.hid (Y.out.tell hwy); clear hwy) | ((with_reducible show wpList _ _ _ (⟨none, Op.store 80 (.tmp 9) (.tmp 119), _, _, _, _⟩ :: _) _ _); refine EBox.w_all (k' := 0) (s' := ⟨#[]⟩) Y.out.ks.eff rfl rfl rfl (by rfl) ?_; intro wz hwz; have HO := Lib.hid (HO.out.eput Y.out.ks.eff hwz); have Y := Lib.hid (Y.out.give hwz); clear hwz) | (with_reducible refine Box.w_nicL Y.out.out rfl rfl rfl rfl ?_; intro wy hwy; have HO := Lib.hid (HO.out.put Y.out.out hwy); have Y := Lib.hid (Y.out.put hwy); clear hwy) | fail)
  exact bodyPost_ret (v := .tuple #[bdV ({ (b.at p F.length cap) with nicL := v } : Bd), effV (0) (⟨#[]⟩), .bool true]) (results_store Try.results52 _ _ (W.heap.size + 1) (W.heap.size + 2) _ _ _ _ rfl Y.out.ks.res rfl Y.out.ks.eff rfl) rfl ⟨p, cap, rfl, HO.out, Y.out.ks.below⟩
set_option maxRecDepth 10000 in
set_option maxHeartbeats 1000000 in
theorem rds_0 (b : Bd) (F : List ByteArray) (v : Int) (W : World) (hf : FAt W (.slice b.fp b.fn b.fc) F) (hF : F.length ≤ 8796093022208) : Calls Try.prog 52 #[bdV b, .int .u64 33554432, .int .i64 4, .int .u64 v] W (Told W (stF b F 33554432 4 v).1 (stF b F 33554432 4 v).2.1 (fun x => .tuple #[x, effV (stF b F 33554432 4 v).2.2.1 (stF b F 33554432 4 v).2.2.2.1, .bool (stF b F 33554432 4 v).2.2.2.2])) := by
  have hr : stF b F 33554432 4 v = ({ b with msip := bits .and .u64 v 1 == 1 }, F, (0), (⟨#[]⟩), true) := rfl
  rw [hr]
  clear hr
  have HFR := Lib.hid hf
  have HFL := Lib.hid hF
  clear hf hF
  go_enter Try.func52, Try.ntmps52
  go_upto_region 1 with (fail)
  have X := Lib.hid (KS.new W b)
  generalize ((W.alloc (bdO b)).alloc zeroO).alloc effO = wx at X ⊢
  go_wp2_with (first | (with_reducible refine wpList_load_by rfl rfl (Box.load X.out.own) rfl ?_) | (go_at_call 29; (with_reducible refine (rcopy_bd b F _ (HFR.out.next X.out.below) HFL.out).mono ?_); rintro e w2 ⟨p, cap, rfl, ho, k2⟩; have HO := Lib.hid ((ho.base X.out.below.size).next (below1 _ zeroO)); have Y := Lib.hid ((X.out.next k2).more0); clear X ho k2) | (with_reducible refine w_box Y.out.out rfl rfl rfl rfl ?_; intro wy hwy; have HO := Lib.hid (HO.out.put Y.out.out hwy); have Y := Lib.hid (Y.out.put hwy); clear hwy) | (with_reducible refine wpList_load_by rfl rfl (Box.load Y.out.out) rfl ?_) | (with_reducible refine w_box Y.out.ks.res rfl rfl rfl rfl ?_; intro wy hwy; have HO := Lib.hid (HO.out.put Y.out.ks.res hwy); have Y := Lib.hid (Y.out.tell hwy); clear hwy) | ((with_reducible show wpList _ _ _ (⟨none, Op.store 80 (.tmp 9) (.tmp 119), _, _, _, _⟩ :: _) _ _); refine EBox.w_all (k' := 0) (s' := ⟨#[]⟩) Y.out.ks.eff rfl rfl rfl (by rfl) ?_; intro wz hwz; have HO := Lib.hid (HO.out.eput Y.out.ks.eff hwz); have Y := Lib.hid (Y.out.give hwz); clear hwz) | (with_reducible refine Box.w_msip Y.out.out rfl rfl rfl rfl ?_; intro wy hwy; have HO := Lib.hid (HO.out.put Y.out.out hwy); have Y := Lib.hid (Y.out.put hwy); clear hwy) | fail)
  exact bodyPost_ret (v := .tuple #[bdV ({ (b.at p F.length cap) with msip := bits .and .u64 v 1 == 1 } : Bd), effV (0) (⟨#[]⟩), .bool true]) (results_store Try.results52 _ _ (W.heap.size + 1) (W.heap.size + 2) _ _ _ _ rfl Y.out.ks.res rfl Y.out.ks.eff rfl) rfl ⟨p, cap, rfl, HO.out, Y.out.ks.below⟩
set_option maxRecDepth 10000 in
set_option maxHeartbeats 1000000 in
theorem rds_4 (b : Bd) (F : List ByteArray) (v : Int) (W : World) (hf : FAt W (.slice b.fp b.fn b.fc) F) (hF : F.length ≤ 8796093022208) : Calls Try.prog 52 #[bdV b, .int .u64 268435457, .int .i64 1, .int .u64 v] W (Told W (stF b F 268435457 1 v).1 (stF b F 268435457 1 v).2.1 (fun x => .tuple #[x, effV (stF b F 268435457 1 v).2.2.1 (stF b F 268435457 1 v).2.2.2.1, .bool (stF b F 268435457 1 v).2.2.2.2])) := by
  have hr : stF b F 268435457 1 v = ({ b with ier := bits .and .u64 v 1 == 1 }, F, (0), (⟨#[]⟩), true) := rfl
  rw [hr]
  clear hr
  have HFR := Lib.hid hf
  have HFL := Lib.hid hF
  clear hf hF
  go_enter Try.func52, Try.ntmps52
  go_upto_region 1 with (fail)
  have X := Lib.hid (KS.new W b)
  generalize ((W.alloc (bdO b)).alloc zeroO).alloc effO = wx at X ⊢
  go_wp2_with (first | (with_reducible refine wpList_load_by rfl rfl (Box.load X.out.own) rfl ?_) | (go_at_call 29; (with_reducible refine (rcopy_bd b F _ (HFR.out.next X.out.below) HFL.out).mono ?_); rintro e w2 ⟨p, cap, rfl, ho, k2⟩; have HO := Lib.hid ((ho.base X.out.below.size).next (below1 _ zeroO)); have Y := Lib.hid ((X.out.next k2).more0); clear X ho k2) | (with_reducible refine w_box Y.out.out rfl rfl rfl rfl ?_; intro wy hwy; have HO := Lib.hid (HO.out.put Y.out.out hwy); have Y := Lib.hid (Y.out.put hwy); clear hwy) | (with_reducible refine wpList_load_by rfl rfl (Box.load Y.out.out) rfl ?_) | (with_reducible refine w_box Y.out.ks.res rfl rfl rfl rfl ?_; intro wy hwy; have HO := Lib.hid (HO.out.put Y.out.ks.res hwy); have Y := Lib.hid (Y.out.tell hwy); clear hwy) | ((with_reducible show wpList _ _ _ (⟨none, Op.store 80 (.tmp 9) (.tmp 119), _, _, _, _⟩ :: _) _ _); refine EBox.w_all (k' := 0) (s' := ⟨#[]⟩) Y.out.ks.eff rfl rfl rfl (by rfl) ?_; intro wz hwz; have HO := Lib.hid (HO.out.eput Y.out.ks.eff hwz); have Y := Lib.hid (Y.out.give hwz); clear hwz) | (with_reducible refine Box.w_ier Y.out.out rfl rfl rfl rfl ?_; intro wy hwy; have HO := Lib.hid (HO.out.put Y.out.out hwy); have Y := Lib.hid (Y.out.put hwy); clear hwy) | fail)
  exact bodyPost_ret (v := .tuple #[bdV ({ (b.at p F.length cap) with ier := bits .and .u64 v 1 == 1 } : Bd), effV (0) (⟨#[]⟩), .bool true]) (results_store Try.results52 _ _ (W.heap.size + 1) (W.heap.size + 2) _ _ _ _ rfl Y.out.ks.res rfl Y.out.ks.eff rfl) rfl ⟨p, cap, rfl, HO.out, Y.out.ks.below⟩
set_option maxRecDepth 10000 in
set_option maxHeartbeats 1000000 in
theorem rds_8 (b : Bd) (F : List ByteArray) (v : Int) (W : World) (hf : FAt W (.slice b.fp b.fn b.fc) F) (hF : F.length ≤ 8796093022208) : Calls Try.prog 52 #[bdV b, .int .u64 268439568, .int .i64 8, .int .u64 v] W (Told W (stF b F 268439568 8 v).1 (stF b F 268439568 8 v).2.1 (fun x => .tuple #[x, effV (stF b F 268439568 8 v).2.2.1 (stF b F 268439568 8 v).2.2.2.1, .bool (stF b F 268439568 8 v).2.2.2.2])) := by
  have hr : stF b F 268439568 8 v = (b, F, (ordV v 2 3), (⟨#[]⟩), true) := rfl
  rw [hr]
  clear hr
  have HFR := Lib.hid hf
  have HFL := Lib.hid hF
  clear hf hF
  have HOR := Lib.hid (rorder_any v 2 3)
  go_enter Try.func52, Try.ntmps52
  go_upto_region 1 with (fail)
  have X := Lib.hid (KS.new W b)
  generalize ((W.alloc (bdO b)).alloc zeroO).alloc effO = wx at X ⊢
  go_upto_region 16 with (first | (with_reducible refine wpList_load_by rfl rfl (Box.load X.out.own) rfl ?_) | (go_at_call 29; (with_reducible refine (rcopy_bd b F _ (HFR.out.next X.out.below) HFL.out).mono ?_); rintro e w2 ⟨p, cap, rfl, ho, k2⟩; have HO := Lib.hid ((ho.base X.out.below.size).next (below1 _ zeroO)); have Y := Lib.hid ((X.out.next k2).more0); clear X ho k2) | (with_reducible refine w_box Y.out.out rfl rfl rfl rfl ?_; intro wy hwy; have HO := Lib.hid (HO.out.put Y.out.out hwy); have Y := Lib.hid (Y.out.put hwy); clear hwy) | (with_reducible refine wpList_load_by rfl rfl (Box.load Y.out.out) rfl ?_) | (with_reducible refine w_box Y.out.ks.res rfl rfl rfl rfl ?_; intro wy hwy; have HO := Lib.hid (HO.out.put Y.out.ks.res hwy); have Y := Lib.hid (Y.out.tell hwy); clear hwy) | ((with_reducible show wpList _ _ _ (⟨none, Op.store 80 (.tmp 9) (.tmp 119), _, _, _, _⟩ :: _) _ _); refine EBox.w_all (k' := 0) (s' := ⟨#[]⟩) Y.out.ks.eff rfl rfl rfl (by rfl) ?_; intro wz hwz; have HO := Lib.hid (HO.out.eput Y.out.ks.eff hwz); have Y := Lib.hid (Y.out.give hwz); clear hwz) | fail)
  refine wp_region_held (S := fun w => Box w w2.heap.size (b.at p F.length cap)) (by kernel_rfl) ?_
  have hd : { wy with drawn := wy.drawn + 1 } = wy.drew := rfl
  rw [hd]
  clear hd
  replace Y := Lib.hid (Y.out.next (Below.refl _ _).drew)
  replace HO := Lib.hid (HO.out.next (Below.refl _ _).drew)
  generalize wy.drew = wz at Y HO ⊢
  have hS : Box wz w2.heap.size (b.at p F.length cap) := Y.out.out
  refine tl 0 hS (fun w hw => Box.load hw) ?_
  refine tk 1 hS ?_
  refine held_call (i := 2) (o := ⟨some 87, Op.call { callee := .value (.func 66), args := #[.tmp 86, .const (.int .i64 2), .const (.int .i64 3)], argTypes := #[22, 3, 3] }, _, _, _, none⟩) (by kernel_rfl) rfl rfl (by go_simp) (HOR.out _) hS ?_
  simp only [puts]
  refine tk 3 hS ?_
  refine held_store (i := 4) (o := ⟨none, Op.store 35 (.tmp 8) (.tmp 85), _, _, _, none⟩) (by kernel_rfl) rfl rfl rfl rfl rfl (store_box _ _ _ _ Y.out.ks.res (bdC_size _)) (Y.out.out.over (by have := Y.out.far; omega) _) ?_
  simp only [puts]
  replace HO := Lib.hid (HO.out.over Y.out.ks.res (bdC (b.at p F.length cap)))
  replace Y := Lib.hid (Y.out.tell (r' := (b.at p F.length cap)) rfl)
  refine held_store (i := 5) (o := ⟨none, Op.store 80 (.tmp 9) (.tmp 88), _, _, _, none⟩) (by kernel_rfl) rfl rfl rfl rfl (by rfl) (EBox.store Y.out.ks.eff ((ordV v 2 3)) ((⟨#[]⟩))) (Y.out.out.over (by have := Y.out.far; omega) _) ?_
  simp only [puts]
  replace HO := Lib.hid (HO.out.eput Y.out.ks.eff (cs := #[.int .i64 ((ordV v 2 3)), .string ((⟨#[]⟩))]) rfl)
  replace Y := Lib.hid (Y.out.give (k' := (ordV v 2 3)) (s' := (⟨#[]⟩)) rfl)
  replace hS := Y.out.out
  refine tk 6 hS ?_
  refine wpAnyH_done (by kernel_rfl) ?_ _
  go_wp2_with fail
  exact bodyPost_ret (v := .tuple #[bdV (b.at p F.length cap), effV (ordV v 2 3) (⟨#[]⟩), .bool true]) (results_store Try.results52 _ _ (W.heap.size + 1) (W.heap.size + 2) _ _ _ _ rfl Y.out.ks.res rfl Y.out.ks.eff rfl) rfl ⟨p, cap, rfl, HO.out, Y.out.ks.below⟩
set_option maxRecDepth 10000 in
set_option maxHeartbeats 1000000 in
theorem rds_12 (b : Bd) (F : List ByteArray) (v : Int) (W : World) (hf : FAt W (.slice b.fp b.fn b.fc) F) (hF : F.length ≤ 8796093022208) : Calls Try.prog 52 #[bdV b, .int .u64 268443664, .int .i64 8, .int .u64 v] W (Told W (stF b F 268443664 8 v).1 (stF b F 268443664 8 v).2.1 (fun x => .tuple #[x, effV (stF b F 268443664 8 v).2.2.1 (stF b F 268443664 8 v).2.2.2.1, .bool (stF b F 268443664 8 v).2.2.2.2])) := by
  have hr : stF b F 268443664 8 v = (b, F, (ordV v 4 5), (⟨#[]⟩), true) := rfl
  rw [hr]
  clear hr
  have HFR := Lib.hid hf
  have HFL := Lib.hid hF
  clear hf hF
  have HOR := Lib.hid (rorder_any v 4 5)
  go_enter Try.func52, Try.ntmps52
  go_upto_region 1 with (fail)
  have X := Lib.hid (KS.new W b)
  generalize ((W.alloc (bdO b)).alloc zeroO).alloc effO = wx at X ⊢
  go_upto_region 20 with (first | (with_reducible refine wpList_load_by rfl rfl (Box.load X.out.own) rfl ?_) | (go_at_call 29; (with_reducible refine (rcopy_bd b F _ (HFR.out.next X.out.below) HFL.out).mono ?_); rintro e w2 ⟨p, cap, rfl, ho, k2⟩; have HO := Lib.hid ((ho.base X.out.below.size).next (below1 _ zeroO)); have Y := Lib.hid ((X.out.next k2).more0); clear X ho k2) | (with_reducible refine w_box Y.out.out rfl rfl rfl rfl ?_; intro wy hwy; have HO := Lib.hid (HO.out.put Y.out.out hwy); have Y := Lib.hid (Y.out.put hwy); clear hwy) | (with_reducible refine wpList_load_by rfl rfl (Box.load Y.out.out) rfl ?_) | (with_reducible refine w_box Y.out.ks.res rfl rfl rfl rfl ?_; intro wy hwy; have HO := Lib.hid (HO.out.put Y.out.ks.res hwy); have Y := Lib.hid (Y.out.tell hwy); clear hwy) | ((with_reducible show wpList _ _ _ (⟨none, Op.store 80 (.tmp 9) (.tmp 119), _, _, _, _⟩ :: _) _ _); refine EBox.w_all (k' := 0) (s' := ⟨#[]⟩) Y.out.ks.eff rfl rfl rfl (by rfl) ?_; intro wz hwz; have HO := Lib.hid (HO.out.eput Y.out.ks.eff hwz); have Y := Lib.hid (Y.out.give hwz); clear hwz) | fail)
  refine wp_region_held (S := fun w => Box w w2.heap.size (b.at p F.length cap)) (by kernel_rfl) ?_
  have hd : { wy with drawn := wy.drawn + 1 } = wy.drew := rfl
  rw [hd]
  clear hd
  replace Y := Lib.hid (Y.out.next (Below.refl _ _).drew)
  replace HO := Lib.hid (HO.out.next (Below.refl _ _).drew)
  generalize wy.drew = wz at Y HO ⊢
  have hS : Box wz w2.heap.size (b.at p F.length cap) := Y.out.out
  refine tl 0 hS (fun w hw => Box.load hw) ?_
  refine tk 1 hS ?_
  refine held_call (i := 2) (o := ⟨some 107, Op.call { callee := .value (.func 66), args := #[.tmp 106, .const (.int .i64 4), .const (.int .i64 5)], argTypes := #[22, 3, 3] }, _, _, _, none⟩) (by kernel_rfl) rfl rfl (by go_simp) (HOR.out _) hS ?_
  simp only [puts]
  refine tk 3 hS ?_
  refine held_store (i := 4) (o := ⟨none, Op.store 35 (.tmp 8) (.tmp 105), _, _, _, none⟩) (by kernel_rfl) rfl rfl rfl rfl rfl (store_box _ _ _ _ Y.out.ks.res (bdC_size _)) (Y.out.out.over (by have := Y.out.far; omega) _) ?_
  simp only [puts]
  replace HO := Lib.hid (HO.out.over Y.out.ks.res (bdC (b.at p F.length cap)))
  replace Y := Lib.hid (Y.out.tell (r' := (b.at p F.length cap)) rfl)
  refine held_store (i := 5) (o := ⟨none, Op.store 80 (.tmp 9) (.tmp 108), _, _, _, none⟩) (by kernel_rfl) rfl rfl rfl rfl (by rfl) (EBox.store Y.out.ks.eff ((ordV v 4 5)) ((⟨#[]⟩))) (Y.out.out.over (by have := Y.out.far; omega) _) ?_
  simp only [puts]
  replace HO := Lib.hid (HO.out.eput Y.out.ks.eff (cs := #[.int .i64 ((ordV v 4 5)), .string ((⟨#[]⟩))]) rfl)
  replace Y := Lib.hid (Y.out.give (k' := (ordV v 4 5)) (s' := (⟨#[]⟩)) rfl)
  replace hS := Y.out.out
  refine tk 6 hS ?_
  refine wpAnyH_done (by kernel_rfl) ?_ _
  go_wp2_with fail
  exact bodyPost_ret (v := .tuple #[bdV (b.at p F.length cap), effV (ordV v 4 5) (⟨#[]⟩), .bool true]) (results_store Try.results52 _ _ (W.heap.size + 1) (W.heap.size + 2) _ _ _ _ rfl Y.out.ks.res rfl Y.out.ks.eff rfl) rfl ⟨p, cap, rfl, HO.out, Y.out.ks.below⟩
theorem byte_hid (v : Int) (h0 : 0 ≤ v) : IntKind.u8.wrap v = ((UInt8.ofNat v.toNat).toNat : Int) := by
  rw [IntKind.wrap_u8, UInt8.toNat_ofNat']
  omega

end Go.Proofs.Ytnedhjaphfjdmaa
namespace Go
theorem exec_convert {P : Program} {ρ : Operand → Value} {o : Oper} {t u : TypeId} {p : Operand} (ho : o.op = .convert t u p) {v r : Value} {w w' : World} (hrun : (convert t u v).run P w = .ok r w') (hp : ρ p = v) : (execOp ρ o).run P w = .ok (.value r) w' := by
  unfold execOp
  simp [ho, hp, hrun, Result.andThen]

end Go
namespace Go.Proofs.Ytnedhjaphfjdmaa
open Go.RowKit Go.Deep Go.Joins

end Go.Proofs.Ytnedhjaphfjdmaa
namespace Go
end Go
namespace Go.Proofs.Ytnedhjaphfjdmaa
open Go.RowKit Go.Deep Go.Joins
theorem str_cv {w : World} {g : Nat} {D : List UInt8} (h : w.heap[g]? = some (.cells (dC D).toArray 5 (0, 0))) (hD : D.length ≤ maxLen) : (convert 36 9 (.slice (some ⟨g, 0, none⟩) D.length D.length)).run Try.prog w = .ok (.string ⟨D.toArray⟩) w := by
  have hown := owns_whole (w := w) (B := 0) (Nat.zero_le _) h (by rw [List.size_toArray, dC_length]) hD
  rw [List.toList_toArray] at hown
  exact string_of (OwnD.at (B := 0) hown)
set_option maxRecDepth 10000 in
set_option maxHeartbeats 1000000 in
theorem rds_3 (b : Bd) (F : List ByteArray) (v : Int) (W : World) (hf : FAt W (.slice b.fp b.fn b.fc) F) (hF : F.length ≤ 8796093022208) (hv : 0 ≤ v ∧ v ≤ 18446744073709551615) : Calls Try.prog 52 #[bdV b, .int .u64 268435456, .int .i64 1, .int .u64 v] W (Told W (stF b F 268435456 1 v).1 (stF b F 268435456 1 v).2.1 (fun x => .tuple #[x, effV (stF b F 268435456 1 v).2.2.1 (stF b F 268435456 1 v).2.2.2.1, .bool (stF b F 268435456 1 v).2.2.2.2])) := by
  have hr : stF b F 268435456 1 v = (b, F, (1), (outS v), true) := rfl
  rw [hr]
  clear hr
  have HFR := Lib.hid hf
  have HFL := Lib.hid hF
  clear hf hF
  have HW := Lib.hid (byte_hid v hv.1)
  clear hv
  go_enter Try.func52, Try.ntmps52
  go_upto_region 1 with (fail)
  have X := Lib.hid (KS.new W b)
  generalize ((W.alloc (bdO b)).alloc zeroO).alloc effO = wx at X ⊢
  go_upto_region 8 with (first | (with_reducible refine wpList_load_by rfl rfl (Box.load X.out.own) rfl ?_) | (go_at_call 29; (with_reducible refine (rcopy_bd b F _ (HFR.out.next X.out.below) HFL.out).mono ?_); rintro e w2 ⟨p, cap, rfl, ho, k2⟩; have HO := Lib.hid ((ho.base X.out.below.size).next (below1 _ zeroO)); have Y := Lib.hid ((X.out.next k2).more0); clear X ho k2) | (with_reducible refine w_box Y.out.out rfl rfl rfl rfl ?_; intro wy hwy; have HO := Lib.hid (HO.out.put Y.out.out hwy); have Y := Lib.hid (Y.out.put hwy); clear hwy) | (with_reducible refine wpList_load_by rfl rfl (Box.load Y.out.out) rfl ?_) | (with_reducible refine w_box Y.out.ks.res rfl rfl rfl rfl ?_; intro wy hwy; have HO := Lib.hid (HO.out.put Y.out.ks.res hwy); have Y := Lib.hid (Y.out.tell hwy); clear hwy) | ((with_reducible show wpList _ _ _ (⟨none, Op.store 80 (.tmp 9) (.tmp 119), _, _, _, _⟩ :: _) _ _); refine EBox.w_all (k' := 0) (s' := ⟨#[]⟩) Y.out.ks.eff rfl rfl rfl (by rfl) ?_; intro wz hwz; have HO := Lib.hid (HO.out.eput Y.out.ks.eff hwz); have Y := Lib.hid (Y.out.give hwz); clear hwz) | fail)
  refine wp_region_held (S := fun w => Box w w2.heap.size (b.at p F.length cap)) (by kernel_rfl) ?_
  have hd : { wy with drawn := wy.drawn + 1 } = wy.drew := rfl
  rw [hd]
  clear hd
  replace Y := Lib.hid (Y.out.next (Below.refl _ _).drew)
  replace HO := Lib.hid (HO.out.next (Below.refl _ _).drew)
  generalize wy.drew = wz at Y HO ⊢
  have hS : Box wz w2.heap.size (b.at p F.length cap) := Y.out.out
  refine tl 0 hS (fun w hw => Box.load hw) ?_
  refine tk 1 hS ?_
  refine tk 2 hS ?_
  refine wpAnyH_ready (rs := [3, 6]) (by kernel_rfl) (by simp) ?_
  refine cons_op (i := 3) (o := ⟨some 46, Op.buildSlice 36 1 #[(0, .tmp 45)], _, _, _, none⟩) (w' := wz.alloc (.cells (dC [UInt8.ofNat v.toNat]).toArray 5)) (v := .slice (some ⟨wz.heap.size, 0, none⟩) 1 1) rfl rfl (by rw [show dC [UInt8.ofNat v.toNat] = [.int .u8 (IntKind.u8.wrap v)] from by unfold dC; rw [HW.out]; rfl]; go_simp) (hS.alloc _) ?_ ?_
  · simp only [puts]
    have hrow := heap_alloc_last wz (.cells (dC [UInt8.ofNat v.toNat]).toArray 5)
    have hfar := Y.out.ks.size
    replace Y := Lib.hid (Y.out.next (below1 wz (.cells (dC [UInt8.ofNat v.toNat]).toArray 5)))
    replace HO := Lib.hid (HO.out.next (below1 wz (.cells (dC [UInt8.ofNat v.toNat]).toArray 5)))
    replace hS := Y.out.out
    generalize wz.alloc (.cells (dC [UInt8.ofNat v.toNat]).toArray 5) = wq at Y HO hS hrow ⊢
    generalize wz.heap.size = za at hrow hfar ⊢
    refine wpAnyH_ready (rs := [4, 6]) (by kernel_rfl) (by simp) ?_
    refine cons_op (i := 4) (o := ⟨some 47, Op.convert 36 9 (.tmp 46), _, _, _, none⟩) (w' := _) (v := .string (outS v)) rfl rfl (exec_convert rfl (str_cv (D := [UInt8.ofNat v.toNat]) hrow (by unfold maxLen; simp)) rfl) hS ?_ ?_
    · simp only [puts]
      refine tk 5 hS ?_
      refine held_store (i := 6) (o := ⟨none, Op.store 35 (.tmp 8) (.tmp 43), _, _, _, none⟩) (by kernel_rfl) rfl rfl rfl rfl rfl (store_box _ _ _ _ Y.out.ks.res (bdC_size _)) (Y.out.out.over (by have := Y.out.far; omega) _) ?_
      simp only [puts]
      replace HO := Lib.hid (HO.out.over Y.out.ks.res (bdC (b.at p F.length cap)))
      replace Y := Lib.hid (Y.out.tell (r' := (b.at p F.length cap)) rfl)
      replace hS := Y.out.out
      generalize World.setRow _ (W.heap.size + 1) (bdC (b.at p F.length cap)) = wr at Y HO hS ⊢
      refine held_store (i := 7) (o := ⟨none, Op.store 80 (.tmp 9) (.tmp 48), _, _, _, none⟩) (by kernel_rfl) rfl rfl rfl rfl (by rfl) (EBox.store Y.out.ks.eff (1) (outS v)) (Y.out.out.over (by have := Y.out.far; omega) _) ?_
      simp only [puts]
      replace HO := Lib.hid (HO.out.eput Y.out.ks.eff (cs := #[.int .i64 (1), .string (outS v)]) rfl)
      replace Y := Lib.hid (Y.out.give (k' := 1) (s' := outS v) rfl)
      replace hS := Y.out.out
      refine tk 8 hS ?_
      refine wpAnyH_done (by kernel_rfl) ?_ _
      go_wp2_with fail
      exact bodyPost_ret (v := .tuple #[bdV (b.at p F.length cap), effV (1) (outS v), .bool true]) (results_store Try.results52 _ _ (W.heap.size + 1) (W.heap.size + 2) _ _ _ _ rfl Y.out.ks.res rfl Y.out.ks.eff rfl) rfl ⟨p, cap, rfl, HO.out, Y.out.ks.below⟩
    refine cons_store (i := 6) (o := ⟨none, Op.store 35 (.tmp 8) (.tmp 43), _, _, _, none⟩) rfl rfl rfl rfl rfl (store_box _ _ _ _ Y.out.ks.res (bdC_size _)) (Y.out.out.over (by have := Y.out.far; omega) _) ?_ AllReadyH.nil
    simp only [puts]
    replace hrow := (setRow_other _ (W.heap.size + 1) za (bdC (b.at p F.length cap)) (by omega)).trans hrow
    replace HO := Lib.hid (HO.out.over Y.out.ks.res (bdC (b.at p F.length cap)))
    replace Y := Lib.hid (Y.out.tell (r' := (b.at p F.length cap)) rfl)
    replace hS := Y.out.out
    generalize World.setRow _ (W.heap.size + 1) (bdC (b.at p F.length cap)) = wr at Y HO hS hrow ⊢
    refine held_op (i := 4) (o := ⟨some 47, Op.convert 36 9 (.tmp 46), _, _, _, none⟩) (w' := _) (v := .string (outS v)) (by kernel_rfl) rfl rfl (exec_convert rfl (str_cv (D := [UInt8.ofNat v.toNat]) hrow (by unfold maxLen; simp)) rfl) hS ?_
    simp only [puts]
    refine tk 5 hS ?_
    refine held_store (i := 7) (o := ⟨none, Op.store 80 (.tmp 9) (.tmp 48), _, _, _, none⟩) (by kernel_rfl) rfl rfl rfl rfl (by rfl) (EBox.store Y.out.ks.eff (1) (outS v)) (Y.out.out.over (by have := Y.out.far; omega) _) ?_
    simp only [puts]
    replace HO := Lib.hid (HO.out.eput Y.out.ks.eff (cs := #[.int .i64 (1), .string (outS v)]) rfl)
    replace Y := Lib.hid (Y.out.give (k' := 1) (s' := outS v) rfl)
    replace hS := Y.out.out
    refine tk 8 hS ?_
    refine wpAnyH_done (by kernel_rfl) ?_ _
    go_wp2_with fail
    exact bodyPost_ret (v := .tuple #[bdV (b.at p F.length cap), effV (1) (outS v), .bool true]) (results_store Try.results52 _ _ (W.heap.size + 1) (W.heap.size + 2) _ _ _ _ rfl Y.out.ks.res rfl Y.out.ks.eff rfl) rfl ⟨p, cap, rfl, HO.out, Y.out.ks.below⟩
  refine cons_store (i := 6) (o := ⟨none, Op.store 35 (.tmp 8) (.tmp 43), _, _, _, none⟩) rfl rfl rfl rfl rfl (store_box _ _ _ _ Y.out.ks.res (bdC_size _)) (Y.out.out.over (by have := Y.out.far; omega) _) ?_ AllReadyH.nil
  simp only [puts]
  replace HO := Lib.hid (HO.out.over Y.out.ks.res (bdC (b.at p F.length cap)))
  replace Y := Lib.hid (Y.out.tell (r' := (b.at p F.length cap)) rfl)
  replace hS := Y.out.out
  generalize World.setRow _ (W.heap.size + 1) (bdC (b.at p F.length cap)) = wz at Y HO hS ⊢
  refine held_op (i := 3) (o := ⟨some 46, Op.buildSlice 36 1 #[(0, .tmp 45)], _, _, _, none⟩) (w' := wz.alloc (.cells (dC [UInt8.ofNat v.toNat]).toArray 5)) (v := .slice (some ⟨wz.heap.size, 0, none⟩) 1 1) (by kernel_rfl) rfl rfl (by rw [show dC [UInt8.ofNat v.toNat] = [.int .u8 (IntKind.u8.wrap v)] from by unfold dC; rw [HW.out]; rfl]; go_simp) (hS.alloc _) ?_
  simp only [puts]
  have hrow := heap_alloc_last wz (.cells (dC [UInt8.ofNat v.toNat]).toArray 5)
  have hfar := Y.out.ks.size
  replace Y := Lib.hid (Y.out.next (below1 wz (.cells (dC [UInt8.ofNat v.toNat]).toArray 5)))
  replace HO := Lib.hid (HO.out.next (below1 wz (.cells (dC [UInt8.ofNat v.toNat]).toArray 5)))
  replace hS := Y.out.out
  generalize wz.alloc (.cells (dC [UInt8.ofNat v.toNat]).toArray 5) = wq at Y HO hS hrow ⊢
  generalize wz.heap.size = za at hrow hfar ⊢
  refine held_op (i := 4) (o := ⟨some 47, Op.convert 36 9 (.tmp 46), _, _, _, none⟩) (w' := _) (v := .string (outS v)) (by kernel_rfl) rfl rfl (exec_convert rfl (str_cv (D := [UInt8.ofNat v.toNat]) hrow (by unfold maxLen; simp)) rfl) hS ?_
  simp only [puts]
  refine tk 5 hS ?_
  refine held_store (i := 7) (o := ⟨none, Op.store 80 (.tmp 9) (.tmp 48), _, _, _, none⟩) (by kernel_rfl) rfl rfl rfl rfl (by rfl) (EBox.store Y.out.ks.eff (1) (outS v)) (Y.out.out.over (by have := Y.out.far; omega) _) ?_
  simp only [puts]
  replace HO := Lib.hid (HO.out.eput Y.out.ks.eff (cs := #[.int .i64 (1), .string (outS v)]) rfl)
  replace Y := Lib.hid (Y.out.give (k' := 1) (s' := outS v) rfl)
  replace hS := Y.out.out
  refine tk 8 hS ?_
  refine wpAnyH_done (by kernel_rfl) ?_ _
  go_wp2_with fail
  exact bodyPost_ret (v := .tuple #[bdV (b.at p F.length cap), effV (1) (outS v), .bool true]) (results_store Try.results52 _ _ (W.heap.size + 1) (W.heap.size + 2) _ _ _ _ rfl Y.out.ks.res rfl Y.out.ks.eff rfl) rfl ⟨p, cap, rfl, HO.out, Y.out.ks.below⟩
set_option maxRecDepth 10000 in
set_option maxHeartbeats 1000000 in
theorem rds_size0 (b : Bd) (F : List ByteArray) (s v : Int) (W : World) (hf : FAt W (.slice b.fp b.fn b.fc) F) (hF : F.length ≤ 8796093022208) (hs : (s == 4) = false) : Calls Try.prog 52 #[bdV b, .int .u64 33554432, .int .i64 s, .int .u64 v] W (Told W bdZ [] (fun x => .tuple #[x, effV 0 ⟨#[]⟩, .bool false])) := by
  have HFR := Lib.hid hf
  have HFL := Lib.hid hF
  clear hf hF
  go_enter Try.func52, Try.ntmps52
  go_upto_region 1 with (fail)
  have X := Lib.hid (KS.new W b)
  generalize ((W.alloc (bdO b)).alloc zeroO).alloc effO = wx at X ⊢
  go_wp2_with (first | (with_reducible refine wpList_load_by rfl rfl (Box.load X.out.own) rfl ?_) | (go_at_call 29; (with_reducible refine (rcopy_bd b F _ (HFR.out.next X.out.below) HFL.out).mono ?_); rintro e w2 ⟨p, cap, rfl, ho, k2⟩; have HO := Lib.hid ((ho.base X.out.below.size).next (below1 _ zeroO)); have Y := Lib.hid ((X.out.next k2).more0); clear X ho k2) | (with_reducible refine w_box Y.out.out rfl rfl rfl rfl ?_; intro wy hwy; have HO := Lib.hid (HO.out.put Y.out.out hwy); have Y := Lib.hid (Y.out.put hwy); clear hwy) | ((with_reducible show wpList _ _ _ (⟨none, Op.store 35 (.tmp 8) (.tmp 14), _, _, _, _⟩ :: _) _ _); refine w_box (b := bdZ) Y.out.ks.res rfl rfl rfl (by rfl) ?_; intro wy hwy; have Y := Lib.hid (Y.out.tell hwy); clear hwy) | ((with_reducible show wpList _ _ _ (⟨none, Op.store 80 (.tmp 9) (.tmp 15), _, _, _, _⟩ :: _) _ _); refine EBox.w_all (k' := 0) (s' := ⟨#[]⟩) Y.out.ks.eff rfl rfl rfl (by rfl) ?_; intro wz hwz; have Y := Lib.hid (Y.out.give hwz); clear hwz) | fail)
  exact bodyPost_ret (v := .tuple #[bdV bdZ, effV 0 ⟨#[]⟩, .bool false]) (results_store Try.results52 _ _ (W.heap.size + 1) (W.heap.size + 2) _ _ _ _ rfl Y.out.ks.res rfl Y.out.ks.eff rfl) rfl (told_none (fun x => .tuple #[x, effV 0 ⟨#[]⟩, .bool false]) Y.out.ks.below)
set_option maxRecDepth 10000 in
set_option maxHeartbeats 1000000 in
theorem rds_size1 (b : Bd) (F : List ByteArray) (s v : Int) (W : World) (hf : FAt W (.slice b.fp b.fn b.fc) F) (hF : F.length ≤ 8796093022208) (hs : (s == 8) = false) : Calls Try.prog 52 #[bdV b, .int .u64 33570816, .int .i64 s, .int .u64 v] W (Told W bdZ [] (fun x => .tuple #[x, effV 0 ⟨#[]⟩, .bool false])) := by
  have HFR := Lib.hid hf
  have HFL := Lib.hid hF
  clear hf hF
  go_enter Try.func52, Try.ntmps52
  go_upto_region 1 with (fail)
  have X := Lib.hid (KS.new W b)
  generalize ((W.alloc (bdO b)).alloc zeroO).alloc effO = wx at X ⊢
  go_wp2_with (first | (with_reducible refine wpList_load_by rfl rfl (Box.load X.out.own) rfl ?_) | (go_at_call 29; (with_reducible refine (rcopy_bd b F _ (HFR.out.next X.out.below) HFL.out).mono ?_); rintro e w2 ⟨p, cap, rfl, ho, k2⟩; have HO := Lib.hid ((ho.base X.out.below.size).next (below1 _ zeroO)); have Y := Lib.hid ((X.out.next k2).more0); clear X ho k2) | (with_reducible refine w_box Y.out.out rfl rfl rfl rfl ?_; intro wy hwy; have HO := Lib.hid (HO.out.put Y.out.out hwy); have Y := Lib.hid (Y.out.put hwy); clear hwy) | ((with_reducible show wpList _ _ _ (⟨none, Op.store 35 (.tmp 8) (.tmp 14), _, _, _, _⟩ :: _) _ _); refine w_box (b := bdZ) Y.out.ks.res rfl rfl rfl (by rfl) ?_; intro wy hwy; have Y := Lib.hid (Y.out.tell hwy); clear hwy) | ((with_reducible show wpList _ _ _ (⟨none, Op.store 80 (.tmp 9) (.tmp 15), _, _, _, _⟩ :: _) _ _); refine EBox.w_all (k' := 0) (s' := ⟨#[]⟩) Y.out.ks.eff rfl rfl rfl (by rfl) ?_; intro wz hwz; have Y := Lib.hid (Y.out.give hwz); clear hwz) | fail)
  exact bodyPost_ret (v := .tuple #[bdV bdZ, effV 0 ⟨#[]⟩, .bool false]) (results_store Try.results52 _ _ (W.heap.size + 1) (W.heap.size + 2) _ _ _ _ rfl Y.out.ks.res rfl Y.out.ks.eff rfl) rfl (told_none (fun x => .tuple #[x, effV 0 ⟨#[]⟩, .bool false]) Y.out.ks.below)
set_option maxRecDepth 10000 in
set_option maxHeartbeats 1000000 in
theorem rds_size3 (b : Bd) (F : List ByteArray) (s v : Int) (W : World) (hf : FAt W (.slice b.fp b.fn b.fc) F) (hF : F.length ≤ 8796093022208) (hs : (s == 1) = false) : Calls Try.prog 52 #[bdV b, .int .u64 268435456, .int .i64 s, .int .u64 v] W (Told W bdZ [] (fun x => .tuple #[x, effV 0 ⟨#[]⟩, .bool false])) := by
  have HFR := Lib.hid hf
  have HFL := Lib.hid hF
  clear hf hF
  go_enter Try.func52, Try.ntmps52
  go_upto_region 1 with (fail)
  have X := Lib.hid (KS.new W b)
  generalize ((W.alloc (bdO b)).alloc zeroO).alloc effO = wx at X ⊢
  go_wp2_with (first | (with_reducible refine wpList_load_by rfl rfl (Box.load X.out.own) rfl ?_) | (go_at_call 29; (with_reducible refine (rcopy_bd b F _ (HFR.out.next X.out.below) HFL.out).mono ?_); rintro e w2 ⟨p, cap, rfl, ho, k2⟩; have HO := Lib.hid ((ho.base X.out.below.size).next (below1 _ zeroO)); have Y := Lib.hid ((X.out.next k2).more0); clear X ho k2) | (with_reducible refine w_box Y.out.out rfl rfl rfl rfl ?_; intro wy hwy; have HO := Lib.hid (HO.out.put Y.out.out hwy); have Y := Lib.hid (Y.out.put hwy); clear hwy) | ((with_reducible show wpList _ _ _ (⟨none, Op.store 35 (.tmp 8) (.tmp 14), _, _, _, _⟩ :: _) _ _); refine w_box (b := bdZ) Y.out.ks.res rfl rfl rfl (by rfl) ?_; intro wy hwy; have Y := Lib.hid (Y.out.tell hwy); clear hwy) | ((with_reducible show wpList _ _ _ (⟨none, Op.store 80 (.tmp 9) (.tmp 15), _, _, _, _⟩ :: _) _ _); refine EBox.w_all (k' := 0) (s' := ⟨#[]⟩) Y.out.ks.eff rfl rfl rfl (by rfl) ?_; intro wz hwz; have Y := Lib.hid (Y.out.give hwz); clear hwz) | fail)
  exact bodyPost_ret (v := .tuple #[bdV bdZ, effV 0 ⟨#[]⟩, .bool false]) (results_store Try.results52 _ _ (W.heap.size + 1) (W.heap.size + 2) _ _ _ _ rfl Y.out.ks.res rfl Y.out.ks.eff rfl) rfl (told_none (fun x => .tuple #[x, effV 0 ⟨#[]⟩, .bool false]) Y.out.ks.below)
set_option maxRecDepth 10000 in
set_option maxHeartbeats 1000000 in
theorem rds_size4 (b : Bd) (F : List ByteArray) (s v : Int) (W : World) (hf : FAt W (.slice b.fp b.fn b.fc) F) (hF : F.length ≤ 8796093022208) (hs : (s == 1) = false) : Calls Try.prog 52 #[bdV b, .int .u64 268435457, .int .i64 s, .int .u64 v] W (Told W bdZ [] (fun x => .tuple #[x, effV 0 ⟨#[]⟩, .bool false])) := by
  have HFR := Lib.hid hf
  have HFL := Lib.hid hF
  clear hf hF
  go_enter Try.func52, Try.ntmps52
  go_upto_region 1 with (fail)
  have X := Lib.hid (KS.new W b)
  generalize ((W.alloc (bdO b)).alloc zeroO).alloc effO = wx at X ⊢
  go_wp2_with (first | (with_reducible refine wpList_load_by rfl rfl (Box.load X.out.own) rfl ?_) | (go_at_call 29; (with_reducible refine (rcopy_bd b F _ (HFR.out.next X.out.below) HFL.out).mono ?_); rintro e w2 ⟨p, cap, rfl, ho, k2⟩; have HO := Lib.hid ((ho.base X.out.below.size).next (below1 _ zeroO)); have Y := Lib.hid ((X.out.next k2).more0); clear X ho k2) | (with_reducible refine w_box Y.out.out rfl rfl rfl rfl ?_; intro wy hwy; have HO := Lib.hid (HO.out.put Y.out.out hwy); have Y := Lib.hid (Y.out.put hwy); clear hwy) | ((with_reducible show wpList _ _ _ (⟨none, Op.store 35 (.tmp 8) (.tmp 14), _, _, _, _⟩ :: _) _ _); refine w_box (b := bdZ) Y.out.ks.res rfl rfl rfl (by rfl) ?_; intro wy hwy; have Y := Lib.hid (Y.out.tell hwy); clear hwy) | ((with_reducible show wpList _ _ _ (⟨none, Op.store 80 (.tmp 9) (.tmp 15), _, _, _, _⟩ :: _) _ _); refine EBox.w_all (k' := 0) (s' := ⟨#[]⟩) Y.out.ks.eff rfl rfl rfl (by rfl) ?_; intro wz hwz; have Y := Lib.hid (Y.out.give hwz); clear hwz) | fail)
  exact bodyPost_ret (v := .tuple #[bdV bdZ, effV 0 ⟨#[]⟩, .bool false]) (results_store Try.results52 _ _ (W.heap.size + 1) (W.heap.size + 2) _ _ _ _ rfl Y.out.ks.res rfl Y.out.ks.eff rfl) rfl (told_none (fun x => .tuple #[x, effV 0 ⟨#[]⟩, .bool false]) Y.out.ks.below)
set_option maxRecDepth 10000 in
set_option maxHeartbeats 1000000 in
theorem rds_size6 (b : Bd) (F : List ByteArray) (s v : Int) (W : World) (hf : FAt W (.slice b.fp b.fn b.fc) F) (hF : F.length ≤ 8796093022208) (hs : (s == 8) = false) : Calls Try.prog 52 #[bdV b, .int .u64 268439552, .int .i64 s, .int .u64 v] W (Told W bdZ [] (fun x => .tuple #[x, effV 0 ⟨#[]⟩, .bool false])) := by
  have HFR := Lib.hid hf
  have HFL := Lib.hid hF
  clear hf hF
  go_enter Try.func52, Try.ntmps52
  go_upto_region 1 with (fail)
  have X := Lib.hid (KS.new W b)
  generalize ((W.alloc (bdO b)).alloc zeroO).alloc effO = wx at X ⊢
  go_wp2_with (first | (with_reducible refine wpList_load_by rfl rfl (Box.load X.out.own) rfl ?_) | (go_at_call 29; (with_reducible refine (rcopy_bd b F _ (HFR.out.next X.out.below) HFL.out).mono ?_); rintro e w2 ⟨p, cap, rfl, ho, k2⟩; have HO := Lib.hid ((ho.base X.out.below.size).next (below1 _ zeroO)); have Y := Lib.hid ((X.out.next k2).more0); clear X ho k2) | (with_reducible refine w_box Y.out.out rfl rfl rfl rfl ?_; intro wy hwy; have HO := Lib.hid (HO.out.put Y.out.out hwy); have Y := Lib.hid (Y.out.put hwy); clear hwy) | ((with_reducible show wpList _ _ _ (⟨none, Op.store 35 (.tmp 8) (.tmp 14), _, _, _, _⟩ :: _) _ _); refine w_box (b := bdZ) Y.out.ks.res rfl rfl rfl (by rfl) ?_; intro wy hwy; have Y := Lib.hid (Y.out.tell hwy); clear hwy) | ((with_reducible show wpList _ _ _ (⟨none, Op.store 80 (.tmp 9) (.tmp 15), _, _, _, _⟩ :: _) _ _); refine EBox.w_all (k' := 0) (s' := ⟨#[]⟩) Y.out.ks.eff rfl rfl rfl (by rfl) ?_; intro wz hwz; have Y := Lib.hid (Y.out.give hwz); clear hwz) | fail)
  exact bodyPost_ret (v := .tuple #[bdV bdZ, effV 0 ⟨#[]⟩, .bool false]) (results_store Try.results52 _ _ (W.heap.size + 1) (W.heap.size + 2) _ _ _ _ rfl Y.out.ks.res rfl Y.out.ks.eff rfl) rfl (told_none (fun x => .tuple #[x, effV 0 ⟨#[]⟩, .bool false]) Y.out.ks.below)
set_option maxRecDepth 10000 in
set_option maxHeartbeats 1000000 in
theorem rds_size7 (b : Bd) (F : List ByteArray) (s v : Int) (W : World) (hf : FAt W (.slice b.fp b.fn b.fc) F) (hF : F.length ≤ 8796093022208) (hs : (s == 8) = false) : Calls Try.prog 52 #[bdV b, .int .u64 268439560, .int .i64 s, .int .u64 v] W (Told W bdZ [] (fun x => .tuple #[x, effV 0 ⟨#[]⟩, .bool false])) := by
  have HFR := Lib.hid hf
  have HFL := Lib.hid hF
  clear hf hF
  go_enter Try.func52, Try.ntmps52
  go_upto_region 1 with (fail)
  have X := Lib.hid (KS.new W b)
  generalize ((W.alloc (bdO b)).alloc zeroO).alloc effO = wx at X ⊢
  go_wp2_with (first | (with_reducible refine wpList_load_by rfl rfl (Box.load X.out.own) rfl ?_) | (go_at_call 29; (with_reducible refine (rcopy_bd b F _ (HFR.out.next X.out.below) HFL.out).mono ?_); rintro e w2 ⟨p, cap, rfl, ho, k2⟩; have HO := Lib.hid ((ho.base X.out.below.size).next (below1 _ zeroO)); have Y := Lib.hid ((X.out.next k2).more0); clear X ho k2) | (with_reducible refine w_box Y.out.out rfl rfl rfl rfl ?_; intro wy hwy; have HO := Lib.hid (HO.out.put Y.out.out hwy); have Y := Lib.hid (Y.out.put hwy); clear hwy) | ((with_reducible show wpList _ _ _ (⟨none, Op.store 35 (.tmp 8) (.tmp 14), _, _, _, _⟩ :: _) _ _); refine w_box (b := bdZ) Y.out.ks.res rfl rfl rfl (by rfl) ?_; intro wy hwy; have Y := Lib.hid (Y.out.tell hwy); clear hwy) | ((with_reducible show wpList _ _ _ (⟨none, Op.store 80 (.tmp 9) (.tmp 15), _, _, _, _⟩ :: _) _ _); refine EBox.w_all (k' := 0) (s' := ⟨#[]⟩) Y.out.ks.eff rfl rfl rfl (by rfl) ?_; intro wz hwz; have Y := Lib.hid (Y.out.give hwz); clear hwz) | fail)
  exact bodyPost_ret (v := .tuple #[bdV bdZ, effV 0 ⟨#[]⟩, .bool false]) (results_store Try.results52 _ _ (W.heap.size + 1) (W.heap.size + 2) _ _ _ _ rfl Y.out.ks.res rfl Y.out.ks.eff rfl) rfl (told_none (fun x => .tuple #[x, effV 0 ⟨#[]⟩, .bool false]) Y.out.ks.below)
set_option maxRecDepth 10000 in
set_option maxHeartbeats 1000000 in
theorem rds_size8 (b : Bd) (F : List ByteArray) (s v : Int) (W : World) (hf : FAt W (.slice b.fp b.fn b.fc) F) (hF : F.length ≤ 8796093022208) (hs : (s == 8) = false) : Calls Try.prog 52 #[bdV b, .int .u64 268439568, .int .i64 s, .int .u64 v] W (Told W bdZ [] (fun x => .tuple #[x, effV 0 ⟨#[]⟩, .bool false])) := by
  have HFR := Lib.hid hf
  have HFL := Lib.hid hF
  clear hf hF
  go_enter Try.func52, Try.ntmps52
  go_upto_region 1 with (fail)
  have X := Lib.hid (KS.new W b)
  generalize ((W.alloc (bdO b)).alloc zeroO).alloc effO = wx at X ⊢
  go_wp2_with (first | (with_reducible refine wpList_load_by rfl rfl (Box.load X.out.own) rfl ?_) | (go_at_call 29; (with_reducible refine (rcopy_bd b F _ (HFR.out.next X.out.below) HFL.out).mono ?_); rintro e w2 ⟨p, cap, rfl, ho, k2⟩; have HO := Lib.hid ((ho.base X.out.below.size).next (below1 _ zeroO)); have Y := Lib.hid ((X.out.next k2).more0); clear X ho k2) | (with_reducible refine w_box Y.out.out rfl rfl rfl rfl ?_; intro wy hwy; have HO := Lib.hid (HO.out.put Y.out.out hwy); have Y := Lib.hid (Y.out.put hwy); clear hwy) | ((with_reducible show wpList _ _ _ (⟨none, Op.store 35 (.tmp 8) (.tmp 14), _, _, _, _⟩ :: _) _ _); refine w_box (b := bdZ) Y.out.ks.res rfl rfl rfl (by rfl) ?_; intro wy hwy; have Y := Lib.hid (Y.out.tell hwy); clear hwy) | ((with_reducible show wpList _ _ _ (⟨none, Op.store 80 (.tmp 9) (.tmp 15), _, _, _, _⟩ :: _) _ _); refine EBox.w_all (k' := 0) (s' := ⟨#[]⟩) Y.out.ks.eff rfl rfl rfl (by rfl) ?_; intro wz hwz; have Y := Lib.hid (Y.out.give hwz); clear hwz) | fail)
  exact bodyPost_ret (v := .tuple #[bdV bdZ, effV 0 ⟨#[]⟩, .bool false]) (results_store Try.results52 _ _ (W.heap.size + 1) (W.heap.size + 2) _ _ _ _ rfl Y.out.ks.res rfl Y.out.ks.eff rfl) rfl (told_none (fun x => .tuple #[x, effV 0 ⟨#[]⟩, .bool false]) Y.out.ks.below)
set_option maxRecDepth 10000 in
set_option maxHeartbeats 1000000 in
theorem rds_size11 (b : Bd) (F : List ByteArray) (s v : Int) (W : World) (hf : FAt W (.slice b.fp b.fn b.fc) F) (hF : F.length ≤ 8796093022208) (hs : (s == 8) = false) : Calls Try.prog 52 #[bdV b, .int .u64 268443656, .int .i64 s, .int .u64 v] W (Told W bdZ [] (fun x => .tuple #[x, effV 0 ⟨#[]⟩, .bool false])) := by
  have HFR := Lib.hid hf
  have HFL := Lib.hid hF
  clear hf hF
  go_enter Try.func52, Try.ntmps52
  go_upto_region 1 with (fail)
  have X := Lib.hid (KS.new W b)
  generalize ((W.alloc (bdO b)).alloc zeroO).alloc effO = wx at X ⊢
  go_wp2_with (first | (with_reducible refine wpList_load_by rfl rfl (Box.load X.out.own) rfl ?_) | (go_at_call 29; (with_reducible refine (rcopy_bd b F _ (HFR.out.next X.out.below) HFL.out).mono ?_); rintro e w2 ⟨p, cap, rfl, ho, k2⟩; have HO := Lib.hid ((ho.base X.out.below.size).next (below1 _ zeroO)); have Y := Lib.hid ((X.out.next k2).more0); clear X ho k2) | (with_reducible refine w_box Y.out.out rfl rfl rfl rfl ?_; intro wy hwy; have HO := Lib.hid (HO.out.put Y.out.out hwy); have Y := Lib.hid (Y.out.put hwy); clear hwy) | ((with_reducible show wpList _ _ _ (⟨none, Op.store 35 (.tmp 8) (.tmp 14), _, _, _, _⟩ :: _) _ _); refine w_box (b := bdZ) Y.out.ks.res rfl rfl rfl (by rfl) ?_; intro wy hwy; have Y := Lib.hid (Y.out.tell hwy); clear hwy) | ((with_reducible show wpList _ _ _ (⟨none, Op.store 80 (.tmp 9) (.tmp 15), _, _, _, _⟩ :: _) _ _); refine EBox.w_all (k' := 0) (s' := ⟨#[]⟩) Y.out.ks.eff rfl rfl rfl (by rfl) ?_; intro wz hwz; have Y := Lib.hid (Y.out.give hwz); clear hwz) | fail)
  exact bodyPost_ret (v := .tuple #[bdV bdZ, effV 0 ⟨#[]⟩, .bool false]) (results_store Try.results52 _ _ (W.heap.size + 1) (W.heap.size + 2) _ _ _ _ rfl Y.out.ks.res rfl Y.out.ks.eff rfl) rfl (told_none (fun x => .tuple #[x, effV 0 ⟨#[]⟩, .bool false]) Y.out.ks.below)
set_option maxRecDepth 10000 in
set_option maxHeartbeats 1000000 in
theorem rds_size12 (b : Bd) (F : List ByteArray) (s v : Int) (W : World) (hf : FAt W (.slice b.fp b.fn b.fc) F) (hF : F.length ≤ 8796093022208) (hs : (s == 8) = false) : Calls Try.prog 52 #[bdV b, .int .u64 268443664, .int .i64 s, .int .u64 v] W (Told W bdZ [] (fun x => .tuple #[x, effV 0 ⟨#[]⟩, .bool false])) := by
  have HFR := Lib.hid hf
  have HFL := Lib.hid hF
  clear hf hF
  go_enter Try.func52, Try.ntmps52
  go_upto_region 1 with (fail)
  have X := Lib.hid (KS.new W b)
  generalize ((W.alloc (bdO b)).alloc zeroO).alloc effO = wx at X ⊢
  go_wp2_with (first | (with_reducible refine wpList_load_by rfl rfl (Box.load X.out.own) rfl ?_) | (go_at_call 29; (with_reducible refine (rcopy_bd b F _ (HFR.out.next X.out.below) HFL.out).mono ?_); rintro e w2 ⟨p, cap, rfl, ho, k2⟩; have HO := Lib.hid ((ho.base X.out.below.size).next (below1 _ zeroO)); have Y := Lib.hid ((X.out.next k2).more0); clear X ho k2) | (with_reducible refine w_box Y.out.out rfl rfl rfl rfl ?_; intro wy hwy; have HO := Lib.hid (HO.out.put Y.out.out hwy); have Y := Lib.hid (Y.out.put hwy); clear hwy) | ((with_reducible show wpList _ _ _ (⟨none, Op.store 35 (.tmp 8) (.tmp 14), _, _, _, _⟩ :: _) _ _); refine w_box (b := bdZ) Y.out.ks.res rfl rfl rfl (by rfl) ?_; intro wy hwy; have Y := Lib.hid (Y.out.tell hwy); clear hwy) | ((with_reducible show wpList _ _ _ (⟨none, Op.store 80 (.tmp 9) (.tmp 15), _, _, _, _⟩ :: _) _ _); refine EBox.w_all (k' := 0) (s' := ⟨#[]⟩) Y.out.ks.eff rfl rfl rfl (by rfl) ?_; intro wz hwz; have Y := Lib.hid (Y.out.give hwz); clear hwz) | fail)
  exact bodyPost_ret (v := .tuple #[bdV bdZ, effV 0 ⟨#[]⟩, .bool false]) (results_store Try.results52 _ _ (W.heap.size + 1) (W.heap.size + 2) _ _ _ _ rfl Y.out.ks.res rfl Y.out.ks.eff rfl) rfl (told_none (fun x => .tuple #[x, effV 0 ⟨#[]⟩, .bool false]) Y.out.ks.below)
set_option maxRecDepth 10000 in
set_option maxHeartbeats 1000000 in
theorem rds_size13 (b : Bd) (F : List ByteArray) (s v : Int) (W : World) (hf : FAt W (.slice b.fp b.fn b.fc) F) (hF : F.length ≤ 8796093022208) (hs : (s == 8) = false) : Calls Try.prog 52 #[bdV b, .int .u64 268443672, .int .i64 s, .int .u64 v] W (Told W bdZ [] (fun x => .tuple #[x, effV 0 ⟨#[]⟩, .bool false])) := by
  have HFR := Lib.hid hf
  have HFL := Lib.hid hF
  clear hf hF
  go_enter Try.func52, Try.ntmps52
  go_upto_region 1 with (fail)
  have X := Lib.hid (KS.new W b)
  generalize ((W.alloc (bdO b)).alloc zeroO).alloc effO = wx at X ⊢
  go_wp2_with (first | (with_reducible refine wpList_load_by rfl rfl (Box.load X.out.own) rfl ?_) | (go_at_call 29; (with_reducible refine (rcopy_bd b F _ (HFR.out.next X.out.below) HFL.out).mono ?_); rintro e w2 ⟨p, cap, rfl, ho, k2⟩; have HO := Lib.hid ((ho.base X.out.below.size).next (below1 _ zeroO)); have Y := Lib.hid ((X.out.next k2).more0); clear X ho k2) | (with_reducible refine w_box Y.out.out rfl rfl rfl rfl ?_; intro wy hwy; have HO := Lib.hid (HO.out.put Y.out.out hwy); have Y := Lib.hid (Y.out.put hwy); clear hwy) | ((with_reducible show wpList _ _ _ (⟨none, Op.store 35 (.tmp 8) (.tmp 14), _, _, _, _⟩ :: _) _ _); refine w_box (b := bdZ) Y.out.ks.res rfl rfl rfl (by rfl) ?_; intro wy hwy; have Y := Lib.hid (Y.out.tell hwy); clear hwy) | ((with_reducible show wpList _ _ _ (⟨none, Op.store 80 (.tmp 9) (.tmp 15), _, _, _, _⟩ :: _) _ _); refine EBox.w_all (k' := 0) (s' := ⟨#[]⟩) Y.out.ks.eff rfl rfl rfl (by rfl) ?_; intro wz hwz; have Y := Lib.hid (Y.out.give hwz); clear hwz) | fail)
  exact bodyPost_ret (v := .tuple #[bdV bdZ, effV 0 ⟨#[]⟩, .bool false]) (results_store Try.results52 _ _ (W.heap.size + 1) (W.heap.size + 2) _ _ _ _ rfl Y.out.ks.res rfl Y.out.ks.eff rfl) rfl (told_none (fun x => .tuple #[x, effV 0 ⟨#[]⟩, .bool false]) Y.out.ks.below)
def NoWrite (t : Int) : Prop := (t == 33554432) = false ∧ (t == 33570816) = false ∧ (t == 268435456) = false ∧ (t == 268435457) = false ∧ (t == 268439552) = false ∧ (t == 268439560) = false ∧ (t == 268439568) = false ∧ (t == 268443656) = false ∧ (t == 268443664) = false ∧ (t == 268443672) = false
set_option maxRecDepth 10000 in
set_option maxHeartbeats 1000000 in
theorem rds_no (b : Bd) (F : List ByteArray) (t s v : Int) (W : World) (hf : FAt W (.slice b.fp b.fn b.fc) F) (hF : F.length ≤ 8796093022208) (h : NoWrite t) : Calls Try.prog 52 #[bdV b, .int .u64 t, .int .i64 s, .int .u64 v] W (Told W bdZ [] (fun x => .tuple #[x, effV 0 ⟨#[]⟩, .bool false])) := by
  obtain ⟨h0, h1, h3, h4, h6, h7, h8, h11, h12, h13⟩ := h
  have HFR := Lib.hid hf
  have HFL := Lib.hid hF
  clear hf hF
  go_enter Try.func52, Try.ntmps52
  go_upto_region 1 with (fail)
  have X := Lib.hid (KS.new W b)
  generalize ((W.alloc (bdO b)).alloc zeroO).alloc effO = wx at X ⊢
  go_wp2_with (first | (with_reducible refine wpList_load_by rfl rfl (Box.load X.out.own) rfl ?_) | (go_at_call 29; (with_reducible refine (rcopy_bd b F _ (HFR.out.next X.out.below) HFL.out).mono ?_); rintro e w2 ⟨p, cap, rfl, ho, k2⟩; have HO := Lib.hid ((ho.base X.out.below.size).next (below1 _ zeroO)); have Y := Lib.hid ((X.out.next k2).more0); clear X ho k2) | (with_reducible refine w_box Y.out.out rfl rfl rfl rfl ?_; intro wy hwy; have HO := Lib.hid (HO.out.put Y.out.out hwy); have Y := Lib.hid (Y.out.put hwy); clear hwy) | ((with_reducible show wpList _ _ _ (⟨none, Op.store 35 (.tmp 8) (.tmp 14), _, _, _, _⟩ :: _) _ _); refine w_box (b := bdZ) Y.out.ks.res rfl rfl rfl (by rfl) ?_; intro wy hwy; have Y := Lib.hid (Y.out.tell hwy); clear hwy) | ((with_reducible show wpList _ _ _ (⟨none, Op.store 80 (.tmp 9) (.tmp 15), _, _, _, _⟩ :: _) _ _); refine EBox.w_all (k' := 0) (s' := ⟨#[]⟩) Y.out.ks.eff rfl rfl rfl (by rfl) ?_; intro wz hwz; have Y := Lib.hid (Y.out.give hwz); clear hwz) | fail)
  exact bodyPost_ret (v := .tuple #[bdV bdZ, effV 0 ⟨#[]⟩, .bool false]) (results_store Try.results52 _ _ (W.heap.size + 1) (W.heap.size + 2) _ _ _ _ rfl Y.out.ks.res rfl Y.out.ks.eff rfl) rfl (told_none (fun x => .tuple #[x, effV 0 ⟨#[]⟩, .bool false]) Y.out.ks.below)
theorem rdstore_any (b : Bd) (F : List ByteArray) (t s v : Int) (W : World) (hf : FAt W (.slice b.fp b.fn b.fc) F) (hF : F.length ≤ 8796093022208) (hv : 0 ≤ v ∧ v ≤ 18446744073709551615) : Calls Try.prog 52 #[bdV b, .int .u64 t, .int .i64 s, .int .u64 v] W (Told W (stF b F t s v).1 (stF b F t s v).2.1 (fun x => .tuple #[x, effV (stF b F t s v).2.2.1 (stF b F t s v).2.2.2.1, .bool (stF b F t s v).2.2.2.2])) := by
  by_cases h0 : t = 33554432
  · subst h0
    by_cases hs : s = 4
    · subst hs
      exact rds_0 b F v W hf hF
    · rw [stF_none _ _ _ _ _ (by omega)]
      exact rds_size0 b F s v W hf hF (beq_eq_false_iff_ne.2 hs)
  by_cases h1 : t = 33570816
  · subst h1
    by_cases hs : s = 8
    · subst hs
      exact rds_1 b F v W hf hF
    · rw [stF_none _ _ _ _ _ (by omega)]
      exact rds_size1 b F s v W hf hF (beq_eq_false_iff_ne.2 hs)
  by_cases h3 : t = 268435456
  · subst h3
    by_cases hs : s = 1
    · subst hs
      exact rds_3 b F v W hf hF hv
    · rw [stF_none _ _ _ _ _ (by omega)]
      exact rds_size3 b F s v W hf hF (beq_eq_false_iff_ne.2 hs)
  by_cases h4 : t = 268435457
  · subst h4
    by_cases hs : s = 1
    · subst hs
      exact rds_4 b F v W hf hF
    · rw [stF_none _ _ _ _ _ (by omega)]
      exact rds_size4 b F s v W hf hF (beq_eq_false_iff_ne.2 hs)
  by_cases h6 : t = 268439552
  · subst h6
    by_cases hs : s = 8
    · subst hs
      exact rds_6 b F v W hf hF
    · rw [stF_none _ _ _ _ _ (by omega)]
      exact rds_size6 b F s v W hf hF (beq_eq_false_iff_ne.2 hs)
  by_cases h7 : t = 268439560
  · subst h7
    by_cases hs : s = 8
    · subst hs
      exact rds_7 b F v W hf hF
    · rw [stF_none _ _ _ _ _ (by omega)]
      exact rds_size7 b F s v W hf hF (beq_eq_false_iff_ne.2 hs)
  by_cases h8 : t = 268439568
  · subst h8
    by_cases hs : s = 8
    · subst hs
      exact rds_8 b F v W hf hF
    · rw [stF_none _ _ _ _ _ (by omega)]
      exact rds_size8 b F s v W hf hF (beq_eq_false_iff_ne.2 hs)
  by_cases h11 : t = 268443656
  · subst h11
    by_cases hs : s = 8
    · subst hs
      exact rds_11 b F v W hf hF
    · rw [stF_none _ _ _ _ _ (by omega)]
      exact rds_size11 b F s v W hf hF (beq_eq_false_iff_ne.2 hs)
  by_cases h12 : t = 268443664
  · subst h12
    by_cases hs : s = 8
    · subst hs
      exact rds_12 b F v W hf hF
    · rw [stF_none _ _ _ _ _ (by omega)]
      exact rds_size12 b F s v W hf hF (beq_eq_false_iff_ne.2 hs)
  by_cases h13 : t = 268443672
  · subst h13
    by_cases hs : s = 8
    · subst hs
      exact rds_13 b F v W hf hF
    · rw [stF_none _ _ _ _ _ (by omega)]
      exact rds_size13 b F s v W hf hF (beq_eq_false_iff_ne.2 hs)
  rw [stF_none _ _ _ _ _ (by omega)]
  exact rds_no b F t s v W hf hF ⟨beq_eq_false_iff_ne.2 h0, beq_eq_false_iff_ne.2 h1, beq_eq_false_iff_ne.2 h3, beq_eq_false_iff_ne.2 h4, beq_eq_false_iff_ne.2 h6, beq_eq_false_iff_ne.2 h7, beq_eq_false_iff_ne.2 h8, beq_eq_false_iff_ne.2 h11, beq_eq_false_iff_ne.2 h12, beq_eq_false_iff_ne.2 h13⟩

end Go.Proofs.Ytnedhjaphfjdmaa
