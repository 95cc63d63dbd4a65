/- Take. -/
import Derived.Test.YtjohcpokmdofkaaGreatDoorYTE
namespace Go.Proofs.YtjohcpokmdofkaaGreatDoor.Tr
open Go.RowKit Go.Deep Go.Joins
set_option maxRecDepth 100000
theorem res_next {w w' : World} {b : Nat} {o : Obj} (k : Below w.heap.size w w') (h : w.heap[b]? = some o) : w'.heap[b]? = some o := (k.block b (Array.getElem?_eq_some_iff.1 h).1).trans h
def noRes (h : Hart) : Hart := (⟨h.x, h.hx, h.pc, h.mode, ⟨h.c.s0, h.c.s1, h.c.s2, h.c.s3, h.c.s4, h.c.s5, h.c.s6, h.c.s7, h.c.s8, h.c.s9, h.c.s10, h.c.s11, h.c.s12, h.c.s13, h.c.s14, h.c.s15⟩, false, 0⟩ : Hart)
def toldV (k : Int) (it : Bool) : Int := if it = true then bits .or .u64 k 9223372036854775808 else k
def takeF (h : Hart) (k : Nat) (it : Bool) (v : Int) : Hart := if handV h k it = true then toMidF (noRes h) (toldV k it) v else toUpF (noRes h) (toldV k it) v
set_option maxHeartbeats 1000000 in
theorem take_out (h : Hart) (c : Int) (it : Bool) (v : Int) (hc : c < 0 ∨ 63 < c) (W : World) : Calls Tryz.prog 39 #[hartV h, .int .i64 c, .bool it, .int .u64 v] W fun e W' => e = .returned (hartV h) ∧ Below W.heap.size W W' := by
  obtain ⟨x, hx, pc, mode, ⟨s0, s1, s2, s3, s4, s5, s6, s7, s8, s9, s10, s11, s12, s13, s14, s15⟩, held, rat⟩ := h
  rcases hc with hc | hc
  all_goals
    go_enter Tryz.func39, Tryz.ntmps39
    go_upto_region 1 with (fail)
    have hst : (W.alloc (hartO (⟨x, hx, pc, mode, ⟨s0, s1, s2, s3, s4, s5, s6, s7, s8, s9, s10, s11, s12, s13, s14, s15⟩, held, rat⟩ : Hart))).alloc zeroO = St 0 W (⟨x, hx, pc, mode, ⟨s0, s1, s2, s3, s4, s5, s6, s7, s8, s9, s10, s11, s12, s13, s14, s15⟩, held, rat⟩ : Hart) zeroC := rfl
    rw [hst]
    clear hst
    go_wp2_with (first | (with_reducible refine wpList_load_by rfl rfl (St.load _ _ _ _) rfl ?_) | (with_reducible refine wpList_store_by rfl rfl (St.store _ _ _ _) rfl rfl ?_) | fail)
    exact bodyPost_ret (v := hartV ((⟨x, hx, pc, mode, ⟨s0, s1, s2, s3, s4, s5, s6, s7, s8, s9, s10, s11, s12, s13, s14, s15⟩, held, rat⟩ : Hart))) (results_cell_row Tryz.results39 _ _ (W.heap.size + 1) 27 (hartC ((⟨x, hx, pc, mode, ⟨s0, s1, s2, s3, s4, s5, s6, s7, s8, s9, s10, s11, s12, s13, s14, s15⟩, held, rat⟩ : Hart))) (0, 0) _ rfl (St.res _ W _ _) Tryz.underlying27 rfl (by rw [size27, hartC_size])) rfl ⟨rfl, St.below _ W _ _⟩
set_option maxHeartbeats 1000000 in
theorem take_toMidF_true (h : Hart) (k : Nat) (v : Int) (hk : k ≤ 63) (hb : handV h k true = true) (W : World) : Calls Tryz.prog 39 #[hartV h, .int .i64 k, .bool true, .int .u64 v] W fun e W' => e = .returned (hartV (toMidF (noRes h) (toldV k true) v)) ∧ Below W.heap.size W W' := by
  obtain ⟨x, hx, pc, mode, ⟨s0, s1, s2, s3, s4, s5, s6, s7, s8, s9, s10, s11, s12, s13, s14, s15⟩, held, rat⟩ := h
  have hw : IntKind.u64.wrap (k : Int) = k := by rw [IntKind.wrap_u64]; omega
  have c23 := Lib.hid (hand_any (⟨x, hx, pc, mode, ⟨s0, s1, s2, s3, s4, s5, s6, s7, s8, s9, s10, s11, s12, s13, s14, s15⟩, false, 0⟩ : Hart) k true true hk hb)
  clear hb
  go_enter Tryz.func39, Tryz.ntmps39
  go_upto_region 1 with (fail)
  have hst : (W.alloc (hartO (⟨x, hx, pc, mode, ⟨s0, s1, s2, s3, s4, s5, s6, s7, s8, s9, s10, s11, s12, s13, s14, s15⟩, held, rat⟩ : Hart))).alloc zeroO = St 0 W (⟨x, hx, pc, mode, ⟨s0, s1, s2, s3, s4, s5, s6, s7, s8, s9, s10, s11, s12, s13, s14, s15⟩, held, rat⟩ : Hart) zeroC := rfl
  rw [hst]
  clear hst
  go_wp2_with (first | (with_reducible refine wpList_load_by rfl rfl (Box.load ((St.box _ W _ _).next k1)) rfl ?_) | (with_reducible refine wpList_store_by rfl rfl (store_box _ _ zeroC _ r2 rfl) rfl rfl ?_) | (with_reducible refine wpList_store_by rfl rfl St.store_held rfl rfl ?_) | (with_reducible refine wpList_store_by rfl rfl St.store_rat rfl rfl ?_) | (with_reducible refine wpList_load_by rfl rfl (St.load _ _ _ _) rfl ?_) | (with_reducible refine wpList_store_by rfl rfl (St.store _ _ _ _) rfl rfl ?_) | (go_at_call 63; (with_reducible refine (c23.out _).mono ?_); rintro e w1 ⟨rfl, k1⟩) | (go_at_call 64; (with_reducible refine (toMid_any _ _ _ _).mono ?_); rintro e w2 ⟨rfl, k2⟩; have r2 := res_next k2 (res_next k1 (St.res _ W _ _))) | fail)
  exact bodyPost_ret (v := hartV (toMidF (noRes (⟨x, hx, pc, mode, ⟨s0, s1, s2, s3, s4, s5, s6, s7, s8, s9, s10, s11, s12, s13, s14, s15⟩, held, rat⟩ : Hart)) (toldV k true) v)) (results_cell_row Tryz.results39 _ _ (W.heap.size + 1) 27 (hartC (toMidF (noRes (⟨x, hx, pc, mode, ⟨s0, s1, s2, s3, s4, s5, s6, s7, s8, s9, s10, s11, s12, s13, s14, s15⟩, held, rat⟩ : Hart)) (toldV k true) v)) (0, 0) _ rfl (Box.mine r2 _) Tryz.underlying27 rfl (by rw [size27, hartC_size])) rfl ⟨rfl, below_setRow (below_then (below_then (St.below _ W _ _) (Nat.le_refl _) k1) (Nat.le_refl _) k2) (by omega) _⟩
set_option maxHeartbeats 1000000 in
theorem take_toMidF_false (h : Hart) (k : Nat) (v : Int) (hk : k ≤ 63) (hb : handV h k false = true) (W : World) : Calls Tryz.prog 39 #[hartV h, .int .i64 k, .bool false, .int .u64 v] W fun e W' => e = .returned (hartV (toMidF (noRes h) (toldV k false) v)) ∧ Below W.heap.size W W' := by
  obtain ⟨x, hx, pc, mode, ⟨s0, s1, s2, s3, s4, s5, s6, s7, s8, s9, s10, s11, s12, s13, s14, s15⟩, held, rat⟩ := h
  have hw : IntKind.u64.wrap (k : Int) = k := by rw [IntKind.wrap_u64]; omega
  have c23 := Lib.hid (hand_any (⟨x, hx, pc, mode, ⟨s0, s1, s2, s3, s4, s5, s6, s7, s8, s9, s10, s11, s12, s13, s14, s15⟩, false, 0⟩ : Hart) k false true hk hb)
  clear hb
  go_enter Tryz.func39, Tryz.ntmps39
  go_upto_region 1 with (fail)
  have hst : (W.alloc (hartO (⟨x, hx, pc, mode, ⟨s0, s1, s2, s3, s4, s5, s6, s7, s8, s9, s10, s11, s12, s13, s14, s15⟩, held, rat⟩ : Hart))).alloc zeroO = St 0 W (⟨x, hx, pc, mode, ⟨s0, s1, s2, s3, s4, s5, s6, s7, s8, s9, s10, s11, s12, s13, s14, s15⟩, held, rat⟩ : Hart) zeroC := rfl
  rw [hst]
  clear hst
  go_wp2_with (first | (with_reducible refine wpList_load_by rfl rfl (Box.load ((St.box _ W _ _).next k1)) rfl ?_) | (with_reducible refine wpList_store_by rfl rfl (store_box _ _ zeroC _ r2 rfl) rfl rfl ?_) | (with_reducible refine wpList_store_by rfl rfl St.store_held rfl rfl ?_) | (with_reducible refine wpList_store_by rfl rfl St.store_rat rfl rfl ?_) | (with_reducible refine wpList_load_by rfl rfl (St.load _ _ _ _) rfl ?_) | (with_reducible refine wpList_store_by rfl rfl (St.store _ _ _ _) rfl rfl ?_) | (go_at_call 63; (with_reducible refine (c23.out _).mono ?_); rintro e w1 ⟨rfl, k1⟩) | (go_at_call 64; (with_reducible refine (toMid_any _ _ _ _).mono ?_); rintro e w2 ⟨rfl, k2⟩; have r2 := res_next k2 (res_next k1 (St.res _ W _ _))) | fail)
  exact bodyPost_ret (v := hartV (toMidF (noRes (⟨x, hx, pc, mode, ⟨s0, s1, s2, s3, s4, s5, s6, s7, s8, s9, s10, s11, s12, s13, s14, s15⟩, held, rat⟩ : Hart)) (toldV k false) v)) (results_cell_row Tryz.results39 _ _ (W.heap.size + 1) 27 (hartC (toMidF (noRes (⟨x, hx, pc, mode, ⟨s0, s1, s2, s3, s4, s5, s6, s7, s8, s9, s10, s11, s12, s13, s14, s15⟩, held, rat⟩ : Hart)) (toldV k false) v)) (0, 0) _ rfl (Box.mine r2 _) Tryz.underlying27 rfl (by rw [size27, hartC_size])) rfl ⟨rfl, below_setRow (below_then (below_then (St.below _ W _ _) (Nat.le_refl _) k1) (Nat.le_refl _) k2) (by omega) _⟩
set_option maxHeartbeats 1000000 in
theorem take_toUpF_true (h : Hart) (k : Nat) (v : Int) (hk : k ≤ 63) (hb : handV h k true = false) (W : World) : Calls Tryz.prog 39 #[hartV h, .int .i64 k, .bool true, .int .u64 v] W fun e W' => e = .returned (hartV (toUpF (noRes h) (toldV k true) v)) ∧ Below W.heap.size W W' := by
  obtain ⟨x, hx, pc, mode, ⟨s0, s1, s2, s3, s4, s5, s6, s7, s8, s9, s10, s11, s12, s13, s14, s15⟩, held, rat⟩ := h
  have hw : IntKind.u64.wrap (k : Int) = k := by rw [IntKind.wrap_u64]; omega
  have c23 := Lib.hid (hand_any (⟨x, hx, pc, mode, ⟨s0, s1, s2, s3, s4, s5, s6, s7, s8, s9, s10, s11, s12, s13, s14, s15⟩, false, 0⟩ : Hart) k true false hk hb)
  clear hb
  go_enter Tryz.func39, Tryz.ntmps39
  go_upto_region 1 with (fail)
  have hst : (W.alloc (hartO (⟨x, hx, pc, mode, ⟨s0, s1, s2, s3, s4, s5, s6, s7, s8, s9, s10, s11, s12, s13, s14, s15⟩, held, rat⟩ : Hart))).alloc zeroO = St 0 W (⟨x, hx, pc, mode, ⟨s0, s1, s2, s3, s4, s5, s6, s7, s8, s9, s10, s11, s12, s13, s14, s15⟩, held, rat⟩ : Hart) zeroC := rfl
  rw [hst]
  clear hst
  go_wp2_with (first | (with_reducible refine wpList_load_by rfl rfl (Box.load ((St.box _ W _ _).next k1)) rfl ?_) | (with_reducible refine wpList_store_by rfl rfl (store_box _ _ zeroC _ r2 rfl) rfl rfl ?_) | (with_reducible refine wpList_store_by rfl rfl St.store_held rfl rfl ?_) | (with_reducible refine wpList_store_by rfl rfl St.store_rat rfl rfl ?_) | (with_reducible refine wpList_load_by rfl rfl (St.load _ _ _ _) rfl ?_) | (with_reducible refine wpList_store_by rfl rfl (St.store _ _ _ _) rfl rfl ?_) | (go_at_call 63; (with_reducible refine (c23.out _).mono ?_); rintro e w1 ⟨rfl, k1⟩) | (go_at_call 65; (with_reducible refine (toUp_any _ _ _ _).mono ?_); rintro e w2 ⟨rfl, k2⟩; have r2 := res_next k2 (res_next k1 (St.res _ W _ _))) | fail)
  exact bodyPost_ret (v := hartV (toUpF (noRes (⟨x, hx, pc, mode, ⟨s0, s1, s2, s3, s4, s5, s6, s7, s8, s9, s10, s11, s12, s13, s14, s15⟩, held, rat⟩ : Hart)) (toldV k true) v)) (results_cell_row Tryz.results39 _ _ (W.heap.size + 1) 27 (hartC (toUpF (noRes (⟨x, hx, pc, mode, ⟨s0, s1, s2, s3, s4, s5, s6, s7, s8, s9, s10, s11, s12, s13, s14, s15⟩, held, rat⟩ : Hart)) (toldV k true) v)) (0, 0) _ rfl (Box.mine r2 _) Tryz.underlying27 rfl (by rw [size27, hartC_size])) rfl ⟨rfl, below_setRow (below_then (below_then (St.below _ W _ _) (Nat.le_refl _) k1) (Nat.le_refl _) k2) (by omega) _⟩
set_option maxHeartbeats 1000000 in
theorem take_toUpF_false (h : Hart) (k : Nat) (v : Int) (hk : k ≤ 63) (hb : handV h k false = false) (W : World) : Calls Tryz.prog 39 #[hartV h, .int .i64 k, .bool false, .int .u64 v] W fun e W' => e = .returned (hartV (toUpF (noRes h) (toldV k false) v)) ∧ Below W.heap.size W W' := by
  obtain ⟨x, hx, pc, mode, ⟨s0, s1, s2, s3, s4, s5, s6, s7, s8, s9, s10, s11, s12, s13, s14, s15⟩, held, rat⟩ := h
  have hw : IntKind.u64.wrap (k : Int) = k := by rw [IntKind.wrap_u64]; omega
  have c23 := Lib.hid (hand_any (⟨x, hx, pc, mode, ⟨s0, s1, s2, s3, s4, s5, s6, s7, s8, s9, s10, s11, s12, s13, s14, s15⟩, false, 0⟩ : Hart) k false false hk hb)
  clear hb
  go_enter Tryz.func39, Tryz.ntmps39
  go_upto_region 1 with (fail)
  have hst : (W.alloc (hartO (⟨x, hx, pc, mode, ⟨s0, s1, s2, s3, s4, s5, s6, s7, s8, s9, s10, s11, s12, s13, s14, s15⟩, held, rat⟩ : Hart))).alloc zeroO = St 0 W (⟨x, hx, pc, mode, ⟨s0, s1, s2, s3, s4, s5, s6, s7, s8, s9, s10, s11, s12, s13, s14, s15⟩, held, rat⟩ : Hart) zeroC := rfl
  rw [hst]
  clear hst
  go_wp2_with (first | (with_reducible refine wpList_load_by rfl rfl (Box.load ((St.box _ W _ _).next k1)) rfl ?_) | (with_reducible refine wpList_store_by rfl rfl (store_box _ _ zeroC _ r2 rfl) rfl rfl ?_) | (with_reducible refine wpList_store_by rfl rfl St.store_held rfl rfl ?_) | (with_reducible refine wpList_store_by rfl rfl St.store_rat rfl rfl ?_) | (with_reducible refine wpList_load_by rfl rfl (St.load _ _ _ _) rfl ?_) | (with_reducible refine wpList_store_by rfl rfl (St.store _ _ _ _) rfl rfl ?_) | (go_at_call 63; (with_reducible refine (c23.out _).mono ?_); rintro e w1 ⟨rfl, k1⟩) | (go_at_call 65; (with_reducible refine (toUp_any _ _ _ _).mono ?_); rintro e w2 ⟨rfl, k2⟩; have r2 := res_next k2 (res_next k1 (St.res _ W _ _))) | fail)
  exact bodyPost_ret (v := hartV (toUpF (noRes (⟨x, hx, pc, mode, ⟨s0, s1, s2, s3, s4, s5, s6, s7, s8, s9, s10, s11, s12, s13, s14, s15⟩, held, rat⟩ : Hart)) (toldV k false) v)) (results_cell_row Tryz.results39 _ _ (W.heap.size + 1) 27 (hartC (toUpF (noRes (⟨x, hx, pc, mode, ⟨s0, s1, s2, s3, s4, s5, s6, s7, s8, s9, s10, s11, s12, s13, s14, s15⟩, held, rat⟩ : Hart)) (toldV k false) v)) (0, 0) _ rfl (Box.mine r2 _) Tryz.underlying27 rfl (by rw [size27, hartC_size])) rfl ⟨rfl, below_setRow (below_then (below_then (St.below _ W _ _) (Nat.le_refl _) k1) (Nat.le_refl _) k2) (by omega) _⟩
theorem take_any (h : Hart) (k : Nat) (it : Bool) (v : Int) (hk : k ≤ 63) (W : World) : Calls Tryz.prog 39 #[hartV h, .int .i64 k, .bool it, .int .u64 v] W fun e W' => e = .returned (hartV (takeF h k it v)) ∧ Below W.heap.size W W' := by
  unfold takeF
  rcases Bool.eq_false_or_eq_true (handV h k it) with hb | hb
  all_goals cases it
  · rw [if_pos hb]; exact take_toMidF_false h k v hk hb W
  · rw [if_pos hb]; exact take_toMidF_true h k v hk hb W
  · rw [if_neg (by rw [hb]; decide)]; exact take_toUpF_false h k v hk hb W
  · rw [if_neg (by rw [hb]; decide)]; exact take_toUpF_true h k v hk hb W

end Go.Proofs.YtjohcpokmdofkaaGreatDoor.Tr
