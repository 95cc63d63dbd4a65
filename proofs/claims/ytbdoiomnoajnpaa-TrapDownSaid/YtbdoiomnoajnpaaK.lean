/- Take of the reference. -/
import Derived.Test.YtbdoiomnoajnpaaG
import Derived.StillTailTactics
namespace Go.Proofs.Ytbdoiomnoajnpaa
open Go.RowKit Go.Deep Go.Joins
def rhandV (h : Hart) (k : Nat) (it : Bool) : Bool := decide (h.mode ≤ 1) && bV (if it = true then h.c.s2 else h.c.s1) (2 ^ k)
def rmidS (s m : Int) : Int := wV (wV (wV s 256 (m == 1)) 32 (bV (wV s 256 (m == 1)) 2)) 2 false
def rupA (s m : Int) : Int := bits .or .u64 (bits .andNot .u64 s 6144) (IntKind.u64.wrap (IntKind.u64.wrap (bits .and .i64 m 3) * 2048))
def rupS (s m : Int) : Int := wV (wV (rupA s m) 128 (bV (rupA s m) 8)) 8 false
def rMidF (h : Hart) (k : Nat) (it : Bool) (v : Int) : Hart := (⟨h.x, h.hx, rentryV h.c.s10 k it, 1, ⟨rmidS h.c.s0 h.mode, h.c.s1, h.c.s2, h.c.s3, h.c.s4, h.c.s5, h.c.s6, h.c.s7, h.c.s8, h.c.s9, h.c.s10, h.c.s11, bits .andNot .u64 h.pc 1, toldV k it, v, h.c.s15⟩, false, 0⟩ : Hart)
def rUpF (h : Hart) (k : Nat) (it : Bool) (v : Int) : Hart := (⟨h.x, h.hx, rentryV h.c.s5 k it, 3, ⟨rupS h.c.s0 h.mode, h.c.s1, h.c.s2, h.c.s3, h.c.s4, h.c.s5, h.c.s6, bits .andNot .u64 h.pc 1, toldV k it, v, h.c.s10, h.c.s11, h.c.s12, h.c.s13, h.c.s14, h.c.s15⟩, false, 0⟩ : Hart)
def rtakeF (h : Hart) (k : Nat) (it : Bool) (v : Int) : Hart := if rhandV h k it = true then rMidF h k it v else rUpF h k it v
set_option maxRecDepth 100000 in
set_option maxHeartbeats 1000000 in
theorem rtake_out (h : Hart) (c : Int) (it : Bool) (v : Int) (hc : c < 0 ∨ 63 < c) (W : World) : Calls Try.prog 11 #[hartV h, .int .i64 c, .bool it, .int .u64 v] W fun e W' => e = .returned (hartV h) ∧ Below W.heap.size W W' := by
  obtain ⟨x, hx, pc, mode, ⟨s0, s1, s2, s3, s4, s5, s6, s7, s8, s9, s10, s11, s12, s13, s14, s15⟩, held, rat⟩ := h
  rcases hc with hc | hc
  all_goals
    go_enter Try.func11, Try.ntmps11
    go_upto_region 1 with (fail)
    have hst : (W.alloc (hartO (⟨x, hx, pc, mode, ⟨s0, s1, s2, s3, s4, s5, s6, s7, s8, s9, s10, s11, s12, s13, s14, s15⟩, held, rat⟩ : Hart))).alloc zeroO = St 0 W (⟨x, hx, pc, mode, ⟨s0, s1, s2, s3, s4, s5, s6, s7, s8, s9, s10, s11, s12, s13, s14, s15⟩, held, rat⟩ : Hart) zeroC := rfl
    rw [hst]
    clear hst
    go_wp2_with (first | (with_reducible refine wpList_load_by rfl rfl (St.load _ _ _ _) rfl ?_) | (with_reducible refine wpList_store_by rfl rfl (St.store _ _ _ _) rfl rfl ?_) | fail)
    exact bodyPost_ret (v := hartV ((⟨x, hx, pc, mode, ⟨s0, s1, s2, s3, s4, s5, s6, s7, s8, s9, s10, s11, s12, s13, s14, s15⟩, held, rat⟩ : Hart))) (results_cell_row Try.results11 _ _ (W.heap.size + 1) 27 (hartC ((⟨x, hx, pc, mode, ⟨s0, s1, s2, s3, s4, s5, s6, s7, s8, s9, s10, s11, s12, s13, s14, s15⟩, held, rat⟩ : Hart))) (0, 0) _ rfl (St.res _ W _ _) Try.underlying27 rfl (by rw [size27, hartC_size])) rfl ⟨rfl, St.below _ W _ _⟩
set_option maxRecDepth 100000 in
set_option maxHeartbeats 1000000 in
theorem rtake_rMidF_true_hm (h : Hart) (k : Nat) (v : Int) (hk : k ≤ 63) (hm : h.mode ≤ 1) (hb : bV h.c.s2 (2 ^ k) = true) (W : World) : Calls Try.prog 11 #[hartV h, .int .i64 k, .bool true, .int .u64 v] W fun e W' => e = .returned (hartV (rMidF h k true v)) ∧ Below W.heap.size W W' := by
  obtain ⟨x, hx, pc, mode, ⟨s0, s1, s2, s3, s4, s5, s6, s7, s8, s9, s10, s11, s12, s13, s14, s15⟩, held, rat⟩ := h
  have hw : IntKind.u64.wrap (k : Int) = k := by rw [IntKind.wrap_u64]; omega
  have hk0 : 0 ≤ (k : Int) ∧ (k : Int) ≤ 63 := by omega
  have hb2 : bV s2 (2 ^ k) = true := hb
  clear hb
  go_enter Try.func11, Try.ntmps11
  go_upto_region 1 with (fail)
  have hst : (W.alloc (hartO (⟨x, hx, pc, mode, ⟨s0, s1, s2, s3, s4, s5, s6, s7, s8, s9, s10, s11, s12, s13, s14, s15⟩, held, rat⟩ : Hart))).alloc zeroO = St 0 W (⟨x, hx, pc, mode, ⟨s0, s1, s2, s3, s4, s5, s6, s7, s8, s9, s10, s11, s12, s13, s14, s15⟩, held, rat⟩ : Hart) zeroC := rfl
  rw [hst]
  clear hst
  go_upto_region 12 with (first | (with_reducible refine wpList_load_by rfl rfl St.load_s1 rfl ?_) | (with_reducible refine wpList_load_by rfl rfl St.load_s2 rfl ?_) | (with_reducible refine wpList_load_by rfl rfl St.load_mode rfl ?_) | (with_reducible refine wpList_load_by rfl rfl St.load_pc rfl ?_) | (with_reducible refine wpList_load_by rfl rfl St.load_s0 rfl ?_) | (with_reducible refine wpList_store_by rfl rfl St.store_held rfl rfl ?_) | (with_reducible refine wpList_store_by rfl rfl St.store_rat rfl rfl ?_) | (with_reducible refine wpList_store_by rfl rfl St.store_s12 rfl rfl ?_) | (with_reducible refine wpList_store_by rfl rfl St.store_s13 rfl rfl ?_) | (with_reducible refine wpList_store_by rfl rfl St.store_s14 rfl rfl ?_) | (with_reducible refine wpList_store_by rfl rfl St.store_s0 rfl rfl ?_) | (with_reducible refine wpList_load_by rfl rfl (St.load _ _ _ _) rfl ?_) | (with_reducible refine wpList_store_by rfl rfl (St.store _ _ _ _) rfl rfl ?_) | (go_at_call 26; (with_reducible refine (rbit_any _ k hk _).mono ?_); rintro e w' ⟨rfl, rfl⟩) | (go_at_call 27; (with_reducible refine (rset_8 _ _ _).mono ?_); rintro e w' ⟨rfl, rfl⟩) | fail)
  refine wp_region_still_tail 8 (by kernel_rfl) (by kernel_rfl) ?_
  simp only [List.take_succ_cons, List.take_zero, List.drop_succ_cons, List.drop_zero]
  have hd : { St 0 W (⟨x, hx, pc, mode, ⟨(wV s0 256 (mode == 1)), s1, s2, s3, s4, s5, s6, s7, s8, s9, s10, s11, (bits .andNot .u64 pc 1), (bits .or .u64 (k : Int) 9223372036854775808), v, s15⟩, false, 0⟩ : Hart) zeroC with drawn := (St 0 W (⟨x, hx, pc, mode, ⟨(wV s0 256 (mode == 1)), s1, s2, s3, s4, s5, s6, s7, s8, s9, s10, s11, (bits .andNot .u64 pc 1), (bits .or .u64 (k : Int) 9223372036854775808), v, s15⟩, false, 0⟩ : Hart) zeroC).drawn + 1 } = St 1 W (⟨x, hx, pc, mode, ⟨(wV s0 256 (mode == 1)), s1, s2, s3, s4, s5, s6, s7, s8, s9, s10, s11, (bits .andNot .u64 pc 1), (bits .or .u64 (k : Int) 9223372036854775808), v, s15⟩, false, 0⟩ : Hart) zeroC := rfl
  rw [hd]
  clear hd
  have m0 : (St 1 W (⟨x, hx, pc, mode, ⟨(wV s0 256 (mode == 1)), s1, s2, s3, s4, s5, s6, s7, s8, s9, s10, s11, (bits .andNot .u64 pc 1), (bits .or .u64 (k : Int) 9223372036854775808), v, s15⟩, false, 0⟩ : Hart) zeroC).cell? ⟨W.heap.size, 34, none⟩ = some (.int .u64 (wV s0 256 (mode == 1))) := (St.box 1 W _ _).cell 2
  repeat still_step
  still_call ((rbit_1 _ _).mono fun _ _ h => ⟨h.1, h.2.symm⟩)
  repeat still_step
  still_call ((rset_5 _ _ _).mono fun _ _ h => ⟨h.1, h.2.symm⟩)
  repeat still_step
  refine wpStill_nil ?_
  clear m0
  go_wp2_with (first | (with_reducible refine wpList_load_by rfl rfl St.load_s0 rfl ?_) | (with_reducible refine wpList_load_by rfl rfl St.load_s10 rfl ?_) | (with_reducible refine wpList_store_by rfl rfl St.store_s0 rfl rfl ?_) | (with_reducible refine wpList_store_by rfl rfl St.store_mode rfl rfl ?_) | (with_reducible refine wpList_store_by rfl rfl St.store_pc rfl rfl ?_) | (with_reducible refine wpList_load_by rfl rfl (St.load _ _ _ _) rfl ?_) | (with_reducible refine wpList_store_by rfl rfl (St.store _ _ _ _) rfl rfl ?_) | (go_at_call 27; (with_reducible refine (rset_1 _ _ _).mono ?_); rintro e w' ⟨rfl, rfl⟩) | (go_at_call 28; (with_reducible refine (rentry_any _ _ _ hk0 _).mono ?_); rintro e w' ⟨rfl, rfl⟩) | fail)
  exact bodyPost_ret (v := hartV (rMidF (⟨x, hx, pc, mode, ⟨s0, s1, s2, s3, s4, s5, s6, s7, s8, s9, s10, s11, s12, s13, s14, s15⟩, held, rat⟩ : Hart) k true v)) (results_cell_row Try.results11 _ _ (W.heap.size + 1) 27 (hartC (rMidF (⟨x, hx, pc, mode, ⟨s0, s1, s2, s3, s4, s5, s6, s7, s8, s9, s10, s11, s12, s13, s14, s15⟩, held, rat⟩ : Hart) k true v)) (0, 0) _ rfl (St.res _ W _ _) Try.underlying27 rfl (by rw [size27, hartC_size])) rfl ⟨rfl, St.below _ W _ _⟩
set_option maxRecDepth 100000 in
set_option maxHeartbeats 1000000 in
theorem rtake_rMidF_false_hm (h : Hart) (k : Nat) (v : Int) (hk : k ≤ 63) (hm : h.mode ≤ 1) (hb : bV h.c.s1 (2 ^ k) = true) (W : World) : Calls Try.prog 11 #[hartV h, .int .i64 k, .bool false, .int .u64 v] W fun e W' => e = .returned (hartV (rMidF h k false v)) ∧ Below W.heap.size W W' := by
  obtain ⟨x, hx, pc, mode, ⟨s0, s1, s2, s3, s4, s5, s6, s7, s8, s9, s10, s11, s12, s13, s14, s15⟩, held, rat⟩ := h
  have hw : IntKind.u64.wrap (k : Int) = k := by rw [IntKind.wrap_u64]; omega
  have hk0 : 0 ≤ (k : Int) ∧ (k : Int) ≤ 63 := by omega
  have hb2 : bV s1 (2 ^ k) = true := hb
  clear hb
  go_enter Try.func11, Try.ntmps11
  go_upto_region 1 with (fail)
  have hst : (W.alloc (hartO (⟨x, hx, pc, mode, ⟨s0, s1, s2, s3, s4, s5, s6, s7, s8, s9, s10, s11, s12, s13, s14, s15⟩, held, rat⟩ : Hart))).alloc zeroO = St 0 W (⟨x, hx, pc, mode, ⟨s0, s1, s2, s3, s4, s5, s6, s7, s8, s9, s10, s11, s12, s13, s14, s15⟩, held, rat⟩ : Hart) zeroC := rfl
  rw [hst]
  clear hst
  go_upto_region 12 with (first | (with_reducible refine wpList_load_by rfl rfl St.load_s1 rfl ?_) | (with_reducible refine wpList_load_by rfl rfl St.load_s2 rfl ?_) | (with_reducible refine wpList_load_by rfl rfl St.load_mode rfl ?_) | (with_reducible refine wpList_load_by rfl rfl St.load_pc rfl ?_) | (with_reducible refine wpList_load_by rfl rfl St.load_s0 rfl ?_) | (with_reducible refine wpList_store_by rfl rfl St.store_held rfl rfl ?_) | (with_reducible refine wpList_store_by rfl rfl St.store_rat rfl rfl ?_) | (with_reducible refine wpList_store_by rfl rfl St.store_s12 rfl rfl ?_) | (with_reducible refine wpList_store_by rfl rfl St.store_s13 rfl rfl ?_) | (with_reducible refine wpList_store_by rfl rfl St.store_s14 rfl rfl ?_) | (with_reducible refine wpList_store_by rfl rfl St.store_s0 rfl rfl ?_) | (with_reducible refine wpList_load_by rfl rfl (St.load _ _ _ _) rfl ?_) | (with_reducible refine wpList_store_by rfl rfl (St.store _ _ _ _) rfl rfl ?_) | (go_at_call 26; (with_reducible refine (rbit_any _ k hk _).mono ?_); rintro e w' ⟨rfl, rfl⟩) | (go_at_call 27; (with_reducible refine (rset_8 _ _ _).mono ?_); rintro e w' ⟨rfl, rfl⟩) | fail)
  refine wp_region_still_tail 8 (by kernel_rfl) (by kernel_rfl) ?_
  simp only [List.take_succ_cons, List.take_zero, List.drop_succ_cons, List.drop_zero]
  have hd : { St 0 W (⟨x, hx, pc, mode, ⟨(wV s0 256 (mode == 1)), s1, s2, s3, s4, s5, s6, s7, s8, s9, s10, s11, (bits .andNot .u64 pc 1), ((k : Int)), v, s15⟩, false, 0⟩ : Hart) zeroC with drawn := (St 0 W (⟨x, hx, pc, mode, ⟨(wV s0 256 (mode == 1)), s1, s2, s3, s4, s5, s6, s7, s8, s9, s10, s11, (bits .andNot .u64 pc 1), ((k : Int)), v, s15⟩, false, 0⟩ : Hart) zeroC).drawn + 1 } = St 1 W (⟨x, hx, pc, mode, ⟨(wV s0 256 (mode == 1)), s1, s2, s3, s4, s5, s6, s7, s8, s9, s10, s11, (bits .andNot .u64 pc 1), ((k : Int)), v, s15⟩, false, 0⟩ : Hart) zeroC := rfl
  rw [hd]
  clear hd
  have m0 : (St 1 W (⟨x, hx, pc, mode, ⟨(wV s0 256 (mode == 1)), s1, s2, s3, s4, s5, s6, s7, s8, s9, s10, s11, (bits .andNot .u64 pc 1), ((k : Int)), v, s15⟩, false, 0⟩ : Hart) zeroC).cell? ⟨W.heap.size, 34, none⟩ = some (.int .u64 (wV s0 256 (mode == 1))) := (St.box 1 W _ _).cell 2
  repeat still_step
  still_call ((rbit_1 _ _).mono fun _ _ h => ⟨h.1, h.2.symm⟩)
  repeat still_step
  still_call ((rset_5 _ _ _).mono fun _ _ h => ⟨h.1, h.2.symm⟩)
  repeat still_step
  refine wpStill_nil ?_
  clear m0
  go_wp2_with (first | (with_reducible refine wpList_load_by rfl rfl St.load_s0 rfl ?_) | (with_reducible refine wpList_load_by rfl rfl St.load_s10 rfl ?_) | (with_reducible refine wpList_store_by rfl rfl St.store_s0 rfl rfl ?_) | (with_reducible refine wpList_store_by rfl rfl St.store_mode rfl rfl ?_) | (with_reducible refine wpList_store_by rfl rfl St.store_pc rfl rfl ?_) | (with_reducible refine wpList_load_by rfl rfl (St.load _ _ _ _) rfl ?_) | (with_reducible refine wpList_store_by rfl rfl (St.store _ _ _ _) rfl rfl ?_) | (go_at_call 27; (with_reducible refine (rset_1 _ _ _).mono ?_); rintro e w' ⟨rfl, rfl⟩) | (go_at_call 28; (with_reducible refine (rentry_any _ _ _ hk0 _).mono ?_); rintro e w' ⟨rfl, rfl⟩) | fail)
  exact bodyPost_ret (v := hartV (rMidF (⟨x, hx, pc, mode, ⟨s0, s1, s2, s3, s4, s5, s6, s7, s8, s9, s10, s11, s12, s13, s14, s15⟩, held, rat⟩ : Hart) k false v)) (results_cell_row Try.results11 _ _ (W.heap.size + 1) 27 (hartC (rMidF (⟨x, hx, pc, mode, ⟨s0, s1, s2, s3, s4, s5, s6, s7, s8, s9, s10, s11, s12, s13, s14, s15⟩, held, rat⟩ : Hart) k false v)) (0, 0) _ rfl (St.res _ W _ _) Try.underlying27 rfl (by rw [size27, hartC_size])) rfl ⟨rfl, St.below _ W _ _⟩
set_option maxRecDepth 100000 in
set_option maxHeartbeats 1000000 in
theorem rtake_rUpF_true_a (h : Hart) (k : Nat) (v : Int) (hk : k ≤ 63) (hm : ¬ h.mode ≤ 1) (W : World) : Calls Try.prog 11 #[hartV h, .int .i64 k, .bool true, .int .u64 v] W fun e W' => e = .returned (hartV (rUpF h k true v)) ∧ Below W.heap.size W W' := by
  obtain ⟨x, hx, pc, mode, ⟨s0, s1, s2, s3, s4, s5, s6, s7, s8, s9, s10, s11, s12, s13, s14, s15⟩, held, rat⟩ := h
  have hw : IntKind.u64.wrap (k : Int) = k := by rw [IntKind.wrap_u64]; omega
  have hk0 : 0 ≤ (k : Int) ∧ (k : Int) ≤ 63 := by omega
  go_enter Try.func11, Try.ntmps11
  go_upto_region 1 with (fail)
  have hst : (W.alloc (hartO (⟨x, hx, pc, mode, ⟨s0, s1, s2, s3, s4, s5, s6, s7, s8, s9, s10, s11, s12, s13, s14, s15⟩, held, rat⟩ : Hart))).alloc zeroO = St 0 W (⟨x, hx, pc, mode, ⟨s0, s1, s2, s3, s4, s5, s6, s7, s8, s9, s10, s11, s12, s13, s14, s15⟩, held, rat⟩ : Hart) zeroC := rfl
  rw [hst]
  clear hst
  go_upto_region 18 with (first | (with_reducible refine wpList_load_by rfl rfl St.load_s1 rfl ?_) | (with_reducible refine wpList_load_by rfl rfl St.load_s2 rfl ?_) | (with_reducible refine wpList_load_by rfl rfl St.load_mode rfl ?_) | (with_reducible refine wpList_load_by rfl rfl St.load_pc rfl ?_) | (with_reducible refine wpList_load_by rfl rfl St.load_s0 rfl ?_) | (with_reducible refine wpList_store_by rfl rfl St.store_held rfl rfl ?_) | (with_reducible refine wpList_store_by rfl rfl St.store_rat rfl rfl ?_) | (with_reducible refine wpList_store_by rfl rfl St.store_s7 rfl rfl ?_) | (with_reducible refine wpList_store_by rfl rfl St.store_s8 rfl rfl ?_) | (with_reducible refine wpList_store_by rfl rfl St.store_s9 rfl rfl ?_) | (with_reducible refine wpList_store_by rfl rfl St.store_s0 rfl rfl ?_) | (with_reducible refine wpList_load_by rfl rfl (St.load _ _ _ _) rfl ?_) | (with_reducible refine wpList_store_by rfl rfl (St.store _ _ _ _) rfl rfl ?_) | (go_at_call 26; (with_reducible refine (rbit_any _ k hk _).mono ?_); rintro e w' ⟨rfl, rfl⟩) | fail)
  refine wp_region_still_tail 8 (by kernel_rfl) (by kernel_rfl) ?_
  simp only [List.take_succ_cons, List.take_zero, List.drop_succ_cons, List.drop_zero]
  have hd : { St 0 W (⟨x, hx, pc, mode, ⟨(bits .or .u64 (bits .andNot .u64 s0 6144) (IntKind.u64.wrap (IntKind.u64.wrap (bits .and .i64 mode 3) * 2048))), s1, s2, s3, s4, s5, s6, (bits .andNot .u64 pc 1), (bits .or .u64 (k : Int) 9223372036854775808), v, s10, s11, s12, s13, s14, s15⟩, false, 0⟩ : Hart) zeroC with drawn := (St 0 W (⟨x, hx, pc, mode, ⟨(bits .or .u64 (bits .andNot .u64 s0 6144) (IntKind.u64.wrap (IntKind.u64.wrap (bits .and .i64 mode 3) * 2048))), s1, s2, s3, s4, s5, s6, (bits .andNot .u64 pc 1), (bits .or .u64 (k : Int) 9223372036854775808), v, s10, s11, s12, s13, s14, s15⟩, false, 0⟩ : Hart) zeroC).drawn + 1 } = St 1 W (⟨x, hx, pc, mode, ⟨(bits .or .u64 (bits .andNot .u64 s0 6144) (IntKind.u64.wrap (IntKind.u64.wrap (bits .and .i64 mode 3) * 2048))), s1, s2, s3, s4, s5, s6, (bits .andNot .u64 pc 1), (bits .or .u64 (k : Int) 9223372036854775808), v, s10, s11, s12, s13, s14, s15⟩, false, 0⟩ : Hart) zeroC := rfl
  rw [hd]
  clear hd
  have m0 : (St 1 W (⟨x, hx, pc, mode, ⟨(bits .or .u64 (bits .andNot .u64 s0 6144) (IntKind.u64.wrap (IntKind.u64.wrap (bits .and .i64 mode 3) * 2048))), s1, s2, s3, s4, s5, s6, (bits .andNot .u64 pc 1), (bits .or .u64 (k : Int) 9223372036854775808), v, s10, s11, s12, s13, s14, s15⟩, false, 0⟩ : Hart) zeroC).cell? ⟨W.heap.size, 34, none⟩ = some (.int .u64 (bits .or .u64 (bits .andNot .u64 s0 6144) (IntKind.u64.wrap (IntKind.u64.wrap (bits .and .i64 mode 3) * 2048)))) := (St.box 1 W _ _).cell 2
  repeat still_step
  still_call ((rbit_3 _ _).mono fun _ _ h => ⟨h.1, h.2.symm⟩)
  repeat still_step
  still_call ((rset_7 _ _ _).mono fun _ _ h => ⟨h.1, h.2.symm⟩)
  repeat still_step
  refine wpStill_nil ?_
  clear m0
  go_wp2_with (first | (with_reducible refine wpList_load_by rfl rfl St.load_s0 rfl ?_) | (with_reducible refine wpList_load_by rfl rfl St.load_s5 rfl ?_) | (with_reducible refine wpList_store_by rfl rfl St.store_s0 rfl rfl ?_) | (with_reducible refine wpList_store_by rfl rfl St.store_mode rfl rfl ?_) | (with_reducible refine wpList_store_by rfl rfl St.store_pc rfl rfl ?_) | (with_reducible refine wpList_load_by rfl rfl (St.load _ _ _ _) rfl ?_) | (with_reducible refine wpList_store_by rfl rfl (St.store _ _ _ _) rfl rfl ?_) | (go_at_call 27; (with_reducible refine (rset_3 _ _ _).mono ?_); rintro e w' ⟨rfl, rfl⟩) | (go_at_call 28; (with_reducible refine (rentry_any _ _ _ hk0 _).mono ?_); rintro e w' ⟨rfl, rfl⟩) | fail)
  exact bodyPost_ret (v := hartV (rUpF (⟨x, hx, pc, mode, ⟨s0, s1, s2, s3, s4, s5, s6, s7, s8, s9, s10, s11, s12, s13, s14, s15⟩, held, rat⟩ : Hart) k true v)) (results_cell_row Try.results11 _ _ (W.heap.size + 1) 27 (hartC (rUpF (⟨x, hx, pc, mode, ⟨s0, s1, s2, s3, s4, s5, s6, s7, s8, s9, s10, s11, s12, s13, s14, s15⟩, held, rat⟩ : Hart) k true v)) (0, 0) _ rfl (St.res _ W _ _) Try.underlying27 rfl (by rw [size27, hartC_size])) rfl ⟨rfl, St.below _ W _ _⟩
set_option maxRecDepth 100000 in
set_option maxHeartbeats 1000000 in
theorem rtake_rUpF_true_b (h : Hart) (k : Nat) (v : Int) (hk : k ≤ 63) (hm : h.mode ≤ 1) (hb : bV h.c.s2 (2 ^ k) = false) (W : World) : Calls Try.prog 11 #[hartV h, .int .i64 k, .bool true, .int .u64 v] W fun e W' => e = .returned (hartV (rUpF h k true v)) ∧ Below W.heap.size W W' := by
  obtain ⟨x, hx, pc, mode, ⟨s0, s1, s2, s3, s4, s5, s6, s7, s8, s9, s10, s11, s12, s13, s14, s15⟩, held, rat⟩ := h
  have hw : IntKind.u64.wrap (k : Int) = k := by rw [IntKind.wrap_u64]; omega
  have hk0 : 0 ≤ (k : Int) ∧ (k : Int) ≤ 63 := by omega
  have hb2 : bV s2 (2 ^ k) = false := hb
  clear hb
  go_enter Try.func11, Try.ntmps11
  go_upto_region 1 with (fail)
  have hst : (W.alloc (hartO (⟨x, hx, pc, mode, ⟨s0, s1, s2, s3, s4, s5, s6, s7, s8, s9, s10, s11, s12, s13, s14, s15⟩, held, rat⟩ : Hart))).alloc zeroO = St 0 W (⟨x, hx, pc, mode, ⟨s0, s1, s2, s3, s4, s5, s6, s7, s8, s9, s10, s11, s12, s13, s14, s15⟩, held, rat⟩ : Hart) zeroC := rfl
  rw [hst]
  clear hst
  go_upto_region 18 with (first | (with_reducible refine wpList_load_by rfl rfl St.load_s1 rfl ?_) | (with_reducible refine wpList_load_by rfl rfl St.load_s2 rfl ?_) | (with_reducible refine wpList_load_by rfl rfl St.load_mode rfl ?_) | (with_reducible refine wpList_load_by rfl rfl St.load_pc rfl ?_) | (with_reducible refine wpList_load_by rfl rfl St.load_s0 rfl ?_) | (with_reducible refine wpList_store_by rfl rfl St.store_held rfl rfl ?_) | (with_reducible refine wpList_store_by rfl rfl St.store_rat rfl rfl ?_) | (with_reducible refine wpList_store_by rfl rfl St.store_s7 rfl rfl ?_) | (with_reducible refine wpList_store_by rfl rfl St.store_s8 rfl rfl ?_) | (with_reducible refine wpList_store_by rfl rfl St.store_s9 rfl rfl ?_) | (with_reducible refine wpList_store_by rfl rfl St.store_s0 rfl rfl ?_) | (with_reducible refine wpList_load_by rfl rfl (St.load _ _ _ _) rfl ?_) | (with_reducible refine wpList_store_by rfl rfl (St.store _ _ _ _) rfl rfl ?_) | (go_at_call 26; (with_reducible refine (rbit_any _ k hk _).mono ?_); rintro e w' ⟨rfl, rfl⟩) | fail)
  refine wp_region_still_tail 8 (by kernel_rfl) (by kernel_rfl) ?_
  simp only [List.take_succ_cons, List.take_zero, List.drop_succ_cons, List.drop_zero]
  have hd : { St 0 W (⟨x, hx, pc, mode, ⟨(bits .or .u64 (bits .andNot .u64 s0 6144) (IntKind.u64.wrap (IntKind.u64.wrap (bits .and .i64 mode 3) * 2048))), s1, s2, s3, s4, s5, s6, (bits .andNot .u64 pc 1), (bits .or .u64 (k : Int) 9223372036854775808), v, s10, s11, s12, s13, s14, s15⟩, false, 0⟩ : Hart) zeroC with drawn := (St 0 W (⟨x, hx, pc, mode, ⟨(bits .or .u64 (bits .andNot .u64 s0 6144) (IntKind.u64.wrap (IntKind.u64.wrap (bits .and .i64 mode 3) * 2048))), s1, s2, s3, s4, s5, s6, (bits .andNot .u64 pc 1), (bits .or .u64 (k : Int) 9223372036854775808), v, s10, s11, s12, s13, s14, s15⟩, false, 0⟩ : Hart) zeroC).drawn + 1 } = St 1 W (⟨x, hx, pc, mode, ⟨(bits .or .u64 (bits .andNot .u64 s0 6144) (IntKind.u64.wrap (IntKind.u64.wrap (bits .and .i64 mode 3) * 2048))), s1, s2, s3, s4, s5, s6, (bits .andNot .u64 pc 1), (bits .or .u64 (k : Int) 9223372036854775808), v, s10, s11, s12, s13, s14, s15⟩, false, 0⟩ : Hart) zeroC := rfl
  rw [hd]
  clear hd
  have m0 : (St 1 W (⟨x, hx, pc, mode, ⟨(bits .or .u64 (bits .andNot .u64 s0 6144) (IntKind.u64.wrap (IntKind.u64.wrap (bits .and .i64 mode 3) * 2048))), s1, s2, s3, s4, s5, s6, (bits .andNot .u64 pc 1), (bits .or .u64 (k : Int) 9223372036854775808), v, s10, s11, s12, s13, s14, s15⟩, false, 0⟩ : Hart) zeroC).cell? ⟨W.heap.size, 34, none⟩ = some (.int .u64 (bits .or .u64 (bits .andNot .u64 s0 6144) (IntKind.u64.wrap (IntKind.u64.wrap (bits .and .i64 mode 3) * 2048)))) := (St.box 1 W _ _).cell 2
  repeat still_step
  still_call ((rbit_3 _ _).mono fun _ _ h => ⟨h.1, h.2.symm⟩)
  repeat still_step
  still_call ((rset_7 _ _ _).mono fun _ _ h => ⟨h.1, h.2.symm⟩)
  repeat still_step
  refine wpStill_nil ?_
  clear m0
  go_wp2_with (first | (with_reducible refine wpList_load_by rfl rfl St.load_s0 rfl ?_) | (with_reducible refine wpList_load_by rfl rfl St.load_s5 rfl ?_) | (with_reducible refine wpList_store_by rfl rfl St.store_s0 rfl rfl ?_) | (with_reducible refine wpList_store_by rfl rfl St.store_mode rfl rfl ?_) | (with_reducible refine wpList_store_by rfl rfl St.store_pc rfl rfl ?_) | (with_reducible refine wpList_load_by rfl rfl (St.load _ _ _ _) rfl ?_) | (with_reducible refine wpList_store_by rfl rfl (St.store _ _ _ _) rfl rfl ?_) | (go_at_call 27; (with_reducible refine (rset_3 _ _ _).mono ?_); rintro e w' ⟨rfl, rfl⟩) | (go_at_call 28; (with_reducible refine (rentry_any _ _ _ hk0 _).mono ?_); rintro e w' ⟨rfl, rfl⟩) | fail)
  exact bodyPost_ret (v := hartV (rUpF (⟨x, hx, pc, mode, ⟨s0, s1, s2, s3, s4, s5, s6, s7, s8, s9, s10, s11, s12, s13, s14, s15⟩, held, rat⟩ : Hart) k true v)) (results_cell_row Try.results11 _ _ (W.heap.size + 1) 27 (hartC (rUpF (⟨x, hx, pc, mode, ⟨s0, s1, s2, s3, s4, s5, s6, s7, s8, s9, s10, s11, s12, s13, s14, s15⟩, held, rat⟩ : Hart) k true v)) (0, 0) _ rfl (St.res _ W _ _) Try.underlying27 rfl (by rw [size27, hartC_size])) rfl ⟨rfl, St.below _ W _ _⟩
set_option maxRecDepth 100000 in
set_option maxHeartbeats 1000000 in
theorem rtake_rUpF_false_a (h : Hart) (k : Nat) (v : Int) (hk : k ≤ 63) (hm : ¬ h.mode ≤ 1) (W : World) : Calls Try.prog 11 #[hartV h, .int .i64 k, .bool false, .int .u64 v] W fun e W' => e = .returned (hartV (rUpF h k false v)) ∧ Below W.heap.size W W' := by
  obtain ⟨x, hx, pc, mode, ⟨s0, s1, s2, s3, s4, s5, s6, s7, s8, s9, s10, s11, s12, s13, s14, s15⟩, held, rat⟩ := h
  have hw : IntKind.u64.wrap (k : Int) = k := by rw [IntKind.wrap_u64]; omega
  have hk0 : 0 ≤ (k : Int) ∧ (k : Int) ≤ 63 := by omega
  go_enter Try.func11, Try.ntmps11
  go_upto_region 1 with (fail)
  have hst : (W.alloc (hartO (⟨x, hx, pc, mode, ⟨s0, s1, s2, s3, s4, s5, s6, s7, s8, s9, s10, s11, s12, s13, s14, s15⟩, held, rat⟩ : Hart))).alloc zeroO = St 0 W (⟨x, hx, pc, mode, ⟨s0, s1, s2, s3, s4, s5, s6, s7, s8, s9, s10, s11, s12, s13, s14, s15⟩, held, rat⟩ : Hart) zeroC := rfl
  rw [hst]
  clear hst
  go_upto_region 18 with (first | (with_reducible refine wpList_load_by rfl rfl St.load_s1 rfl ?_) | (with_reducible refine wpList_load_by rfl rfl St.load_s2 rfl ?_) | (with_reducible refine wpList_load_by rfl rfl St.load_mode rfl ?_) | (with_reducible refine wpList_load_by rfl rfl St.load_pc rfl ?_) | (with_reducible refine wpList_load_by rfl rfl St.load_s0 rfl ?_) | (with_reducible refine wpList_store_by rfl rfl St.store_held rfl rfl ?_) | (with_reducible refine wpList_store_by rfl rfl St.store_rat rfl rfl ?_) | (with_reducible refine wpList_store_by rfl rfl St.store_s7 rfl rfl ?_) | (with_reducible refine wpList_store_by rfl rfl St.store_s8 rfl rfl ?_) | (with_reducible refine wpList_store_by rfl rfl St.store_s9 rfl rfl ?_) | (with_reducible refine wpList_store_by rfl rfl St.store_s0 rfl rfl ?_) | (with_reducible refine wpList_load_by rfl rfl (St.load _ _ _ _) rfl ?_) | (with_reducible refine wpList_store_by rfl rfl (St.store _ _ _ _) rfl rfl ?_) | (go_at_call 26; (with_reducible refine (rbit_any _ k hk _).mono ?_); rintro e w' ⟨rfl, rfl⟩) | fail)
  refine wp_region_still_tail 8 (by kernel_rfl) (by kernel_rfl) ?_
  simp only [List.take_succ_cons, List.take_zero, List.drop_succ_cons, List.drop_zero]
  have hd : { St 0 W (⟨x, hx, pc, mode, ⟨(bits .or .u64 (bits .andNot .u64 s0 6144) (IntKind.u64.wrap (IntKind.u64.wrap (bits .and .i64 mode 3) * 2048))), s1, s2, s3, s4, s5, s6, (bits .andNot .u64 pc 1), ((k : Int)), v, s10, s11, s12, s13, s14, s15⟩, false, 0⟩ : Hart) zeroC with drawn := (St 0 W (⟨x, hx, pc, mode, ⟨(bits .or .u64 (bits .andNot .u64 s0 6144) (IntKind.u64.wrap (IntKind.u64.wrap (bits .and .i64 mode 3) * 2048))), s1, s2, s3, s4, s5, s6, (bits .andNot .u64 pc 1), ((k : Int)), v, s10, s11, s12, s13, s14, s15⟩, false, 0⟩ : Hart) zeroC).drawn + 1 } = St 1 W (⟨x, hx, pc, mode, ⟨(bits .or .u64 (bits .andNot .u64 s0 6144) (IntKind.u64.wrap (IntKind.u64.wrap (bits .and .i64 mode 3) * 2048))), s1, s2, s3, s4, s5, s6, (bits .andNot .u64 pc 1), ((k : Int)), v, s10, s11, s12, s13, s14, s15⟩, false, 0⟩ : Hart) zeroC := rfl
  rw [hd]
  clear hd
  have m0 : (St 1 W (⟨x, hx, pc, mode, ⟨(bits .or .u64 (bits .andNot .u64 s0 6144) (IntKind.u64.wrap (IntKind.u64.wrap (bits .and .i64 mode 3) * 2048))), s1, s2, s3, s4, s5, s6, (bits .andNot .u64 pc 1), ((k : Int)), v, s10, s11, s12, s13, s14, s15⟩, false, 0⟩ : Hart) zeroC).cell? ⟨W.heap.size, 34, none⟩ = some (.int .u64 (bits .or .u64 (bits .andNot .u64 s0 6144) (IntKind.u64.wrap (IntKind.u64.wrap (bits .and .i64 mode 3) * 2048)))) := (St.box 1 W _ _).cell 2
  repeat still_step
  still_call ((rbit_3 _ _).mono fun _ _ h => ⟨h.1, h.2.symm⟩)
  repeat still_step
  still_call ((rset_7 _ _ _).mono fun _ _ h => ⟨h.1, h.2.symm⟩)
  repeat still_step
  refine wpStill_nil ?_
  clear m0
  go_wp2_with (first | (with_reducible refine wpList_load_by rfl rfl St.load_s0 rfl ?_) | (with_reducible refine wpList_load_by rfl rfl St.load_s5 rfl ?_) | (with_reducible refine wpList_store_by rfl rfl St.store_s0 rfl rfl ?_) | (with_reducible refine wpList_store_by rfl rfl St.store_mode rfl rfl ?_) | (with_reducible refine wpList_store_by rfl rfl St.store_pc rfl rfl ?_) | (with_reducible refine wpList_load_by rfl rfl (St.load _ _ _ _) rfl ?_) | (with_reducible refine wpList_store_by rfl rfl (St.store _ _ _ _) rfl rfl ?_) | (go_at_call 27; (with_reducible refine (rset_3 _ _ _).mono ?_); rintro e w' ⟨rfl, rfl⟩) | (go_at_call 28; (with_reducible refine (rentry_any _ _ _ hk0 _).mono ?_); rintro e w' ⟨rfl, rfl⟩) | fail)
  exact bodyPost_ret (v := hartV (rUpF (⟨x, hx, pc, mode, ⟨s0, s1, s2, s3, s4, s5, s6, s7, s8, s9, s10, s11, s12, s13, s14, s15⟩, held, rat⟩ : Hart) k false v)) (results_cell_row Try.results11 _ _ (W.heap.size + 1) 27 (hartC (rUpF (⟨x, hx, pc, mode, ⟨s0, s1, s2, s3, s4, s5, s6, s7, s8, s9, s10, s11, s12, s13, s14, s15⟩, held, rat⟩ : Hart) k false v)) (0, 0) _ rfl (St.res _ W _ _) Try.underlying27 rfl (by rw [size27, hartC_size])) rfl ⟨rfl, St.below _ W _ _⟩
set_option maxRecDepth 100000 in
set_option maxHeartbeats 1000000 in
theorem rtake_rUpF_false_b (h : Hart) (k : Nat) (v : Int) (hk : k ≤ 63) (hm : h.mode ≤ 1) (hb : bV h.c.s1 (2 ^ k) = false) (W : World) : Calls Try.prog 11 #[hartV h, .int .i64 k, .bool false, .int .u64 v] W fun e W' => e = .returned (hartV (rUpF h k false v)) ∧ Below W.heap.size W W' := by
  obtain ⟨x, hx, pc, mode, ⟨s0, s1, s2, s3, s4, s5, s6, s7, s8, s9, s10, s11, s12, s13, s14, s15⟩, held, rat⟩ := h
  have hw : IntKind.u64.wrap (k : Int) = k := by rw [IntKind.wrap_u64]; omega
  have hk0 : 0 ≤ (k : Int) ∧ (k : Int) ≤ 63 := by omega
  have hb2 : bV s1 (2 ^ k) = false := hb
  clear hb
  go_enter Try.func11, Try.ntmps11
  go_upto_region 1 with (fail)
  have hst : (W.alloc (hartO (⟨x, hx, pc, mode, ⟨s0, s1, s2, s3, s4, s5, s6, s7, s8, s9, s10, s11, s12, s13, s14, s15⟩, held, rat⟩ : Hart))).alloc zeroO = St 0 W (⟨x, hx, pc, mode, ⟨s0, s1, s2, s3, s4, s5, s6, s7, s8, s9, s10, s11, s12, s13, s14, s15⟩, held, rat⟩ : Hart) zeroC := rfl
  rw [hst]
  clear hst
  go_upto_region 18 with (first | (with_reducible refine wpList_load_by rfl rfl St.load_s1 rfl ?_) | (with_reducible refine wpList_load_by rfl rfl St.load_s2 rfl ?_) | (with_reducible refine wpList_load_by rfl rfl St.load_mode rfl ?_) | (with_reducible refine wpList_load_by rfl rfl St.load_pc rfl ?_) | (with_reducible refine wpList_load_by rfl rfl St.load_s0 rfl ?_) | (with_reducible refine wpList_store_by rfl rfl St.store_held rfl rfl ?_) | (with_reducible refine wpList_store_by rfl rfl St.store_rat rfl rfl ?_) | (with_reducible refine wpList_store_by rfl rfl St.store_s7 rfl rfl ?_) | (with_reducible refine wpList_store_by rfl rfl St.store_s8 rfl rfl ?_) | (with_reducible refine wpList_store_by rfl rfl St.store_s9 rfl rfl ?_) | (with_reducible refine wpList_store_by rfl rfl St.store_s0 rfl rfl ?_) | (with_reducible refine wpList_load_by rfl rfl (St.load _ _ _ _) rfl ?_) | (with_reducible refine wpList_store_by rfl rfl (St.store _ _ _ _) rfl rfl ?_) | (go_at_call 26; (with_reducible refine (rbit_any _ k hk _).mono ?_); rintro e w' ⟨rfl, rfl⟩) | fail)
  refine wp_region_still_tail 8 (by kernel_rfl) (by kernel_rfl) ?_
  simp only [List.take_succ_cons, List.take_zero, List.drop_succ_cons, List.drop_zero]
  have hd : { St 0 W (⟨x, hx, pc, mode, ⟨(bits .or .u64 (bits .andNot .u64 s0 6144) (IntKind.u64.wrap (IntKind.u64.wrap (bits .and .i64 mode 3) * 2048))), s1, s2, s3, s4, s5, s6, (bits .andNot .u64 pc 1), ((k : Int)), v, s10, s11, s12, s13, s14, s15⟩, false, 0⟩ : Hart) zeroC with drawn := (St 0 W (⟨x, hx, pc, mode, ⟨(bits .or .u64 (bits .andNot .u64 s0 6144) (IntKind.u64.wrap (IntKind.u64.wrap (bits .and .i64 mode 3) * 2048))), s1, s2, s3, s4, s5, s6, (bits .andNot .u64 pc 1), ((k : Int)), v, s10, s11, s12, s13, s14, s15⟩, false, 0⟩ : Hart) zeroC).drawn + 1 } = St 1 W (⟨x, hx, pc, mode, ⟨(bits .or .u64 (bits .andNot .u64 s0 6144) (IntKind.u64.wrap (IntKind.u64.wrap (bits .and .i64 mode 3) * 2048))), s1, s2, s3, s4, s5, s6, (bits .andNot .u64 pc 1), ((k : Int)), v, s10, s11, s12, s13, s14, s15⟩, false, 0⟩ : Hart) zeroC := rfl
  rw [hd]
  clear hd
  have m0 : (St 1 W (⟨x, hx, pc, mode, ⟨(bits .or .u64 (bits .andNot .u64 s0 6144) (IntKind.u64.wrap (IntKind.u64.wrap (bits .and .i64 mode 3) * 2048))), s1, s2, s3, s4, s5, s6, (bits .andNot .u64 pc 1), ((k : Int)), v, s10, s11, s12, s13, s14, s15⟩, false, 0⟩ : Hart) zeroC).cell? ⟨W.heap.size, 34, none⟩ = some (.int .u64 (bits .or .u64 (bits .andNot .u64 s0 6144) (IntKind.u64.wrap (IntKind.u64.wrap (bits .and .i64 mode 3) * 2048)))) := (St.box 1 W _ _).cell 2
  repeat still_step
  still_call ((rbit_3 _ _).mono fun _ _ h => ⟨h.1, h.2.symm⟩)
  repeat still_step
  still_call ((rset_7 _ _ _).mono fun _ _ h => ⟨h.1, h.2.symm⟩)
  repeat still_step
  refine wpStill_nil ?_
  clear m0
  go_wp2_with (first | (with_reducible refine wpList_load_by rfl rfl St.load_s0 rfl ?_) | (with_reducible refine wpList_load_by rfl rfl St.load_s5 rfl ?_) | (with_reducible refine wpList_store_by rfl rfl St.store_s0 rfl rfl ?_) | (with_reducible refine wpList_store_by rfl rfl St.store_mode rfl rfl ?_) | (with_reducible refine wpList_store_by rfl rfl St.store_pc rfl rfl ?_) | (with_reducible refine wpList_load_by rfl rfl (St.load _ _ _ _) rfl ?_) | (with_reducible refine wpList_store_by rfl rfl (St.store _ _ _ _) rfl rfl ?_) | (go_at_call 27; (with_reducible refine (rset_3 _ _ _).mono ?_); rintro e w' ⟨rfl, rfl⟩) | (go_at_call 28; (with_reducible refine (rentry_any _ _ _ hk0 _).mono ?_); rintro e w' ⟨rfl, rfl⟩) | fail)
  exact bodyPost_ret (v := hartV (rUpF (⟨x, hx, pc, mode, ⟨s0, s1, s2, s3, s4, s5, s6, s7, s8, s9, s10, s11, s12, s13, s14, s15⟩, held, rat⟩ : Hart) k false v)) (results_cell_row Try.results11 _ _ (W.heap.size + 1) 27 (hartC (rUpF (⟨x, hx, pc, mode, ⟨s0, s1, s2, s3, s4, s5, s6, s7, s8, s9, s10, s11, s12, s13, s14, s15⟩, held, rat⟩ : Hart) k false v)) (0, 0) _ rfl (St.res _ W _ _) Try.underlying27 rfl (by rw [size27, hartC_size])) rfl ⟨rfl, St.below _ W _ _⟩

end Go.Proofs.Ytbdoiomnoajnpaa
