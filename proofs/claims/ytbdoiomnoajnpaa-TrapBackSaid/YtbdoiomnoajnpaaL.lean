/- The ways back of the reference. -/
import Derived.Test.YtbdoiomnoajnpaaG
import Derived.StillTailTactics
namespace Go.Proofs.Ytbdoiomnoajnpaa
open Go.RowKit Go.Deep Go.Joins
theorem toModeR (x : Int) : ∃ q : Int, bits .and .u64 (x / 2048) 3 = q ∧ 0 ≤ q ∧ q ≤ 3 :=
  ⟨_, rfl, bits_lo_u64 .and (x / 2048) 3, and_le_u64 (x / 2048) 3 (by omega)⟩
def rmppV (x : Int) : Int := bits .and .u64 (x / 2048) 3
def rmretA (s : Int) : Int := bits .andNot .u64 (wV (wV s 8 (bV s 128)) 128 true) 6144
def rmretS (s : Int) (q : Int) : Int := if (q != 3) = true then wV (rmretA s) 131072 false else rmretA s
def rsretS (s : Int) : Int := wV (wV (wV (wV s 2 (bV s 32)) 32 true) 256 false) 131072 false
def rmretF (h : Hart) : Hart := (⟨h.x, h.hx, h.c.s7, rmppV h.c.s0, ⟨rmretS h.c.s0 (rmppV h.c.s0), h.c.s1, h.c.s2, h.c.s3, h.c.s4, h.c.s5, h.c.s6, h.c.s7, h.c.s8, h.c.s9, h.c.s10, h.c.s11, h.c.s12, h.c.s13, h.c.s14, h.c.s15⟩, h.held, h.rat⟩ : Hart)
def rsretF (h : Hart) : Hart := (⟨h.x, h.hx, h.c.s12, if bV h.c.s0 256 = true then 1 else 0, ⟨rsretS h.c.s0, h.c.s1, h.c.s2, h.c.s3, h.c.s4, h.c.s5, h.c.s6, h.c.s7, h.c.s8, h.c.s9, h.c.s10, h.c.s11, h.c.s12, h.c.s13, h.c.s14, h.c.s15⟩, h.held, h.rat⟩ : Hart)
set_option maxHeartbeats 1000000 in
theorem rmret_no (h : Hart) (hm : (h.mode != 3) = true) (W : World) : Calls Try.prog 13 #[hartV h] W fun e W' => e = .returned (.tuple #[hartV h, .bool false]) ∧ Below W.heap.size W W' := by
  obtain ⟨x, hx, pc, mode, ⟨s0, s1, s2, s3, s4, s5, s6, s7, s8, s9, s10, s11, s12, s13, s14, s15⟩, held, rat⟩ := h
  go_enter Try.func13, Try.ntmps13
  go_upto_region 1 with (fail)
  have hst : (W.alloc (hartO (⟨x, hx, pc, mode, ⟨s0, s1, s2, s3, s4, s5, s6, s7, s8, s9, s10, s11, s12, s13, s14, s15⟩, held, rat⟩ : Hart))).alloc zeroO = St 0 W (⟨x, hx, pc, mode, ⟨s0, s1, s2, s3, s4, s5, s6, s7, s8, s9, s10, s11, s12, s13, s14, s15⟩, held, rat⟩ : Hart) zeroC := rfl
  rw [hst]
  clear hst
  go_wp2_with (first | (with_reducible refine wpList_load_by rfl rfl St.load_mode rfl ?_) | (with_reducible refine wpList_load_by rfl rfl (St.load _ _ _ _) rfl ?_) | (with_reducible refine wpList_store_by rfl rfl (St.store _ _ _ _) rfl rfl ?_) | fail)
  exact bodyPost_ret (v := .tuple #[hartV ((⟨x, hx, pc, mode, ⟨s0, s1, s2, s3, s4, s5, s6, s7, s8, s9, s10, s11, s12, s13, s14, s15⟩, held, rat⟩ : Hart)), .bool false]) (results_two Try.results13 _ _ (W.heap.size + 1) _ _ rfl (St.res _ W _ _) rfl) rfl ⟨rfl, St.below _ W _ _⟩
set_option maxHeartbeats 1000000 in
theorem rmret_true (h : Hart) (hm : (h.mode != 3) = false) (hq : (rmppV h.c.s0 != 3) = true) (W : World) : Calls Try.prog 13 #[hartV h] W fun e W' => e = .returned (.tuple #[hartV (rmretF h), .bool true]) ∧ Below W.heap.size W W' := by
  obtain ⟨x, hx, pc, mode, ⟨s0, s1, s2, s3, s4, s5, s6, s7, s8, s9, s10, s11, s12, s13, s14, s15⟩, held, rat⟩ := h
  obtain ⟨q, he, h0, h3⟩ := toModeR s0
  have HQ : RowKit.Hid (rmppV s0 = q) := Lib.hid he
  have hw : IntKind.i64.wrap q = q := IntWalk.i64_in _ (by omega)
  have hq2 : (q != 3) = true := by rw [← hq]; exact congrArg (fun z => z != 3) he.symm
  clear hq
  have HQ2 := Lib.hid hq2
  go_enter Try.func13, Try.ntmps13
  go_upto_region 1 with (fail)
  have hst : (W.alloc (hartO (⟨x, hx, pc, mode, ⟨s0, s1, s2, s3, s4, s5, s6, s7, s8, s9, s10, s11, s12, s13, s14, s15⟩, held, rat⟩ : Hart))).alloc zeroO = St 0 W (⟨x, hx, pc, mode, ⟨s0, s1, s2, s3, s4, s5, s6, s7, s8, s9, s10, s11, s12, s13, s14, s15⟩, held, rat⟩ : Hart) zeroC := rfl
  rw [hst]
  clear hst
  go_upto_region 4 with (first | (with_reducible refine wpList_load_by rfl rfl St.load_mode rfl ?_) | (with_reducible refine wpList_load_by rfl rfl St.load_s0 rfl ?_) | (with_reducible refine wpList_load_by rfl rfl (St.load _ _ _ _) rfl ?_) | (with_reducible refine wpList_store_by rfl rfl (St.store _ _ _ _) rfl rfl ?_) | fail)
  refine wp_region_still_tail 8 (by kernel_rfl) (by kernel_rfl) ?_
  simp only [List.take_succ_cons, List.take_zero, List.drop_succ_cons, List.drop_zero]
  have hd : { St 0 W (⟨x, hx, pc, mode, ⟨s0, s1, s2, s3, s4, s5, s6, s7, s8, s9, s10, s11, s12, s13, s14, s15⟩, held, rat⟩ : Hart) zeroC with drawn := (St 0 W (⟨x, hx, pc, mode, ⟨s0, s1, s2, s3, s4, s5, s6, s7, s8, s9, s10, s11, s12, s13, s14, s15⟩, held, rat⟩ : Hart) zeroC).drawn + 1 } = St 1 W (⟨x, hx, pc, mode, ⟨s0, s1, s2, s3, s4, s5, s6, s7, s8, s9, s10, s11, s12, s13, s14, s15⟩, held, rat⟩ : Hart) zeroC := rfl
  rw [hd]
  clear hd
  have m0 : (St 1 W (⟨x, hx, pc, mode, ⟨s0, s1, s2, s3, s4, s5, s6, s7, s8, s9, s10, s11, s12, s13, s14, s15⟩, held, rat⟩ : Hart) zeroC).cell? ⟨W.heap.size, 34, none⟩ = some (.int .u64 s0) := (St.box 1 W _ _).cell 2
  repeat still_step
  still_call ((rbit_7 _ _).mono fun _ _ h => ⟨h.1, h.2.symm⟩)
  repeat still_step
  still_call ((rset_3 _ _ _).mono fun _ _ h => ⟨h.1, h.2.symm⟩)
  repeat still_step
  refine wpStill_nil ?_
  clear m0
  go_wp2_with (first | (with_reducible refine wpList_load_by rfl rfl St.load_mode rfl ?_) | (with_reducible refine wpList_load_by rfl rfl St.load_s0 rfl ?_) | (with_reducible refine wpList_load_by rfl rfl St.load_s7 rfl ?_) | (with_reducible refine wpList_store_by rfl rfl St.store_mode rfl rfl ?_) | (with_reducible refine wpList_store_by rfl rfl St.store_s0 rfl rfl ?_) | (with_reducible refine wpList_store_by rfl rfl St.store_pc rfl rfl ?_) | (with_reducible refine wpList_load_by rfl rfl (St.load _ _ _ _) rfl ?_) | (with_reducible refine wpList_store_by rfl rfl (St.store _ _ _ _) rfl rfl ?_) | (go_at_call 27; (with_reducible refine (rset_7 _ _ _).mono ?_); rintro e w' ⟨rfl, rfl⟩) | (go_at_call 27; (with_reducible refine (rset_17 _ _ _).mono ?_); rintro e w' ⟨rfl, rfl⟩) | fail)
  have hE : rmretF (⟨x, hx, pc, mode, ⟨s0, s1, s2, s3, s4, s5, s6, s7, s8, s9, s10, s11, s12, s13, s14, s15⟩, held, rat⟩ : Hart) = (⟨x, hx, s7, q, ⟨rmretS s0 q, s1, s2, s3, s4, s5, s6, s7, s8, s9, s10, s11, s12, s13, s14, s15⟩, held, rat⟩ : Hart) := by
    unfold rmretF
    rw [show rmppV (⟨x, hx, pc, mode, ⟨s0, s1, s2, s3, s4, s5, s6, s7, s8, s9, s10, s11, s12, s13, s14, s15⟩, held, rat⟩ : Hart).c.s0 = q from HQ.out]
  have hS : rmretS s0 q = wV (rmretA s0) 131072 false := if_pos HQ2.out
  rw [hE, hS]
  exact bodyPost_ret (v := .tuple #[hartV ((⟨x, hx, s7, q, ⟨wV (rmretA s0) 131072 false, s1, s2, s3, s4, s5, s6, s7, s8, s9, s10, s11, s12, s13, s14, s15⟩, held, rat⟩ : Hart)), .bool true]) (results_two Try.results13 _ _ (W.heap.size + 1) _ _ rfl (St.res _ W _ _) rfl) rfl ⟨rfl, St.below _ W _ _⟩
set_option maxHeartbeats 1000000 in
theorem rmret_false (h : Hart) (hm : (h.mode != 3) = false) (hq : (rmppV h.c.s0 != 3) = false) (W : World) : Calls Try.prog 13 #[hartV h] W fun e W' => e = .returned (.tuple #[hartV (rmretF h), .bool true]) ∧ Below W.heap.size W W' := by
  obtain ⟨x, hx, pc, mode, ⟨s0, s1, s2, s3, s4, s5, s6, s7, s8, s9, s10, s11, s12, s13, s14, s15⟩, held, rat⟩ := h
  obtain ⟨q, he, h0, h3⟩ := toModeR s0
  have HQ : RowKit.Hid (rmppV s0 = q) := Lib.hid he
  have hw : IntKind.i64.wrap q = q := IntWalk.i64_in _ (by omega)
  have hq2 : (q != 3) = false := by rw [← hq]; exact congrArg (fun z => z != 3) he.symm
  clear hq
  have HQ2 := Lib.hid hq2
  go_enter Try.func13, Try.ntmps13
  go_upto_region 1 with (fail)
  have hst : (W.alloc (hartO (⟨x, hx, pc, mode, ⟨s0, s1, s2, s3, s4, s5, s6, s7, s8, s9, s10, s11, s12, s13, s14, s15⟩, held, rat⟩ : Hart))).alloc zeroO = St 0 W (⟨x, hx, pc, mode, ⟨s0, s1, s2, s3, s4, s5, s6, s7, s8, s9, s10, s11, s12, s13, s14, s15⟩, held, rat⟩ : Hart) zeroC := rfl
  rw [hst]
  clear hst
  go_upto_region 4 with (first | (with_reducible refine wpList_load_by rfl rfl St.load_mode rfl ?_) | (with_reducible refine wpList_load_by rfl rfl St.load_s0 rfl ?_) | (with_reducible refine wpList_load_by rfl rfl (St.load _ _ _ _) rfl ?_) | (with_reducible refine wpList_store_by rfl rfl (St.store _ _ _ _) rfl rfl ?_) | fail)
  refine wp_region_still_tail 8 (by kernel_rfl) (by kernel_rfl) ?_
  simp only [List.take_succ_cons, List.take_zero, List.drop_succ_cons, List.drop_zero]
  have hd : { St 0 W (⟨x, hx, pc, mode, ⟨s0, s1, s2, s3, s4, s5, s6, s7, s8, s9, s10, s11, s12, s13, s14, s15⟩, held, rat⟩ : Hart) zeroC with drawn := (St 0 W (⟨x, hx, pc, mode, ⟨s0, s1, s2, s3, s4, s5, s6, s7, s8, s9, s10, s11, s12, s13, s14, s15⟩, held, rat⟩ : Hart) zeroC).drawn + 1 } = St 1 W (⟨x, hx, pc, mode, ⟨s0, s1, s2, s3, s4, s5, s6, s7, s8, s9, s10, s11, s12, s13, s14, s15⟩, held, rat⟩ : Hart) zeroC := rfl
  rw [hd]
  clear hd
  have m0 : (St 1 W (⟨x, hx, pc, mode, ⟨s0, s1, s2, s3, s4, s5, s6, s7, s8, s9, s10, s11, s12, s13, s14, s15⟩, held, rat⟩ : Hart) zeroC).cell? ⟨W.heap.size, 34, none⟩ = some (.int .u64 s0) := (St.box 1 W _ _).cell 2
  repeat still_step
  still_call ((rbit_7 _ _).mono fun _ _ h => ⟨h.1, h.2.symm⟩)
  repeat still_step
  still_call ((rset_3 _ _ _).mono fun _ _ h => ⟨h.1, h.2.symm⟩)
  repeat still_step
  refine wpStill_nil ?_
  clear m0
  go_wp2_with (first | (with_reducible refine wpList_load_by rfl rfl St.load_mode rfl ?_) | (with_reducible refine wpList_load_by rfl rfl St.load_s0 rfl ?_) | (with_reducible refine wpList_load_by rfl rfl St.load_s7 rfl ?_) | (with_reducible refine wpList_store_by rfl rfl St.store_mode rfl rfl ?_) | (with_reducible refine wpList_store_by rfl rfl St.store_s0 rfl rfl ?_) | (with_reducible refine wpList_store_by rfl rfl St.store_pc rfl rfl ?_) | (with_reducible refine wpList_load_by rfl rfl (St.load _ _ _ _) rfl ?_) | (with_reducible refine wpList_store_by rfl rfl (St.store _ _ _ _) rfl rfl ?_) | (go_at_call 27; (with_reducible refine (rset_7 _ _ _).mono ?_); rintro e w' ⟨rfl, rfl⟩) | (go_at_call 27; (with_reducible refine (rset_17 _ _ _).mono ?_); rintro e w' ⟨rfl, rfl⟩) | fail)
  have hE : rmretF (⟨x, hx, pc, mode, ⟨s0, s1, s2, s3, s4, s5, s6, s7, s8, s9, s10, s11, s12, s13, s14, s15⟩, held, rat⟩ : Hart) = (⟨x, hx, s7, q, ⟨rmretS s0 q, s1, s2, s3, s4, s5, s6, s7, s8, s9, s10, s11, s12, s13, s14, s15⟩, held, rat⟩ : Hart) := by
    unfold rmretF
    rw [show rmppV (⟨x, hx, pc, mode, ⟨s0, s1, s2, s3, s4, s5, s6, s7, s8, s9, s10, s11, s12, s13, s14, s15⟩, held, rat⟩ : Hart).c.s0 = q from HQ.out]
  have hS : rmretS s0 q = rmretA s0 := if_neg (by rw [HQ2.out]; decide)
  rw [hE, hS]
  exact bodyPost_ret (v := .tuple #[hartV ((⟨x, hx, s7, q, ⟨rmretA s0, s1, s2, s3, s4, s5, s6, s7, s8, s9, s10, s11, s12, s13, s14, s15⟩, held, rat⟩ : Hart)), .bool true]) (results_two Try.results13 _ _ (W.heap.size + 1) _ _ rfl (St.res _ W _ _) rfl) rfl ⟨rfl, St.below _ W _ _⟩
set_option maxHeartbeats 1000000 in
theorem rsret_no (h : Hart) (hm : h.mode < 1) (W : World) : Calls Try.prog 15 #[hartV h] W fun e W' => e = .returned (.tuple #[hartV h, .bool false]) ∧ Below W.heap.size W W' := by
  obtain ⟨x, hx, pc, mode, ⟨s0, s1, s2, s3, s4, s5, s6, s7, s8, s9, s10, s11, s12, s13, s14, s15⟩, held, rat⟩ := h
  go_enter Try.func15, Try.ntmps15
  go_upto_region 1 with (fail)
  have hst : (W.alloc (hartO (⟨x, hx, pc, mode, ⟨s0, s1, s2, s3, s4, s5, s6, s7, s8, s9, s10, s11, s12, s13, s14, s15⟩, held, rat⟩ : Hart))).alloc zeroO = St 0 W (⟨x, hx, pc, mode, ⟨s0, s1, s2, s3, s4, s5, s6, s7, s8, s9, s10, s11, s12, s13, s14, s15⟩, held, rat⟩ : Hart) zeroC := rfl
  rw [hst]
  clear hst
  go_wp2_with (first | (with_reducible refine wpList_load_by rfl rfl St.load_mode rfl ?_) | (with_reducible refine wpList_load_by rfl rfl (St.load _ _ _ _) rfl ?_) | (with_reducible refine wpList_store_by rfl rfl (St.store _ _ _ _) rfl rfl ?_) | fail)
  exact bodyPost_ret (v := .tuple #[hartV ((⟨x, hx, pc, mode, ⟨s0, s1, s2, s3, s4, s5, s6, s7, s8, s9, s10, s11, s12, s13, s14, s15⟩, held, rat⟩ : Hart)), .bool false]) (results_two Try.results15 _ _ (W.heap.size + 1) _ _ rfl (St.res _ W _ _) rfl) rfl ⟨rfl, St.below _ W _ _⟩
set_option maxHeartbeats 1000000 in
theorem rsret_true (h : Hart) (hm : ¬ h.mode < 1) (hq : bV h.c.s0 256 = true) (W : World) : Calls Try.prog 15 #[hartV h] W fun e W' => e = .returned (.tuple #[hartV (rsretF h), .bool true]) ∧ Below W.heap.size W W' := by
  obtain ⟨x, hx, pc, mode, ⟨s0, s1, s2, s3, s4, s5, s6, s7, s8, s9, s10, s11, s12, s13, s14, s15⟩, held, rat⟩ := h
  have hq2 : bV s0 256 = true := hq
  have HQ : RowKit.Hid (bV s0 256 = true) := Lib.hid hq
  clear hq
  go_enter Try.func15, Try.ntmps15
  go_upto_region 1 with (fail)
  have hst : (W.alloc (hartO (⟨x, hx, pc, mode, ⟨s0, s1, s2, s3, s4, s5, s6, s7, s8, s9, s10, s11, s12, s13, s14, s15⟩, held, rat⟩ : Hart))).alloc zeroO = St 0 W (⟨x, hx, pc, mode, ⟨s0, s1, s2, s3, s4, s5, s6, s7, s8, s9, s10, s11, s12, s13, s14, s15⟩, held, rat⟩ : Hart) zeroC := rfl
  rw [hst]
  clear hst
  go_upto_region 6 with (first | (with_reducible refine wpList_load_by rfl rfl St.load_mode rfl ?_) | (with_reducible refine wpList_load_by rfl rfl St.load_s0 rfl ?_) | (with_reducible refine wpList_load_by rfl rfl (St.load _ _ _ _) rfl ?_) | (with_reducible refine wpList_store_by rfl rfl (St.store _ _ _ _) rfl rfl ?_) | (go_at_call 26; (with_reducible refine (rbit_8 _ _).mono ?_); rintro e w' ⟨rfl, rfl⟩) | fail)
  refine wp_region_still_tail 8 (by kernel_rfl) (by kernel_rfl) ?_
  simp only [List.take_succ_cons, List.take_zero, List.drop_succ_cons, List.drop_zero]
  have hd : { St 0 W (⟨x, hx, pc, mode, ⟨s0, s1, s2, s3, s4, s5, s6, s7, s8, s9, s10, s11, s12, s13, s14, s15⟩, held, rat⟩ : Hart) zeroC with drawn := (St 0 W (⟨x, hx, pc, mode, ⟨s0, s1, s2, s3, s4, s5, s6, s7, s8, s9, s10, s11, s12, s13, s14, s15⟩, held, rat⟩ : Hart) zeroC).drawn + 1 } = St 1 W (⟨x, hx, pc, mode, ⟨s0, s1, s2, s3, s4, s5, s6, s7, s8, s9, s10, s11, s12, s13, s14, s15⟩, held, rat⟩ : Hart) zeroC := rfl
  rw [hd]
  clear hd
  have m0 : (St 1 W (⟨x, hx, pc, mode, ⟨s0, s1, s2, s3, s4, s5, s6, s7, s8, s9, s10, s11, s12, s13, s14, s15⟩, held, rat⟩ : Hart) zeroC).cell? ⟨W.heap.size, 34, none⟩ = some (.int .u64 s0) := (St.box 1 W _ _).cell 2
  repeat still_step
  still_call ((rbit_5 _ _).mono fun _ _ h => ⟨h.1, h.2.symm⟩)
  repeat still_step
  still_call ((rset_1 _ _ _).mono fun _ _ h => ⟨h.1, h.2.symm⟩)
  repeat still_step
  refine wpStill_nil ?_
  clear m0
  go_wp2_with (first | (with_reducible refine wpList_load_by rfl rfl St.load_mode rfl ?_) | (with_reducible refine wpList_load_by rfl rfl St.load_s0 rfl ?_) | (with_reducible refine wpList_load_by rfl rfl St.load_s12 rfl ?_) | (with_reducible refine wpList_store_by rfl rfl St.store_mode rfl rfl ?_) | (with_reducible refine wpList_store_by rfl rfl St.store_s0 rfl rfl ?_) | (with_reducible refine wpList_store_by rfl rfl St.store_pc rfl rfl ?_) | (with_reducible refine wpList_load_by rfl rfl (St.load _ _ _ _) rfl ?_) | (with_reducible refine wpList_store_by rfl rfl (St.store _ _ _ _) rfl rfl ?_) | (go_at_call 27; (with_reducible refine (rset_5 _ _ _).mono ?_); rintro e w' ⟨rfl, rfl⟩) | (go_at_call 27; (with_reducible refine (rset_8 _ _ _).mono ?_); rintro e w' ⟨rfl, rfl⟩) | (go_at_call 27; (with_reducible refine (rset_17 _ _ _).mono ?_); rintro e w' ⟨rfl, rfl⟩) | fail)
  have hE : rsretF (⟨x, hx, pc, mode, ⟨s0, s1, s2, s3, s4, s5, s6, s7, s8, s9, s10, s11, s12, s13, s14, s15⟩, held, rat⟩ : Hart) = (⟨x, hx, s12, 1, ⟨rsretS s0, s1, s2, s3, s4, s5, s6, s7, s8, s9, s10, s11, s12, s13, s14, s15⟩, held, rat⟩ : Hart) := by
    unfold rsretF
    rw [show bV (⟨x, hx, pc, mode, ⟨s0, s1, s2, s3, s4, s5, s6, s7, s8, s9, s10, s11, s12, s13, s14, s15⟩, held, rat⟩ : Hart).c.s0 256 = true from HQ.out]
    rfl
  rw [hE]
  exact bodyPost_ret (v := .tuple #[hartV ((⟨x, hx, s12, 1, ⟨rsretS s0, s1, s2, s3, s4, s5, s6, s7, s8, s9, s10, s11, s12, s13, s14, s15⟩, held, rat⟩ : Hart)), .bool true]) (results_two Try.results15 _ _ (W.heap.size + 1) _ _ rfl (St.res _ W _ _) rfl) rfl ⟨rfl, St.below _ W _ _⟩
set_option maxHeartbeats 1000000 in
theorem rsret_false (h : Hart) (hm : ¬ h.mode < 1) (hq : bV h.c.s0 256 = false) (W : World) : Calls Try.prog 15 #[hartV h] W fun e W' => e = .returned (.tuple #[hartV (rsretF h), .bool true]) ∧ Below W.heap.size W W' := by
  obtain ⟨x, hx, pc, mode, ⟨s0, s1, s2, s3, s4, s5, s6, s7, s8, s9, s10, s11, s12, s13, s14, s15⟩, held, rat⟩ := h
  have hq2 : bV s0 256 = false := hq
  have HQ : RowKit.Hid (bV s0 256 = false) := Lib.hid hq
  clear hq
  go_enter Try.func15, Try.ntmps15
  go_upto_region 1 with (fail)
  have hst : (W.alloc (hartO (⟨x, hx, pc, mode, ⟨s0, s1, s2, s3, s4, s5, s6, s7, s8, s9, s10, s11, s12, s13, s14, s15⟩, held, rat⟩ : Hart))).alloc zeroO = St 0 W (⟨x, hx, pc, mode, ⟨s0, s1, s2, s3, s4, s5, s6, s7, s8, s9, s10, s11, s12, s13, s14, s15⟩, held, rat⟩ : Hart) zeroC := rfl
  rw [hst]
  clear hst
  go_upto_region 6 with (first | (with_reducible refine wpList_load_by rfl rfl St.load_mode rfl ?_) | (with_reducible refine wpList_load_by rfl rfl St.load_s0 rfl ?_) | (with_reducible refine wpList_load_by rfl rfl (St.load _ _ _ _) rfl ?_) | (with_reducible refine wpList_store_by rfl rfl (St.store _ _ _ _) rfl rfl ?_) | (go_at_call 26; (with_reducible refine (rbit_8 _ _).mono ?_); rintro e w' ⟨rfl, rfl⟩) | fail)
  refine wp_region_still_tail 8 (by kernel_rfl) (by kernel_rfl) ?_
  simp only [List.take_succ_cons, List.take_zero, List.drop_succ_cons, List.drop_zero]
  have hd : { St 0 W (⟨x, hx, pc, mode, ⟨s0, s1, s2, s3, s4, s5, s6, s7, s8, s9, s10, s11, s12, s13, s14, s15⟩, held, rat⟩ : Hart) zeroC with drawn := (St 0 W (⟨x, hx, pc, mode, ⟨s0, s1, s2, s3, s4, s5, s6, s7, s8, s9, s10, s11, s12, s13, s14, s15⟩, held, rat⟩ : Hart) zeroC).drawn + 1 } = St 1 W (⟨x, hx, pc, mode, ⟨s0, s1, s2, s3, s4, s5, s6, s7, s8, s9, s10, s11, s12, s13, s14, s15⟩, held, rat⟩ : Hart) zeroC := rfl
  rw [hd]
  clear hd
  have m0 : (St 1 W (⟨x, hx, pc, mode, ⟨s0, s1, s2, s3, s4, s5, s6, s7, s8, s9, s10, s11, s12, s13, s14, s15⟩, held, rat⟩ : Hart) zeroC).cell? ⟨W.heap.size, 34, none⟩ = some (.int .u64 s0) := (St.box 1 W _ _).cell 2
  repeat still_step
  still_call ((rbit_5 _ _).mono fun _ _ h => ⟨h.1, h.2.symm⟩)
  repeat still_step
  still_call ((rset_1 _ _ _).mono fun _ _ h => ⟨h.1, h.2.symm⟩)
  repeat still_step
  refine wpStill_nil ?_
  clear m0
  go_wp2_with (first | (with_reducible refine wpList_load_by rfl rfl St.load_mode rfl ?_) | (with_reducible refine wpList_load_by rfl rfl St.load_s0 rfl ?_) | (with_reducible refine wpList_load_by rfl rfl St.load_s12 rfl ?_) | (with_reducible refine wpList_store_by rfl rfl St.store_mode rfl rfl ?_) | (with_reducible refine wpList_store_by rfl rfl St.store_s0 rfl rfl ?_) | (with_reducible refine wpList_store_by rfl rfl St.store_pc rfl rfl ?_) | (with_reducible refine wpList_load_by rfl rfl (St.load _ _ _ _) rfl ?_) | (with_reducible refine wpList_store_by rfl rfl (St.store _ _ _ _) rfl rfl ?_) | (go_at_call 27; (with_reducible refine (rset_5 _ _ _).mono ?_); rintro e w' ⟨rfl, rfl⟩) | (go_at_call 27; (with_reducible refine (rset_8 _ _ _).mono ?_); rintro e w' ⟨rfl, rfl⟩) | (go_at_call 27; (with_reducible refine (rset_17 _ _ _).mono ?_); rintro e w' ⟨rfl, rfl⟩) | fail)
  have hE : rsretF (⟨x, hx, pc, mode, ⟨s0, s1, s2, s3, s4, s5, s6, s7, s8, s9, s10, s11, s12, s13, s14, s15⟩, held, rat⟩ : Hart) = (⟨x, hx, s12, 0, ⟨rsretS s0, s1, s2, s3, s4, s5, s6, s7, s8, s9, s10, s11, s12, s13, s14, s15⟩, held, rat⟩ : Hart) := by
    unfold rsretF
    rw [show bV (⟨x, hx, pc, mode, ⟨s0, s1, s2, s3, s4, s5, s6, s7, s8, s9, s10, s11, s12, s13, s14, s15⟩, held, rat⟩ : Hart).c.s0 256 = false from HQ.out]
    rfl
  rw [hE]
  exact bodyPost_ret (v := .tuple #[hartV ((⟨x, hx, s12, 0, ⟨rsretS s0, s1, s2, s3, s4, s5, s6, s7, s8, s9, s10, s11, s12, s13, s14, s15⟩, held, rat⟩ : Hart)), .bool true]) (results_two Try.results15 _ _ (W.heap.size + 1) _ _ rfl (St.res _ W _ _) rfl) rfl ⟨rfl, St.below _ W _ _⟩

end Go.Proofs.Ytbdoiomnoajnpaa
