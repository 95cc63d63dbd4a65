/- The reference tells which interrupts may come. -/
import Derived.Test.YtbdoiomnoajnpaaC
import Derived.Deep.QuietTactic
namespace Go.Proofs.Ytbdoiomnoajnpaa
open Go.RowKit Go.Deep Go.Joins
set_option maxHeartbeats 1000000 in
theorem allow_at (h : Hart) (l : Int) (hm : h.mode = 3) (hb : bV h.c.s0 8 = true) (W : World) : Calls Try.prog 21 #[hartV h, .int .u64 l] W fun e W' => e = .returned (.tuple #[.int .u64 (topV h l), .int .u64 (0)]) ∧ Below W.heap.size W W' := by
  have m_s0 : (hartC h)[34]? = some (.int .u64 h.c.s0) := hartC_tail h 2
  have m_s2 : (hartC h)[36]? = some (.int .u64 h.c.s2) := hartC_tail h 4
  have m_s3 : (hartC h)[37]? = some (.int .u64 h.c.s3) := hartC_tail h 5
  have m_s4 : (hartC h)[38]? = some (.int .u64 h.c.s4) := hartC_tail h 6
  have m_mode : (hartC h)[33]? = some (.int .i64 3) := (hartC_tail h 1).trans (by show some (Value.int .i64 h.mode) = _; rw [hm])
  clear hm
  go_enter Try.func21, Try.ntmps21
  go_upto_region 2 with (fail)
  go_quiet (fail)
  go_wp2_with (first | (go_at_call 26; (with_reducible refine (rbit_3 _ _).mono ?_); rintro e w' ⟨rfl, rfl⟩) | (go_at_call 26; (with_reducible refine (rbit_1 _ _).mono ?_); rintro e w' ⟨rfl, rfl⟩) | fail)
  go_ret2
  exact ⟨rfl, below_drewN ((Below.refl _ _).alloc (Nat.le_refl _) _) _⟩
set_option maxHeartbeats 1000000 in
theorem allow_af (h : Hart) (l : Int) (hm : h.mode = 3) (hb : bV h.c.s0 8 = false) (W : World) : Calls Try.prog 21 #[hartV h, .int .u64 l] W fun e W' => e = .returned (.tuple #[.int .u64 (0), .int .u64 (0)]) ∧ Below W.heap.size W W' := by
  have m_s0 : (hartC h)[34]? = some (.int .u64 h.c.s0) := hartC_tail h 2
  have m_s2 : (hartC h)[36]? = some (.int .u64 h.c.s2) := hartC_tail h 4
  have m_s3 : (hartC h)[37]? = some (.int .u64 h.c.s3) := hartC_tail h 5
  have m_s4 : (hartC h)[38]? = some (.int .u64 h.c.s4) := hartC_tail h 6
  have m_mode : (hartC h)[33]? = some (.int .i64 3) := (hartC_tail h 1).trans (by show some (Value.int .i64 h.mode) = _; rw [hm])
  clear hm
  go_enter Try.func21, Try.ntmps21
  go_upto_region 2 with (fail)
  go_quiet (fail)
  go_wp2_with (first | (go_at_call 26; (with_reducible refine (rbit_3 _ _).mono ?_); rintro e w' ⟨rfl, rfl⟩) | (go_at_call 26; (with_reducible refine (rbit_1 _ _).mono ?_); rintro e w' ⟨rfl, rfl⟩) | fail)
  go_ret2
  exact ⟨rfl, below_drewN ((Below.refl _ _).alloc (Nat.le_refl _) _) _⟩
set_option maxHeartbeats 1000000 in
theorem allow_b (h : Hart) (l : Int) (hm : ¬ h.mode = 3) (h1 : 1 < h.mode) (W : World) : Calls Try.prog 21 #[hartV h, .int .u64 l] W fun e W' => e = .returned (.tuple #[.int .u64 (topV h l), .int .u64 (0)]) ∧ Below W.heap.size W W' := by
  have m_s0 : (hartC h)[34]? = some (.int .u64 h.c.s0) := hartC_tail h 2
  have m_s2 : (hartC h)[36]? = some (.int .u64 h.c.s2) := hartC_tail h 4
  have m_s3 : (hartC h)[37]? = some (.int .u64 h.c.s3) := hartC_tail h 5
  have m_s4 : (hartC h)[38]? = some (.int .u64 h.c.s4) := hartC_tail h 6
  have hx3 : (h.mode == 3) = false := by simpa using hm
  have m_mode : (hartC h)[33]? = some (.int .i64 h.mode) := hartC_tail h 1
  go_enter Try.func21, Try.ntmps21
  go_upto_region 2 with (fail)
  go_quiet (fail)
  go_wp2_with (first | (go_at_call 26; (with_reducible refine (rbit_3 _ _).mono ?_); rintro e w' ⟨rfl, rfl⟩) | (go_at_call 26; (with_reducible refine (rbit_1 _ _).mono ?_); rintro e w' ⟨rfl, rfl⟩) | fail)
  go_ret2
  exact ⟨rfl, below_drewN ((Below.refl _ _).alloc (Nat.le_refl _) _) _⟩
set_option maxHeartbeats 1000000 in
theorem allow_ct (h : Hart) (l : Int) (hm : h.mode = 1) (hb : bV h.c.s0 2 = true) (W : World) : Calls Try.prog 21 #[hartV h, .int .u64 l] W fun e W' => e = .returned (.tuple #[.int .u64 (topV h l), .int .u64 (lowV h l)]) ∧ Below W.heap.size W W' := by
  have m_s0 : (hartC h)[34]? = some (.int .u64 h.c.s0) := hartC_tail h 2
  have m_s2 : (hartC h)[36]? = some (.int .u64 h.c.s2) := hartC_tail h 4
  have m_s3 : (hartC h)[37]? = some (.int .u64 h.c.s3) := hartC_tail h 5
  have m_s4 : (hartC h)[38]? = some (.int .u64 h.c.s4) := hartC_tail h 6
  have m_mode : (hartC h)[33]? = some (.int .i64 1) := (hartC_tail h 1).trans (by show some (Value.int .i64 h.mode) = _; rw [hm])
  clear hm
  go_enter Try.func21, Try.ntmps21
  go_upto_region 2 with (fail)
  go_quiet (fail)
  go_wp2_with (first | (go_at_call 26; (with_reducible refine (rbit_3 _ _).mono ?_); rintro e w' ⟨rfl, rfl⟩) | (go_at_call 26; (with_reducible refine (rbit_1 _ _).mono ?_); rintro e w' ⟨rfl, rfl⟩) | fail)
  go_ret2
  exact ⟨rfl, below_drewN ((Below.refl _ _).alloc (Nat.le_refl _) _) _⟩
set_option maxHeartbeats 1000000 in
theorem allow_cf (h : Hart) (l : Int) (hm : h.mode = 1) (hb : bV h.c.s0 2 = false) (W : World) : Calls Try.prog 21 #[hartV h, .int .u64 l] W fun e W' => e = .returned (.tuple #[.int .u64 (topV h l), .int .u64 (0)]) ∧ Below W.heap.size W W' := by
  have m_s0 : (hartC h)[34]? = some (.int .u64 h.c.s0) := hartC_tail h 2
  have m_s2 : (hartC h)[36]? = some (.int .u64 h.c.s2) := hartC_tail h 4
  have m_s3 : (hartC h)[37]? = some (.int .u64 h.c.s3) := hartC_tail h 5
  have m_s4 : (hartC h)[38]? = some (.int .u64 h.c.s4) := hartC_tail h 6
  have m_mode : (hartC h)[33]? = some (.int .i64 1) := (hartC_tail h 1).trans (by show some (Value.int .i64 h.mode) = _; rw [hm])
  clear hm
  go_enter Try.func21, Try.ntmps21
  go_upto_region 2 with (fail)
  go_quiet (fail)
  go_wp2_with (first | (go_at_call 26; (with_reducible refine (rbit_3 _ _).mono ?_); rintro e w' ⟨rfl, rfl⟩) | (go_at_call 26; (with_reducible refine (rbit_1 _ _).mono ?_); rintro e w' ⟨rfl, rfl⟩) | fail)
  go_ret2
  exact ⟨rfl, below_drewN ((Below.refl _ _).alloc (Nat.le_refl _) _) _⟩
set_option maxHeartbeats 1000000 in
theorem allow_d (h : Hart) (l : Int) (hm : h.mode < 1) (W : World) : Calls Try.prog 21 #[hartV h, .int .u64 l] W fun e W' => e = .returned (.tuple #[.int .u64 (topV h l), .int .u64 (lowV h l)]) ∧ Below W.heap.size W W' := by
  have m_s0 : (hartC h)[34]? = some (.int .u64 h.c.s0) := hartC_tail h 2
  have m_s2 : (hartC h)[36]? = some (.int .u64 h.c.s2) := hartC_tail h 4
  have m_s3 : (hartC h)[37]? = some (.int .u64 h.c.s3) := hartC_tail h 5
  have m_s4 : (hartC h)[38]? = some (.int .u64 h.c.s4) := hartC_tail h 6
  have hx3 : (h.mode == 3) = false := by simp; omega
  have hx1 : (h.mode == 1) = false := by simp; omega
  have hx2 : ¬ 1 < h.mode := by omega
  have m_mode : (hartC h)[33]? = some (.int .i64 h.mode) := hartC_tail h 1
  go_enter Try.func21, Try.ntmps21
  go_upto_region 2 with (fail)
  go_quiet (fail)
  go_wp2_with (first | (go_at_call 26; (with_reducible refine (rbit_3 _ _).mono ?_); rintro e w' ⟨rfl, rfl⟩) | (go_at_call 26; (with_reducible refine (rbit_1 _ _).mono ?_); rintro e w' ⟨rfl, rfl⟩) | fail)
  go_ret2
  exact ⟨rfl, below_drewN ((Below.refl _ _).alloc (Nat.le_refl _) _) _⟩

end Go.Proofs.Ytbdoiomnoajnpaa
