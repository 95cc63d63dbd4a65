/- The program: registers and numbers of a word. -/
import Derived.Test.YtnbpadnbmbdfeaaDoorA
namespace Go.Proofs.YtnbpadnbmbdfeaaDoor
open Go.RowKit Go.Deep Go.Joins
set_option maxHeartbeats 400000 in
theorem rd_any (w : Nat) (W : World) :
    Calls Tryd.prog 40 #[.int .u32 w] W fun e W' => e = .returned (.int .i64 (cutN w 7 5 : Nat)) ∧ W = W' := by
  have h := lt_7_5 w
  go_enter Tryd.func40, Tryd.ntmps40
  go_wp2_with (first | (go_at_call 24; (first | (with_reducible refine (bits_11_7 w _).mono ?_) | fail); rintro e w' ⟨rfl, rfl⟩) | fail)
  go_ret
  exact ⟨rfl, rfl⟩
set_option maxHeartbeats 400000 in
theorem rs1_any (w : Nat) (W : World) :
    Calls Tryd.prog 42 #[.int .u32 w] W fun e W' => e = .returned (.int .i64 (cutN w 15 5 : Nat)) ∧ W = W' := by
  have h := lt_15_5 w
  go_enter Tryd.func42, Tryd.ntmps42
  go_wp2_with (first | (go_at_call 24; (first | (with_reducible refine (bits_19_15 w _).mono ?_) | fail); rintro e w' ⟨rfl, rfl⟩) | fail)
  go_ret
  exact ⟨rfl, rfl⟩
set_option maxHeartbeats 400000 in
theorem rs2_any (w : Nat) (W : World) :
    Calls Tryd.prog 43 #[.int .u32 w] W fun e W' => e = .returned (.int .i64 (cutN w 20 5 : Nat)) ∧ W = W' := by
  have h := lt_20_5 w
  go_enter Tryd.func43, Tryd.ntmps43
  go_wp2_with (first | (go_at_call 24; (first | (with_reducible refine (bits_24_20 w _).mono ?_) | fail); rintro e w' ⟨rfl, rfl⟩) | fail)
  go_ret
  exact ⟨rfl, rfl⟩
set_option maxHeartbeats 400000 in
theorem sign_any (w : Nat) (W : World) :
    Calls Tryd.prog 41 #[.int .u32 w] W fun e W' => e = .returned (.int .i64 (-(cutN w 31 1 : Nat))) ∧ W = W' := by
  have h := lt_31_1 w
  go_enter Tryd.func41, Tryd.ntmps41
  go_wp2_with (first | (go_at_call 24; (first | (with_reducible refine (bits_31_31 w _).mono ?_) | fail); rintro e w' ⟨rfl, rfl⟩) | fail)
  go_ret
  exact ⟨rfl, rfl⟩

def immI (w : Nat) : Int := (cutN w 20 12 : Nat) - 4096 * (cutN w 31 1 : Nat)
def immS (w : Nat) : Int := (cutN w 25 7 * 32 + cutN w 7 5 : Nat) - 4096 * (cutN w 31 1 : Nat)
def immB (w : Nat) : Int := (cutN w 7 1 * 2048 + cutN w 25 6 * 32 + cutN w 8 4 * 2 : Nat) - 4096 * (cutN w 31 1 : Nat)
def immU (w : Nat) : Int := (cutN w 12 20 * 4096 : Nat) - 4294967296 * (cutN w 31 1 : Nat)
def immJ (w : Nat) : Int := (cutN w 12 8 * 4096 + cutN w 20 1 * 2048 + cutN w 21 10 * 2 : Nat) - 1048576 * (cutN w 31 1 : Nat)
set_option maxHeartbeats 400000 in
theorem numI_any (w : Nat) (W : World) :
    Calls Tryd.prog 29 #[.int .u32 w] W fun e W' => e = .returned (.int .i64 (immI w)) ∧ W = W' := by
  have h1 := lt_31_1 w
  have h2 := lt_20_12 w
  go_enter Tryd.func29, Tryd.ntmps29
  go_wp2_with (first | (go_at_call 41; (first | (with_reducible refine (sign_any w _).mono ?_) | fail); rintro e w' ⟨rfl, rfl⟩) | (go_at_call 24; (first | (with_reducible refine (bits_31_20 w _).mono ?_) | fail); rintro e w' ⟨rfl, rfl⟩) | fail)
  go_ret
  refine ⟨ret_int ?_, rfl⟩
  exact sgn_or 12 (by omega) (by omega) (by omega)
set_option maxHeartbeats 400000 in
theorem numS_any (w : Nat) (W : World) :
    Calls Tryd.prog 32 #[.int .u32 w] W fun e W' => e = .returned (.int .i64 (immS w)) ∧ W = W' := by
  have h1 := lt_31_1 w
  have h2 := lt_25_7 w
  have h3 := lt_7_5 w
  go_enter Tryd.func32, Tryd.ntmps32
  go_wp2_with (first | (go_at_call 41; (first | (with_reducible refine (sign_any w _).mono ?_) | fail); rintro e w' ⟨rfl, rfl⟩) | (go_at_call 24; (first | (with_reducible refine (bits_31_25 w _).mono ?_) | (with_reducible refine (bits_11_7 w _).mono ?_) | fail); rintro e w' ⟨rfl, rfl⟩) | fail)
  go_ret
  refine ⟨ret_int ?_, rfl⟩
  have e1 : bits .or .u32 ((cutN w 25 7 : Nat) * 32) ((cutN w 7 5 : Nat)) = ((cutN w 25 7 * 32 + cutN w 7 5) : Nat) := by have h := or_u32 (a := cutN w 25 7) (b := cutN w 7 5) 5 (by omega) (by omega); simpa using h
  rw [e1, IntWalk.wrap64_in _ (by omega)]
  exact sgn_or 12 (by omega) (by omega) (by omega)
set_option maxHeartbeats 400000 in
theorem numB_any (w : Nat) (W : World) :
    Calls Tryd.prog 31 #[.int .u32 w] W fun e W' => e = .returned (.int .i64 (immB w)) ∧ W = W' := by
  have h1 := lt_31_1 w
  have h2 := lt_7_1 w
  have h3 := lt_25_6 w
  have h4 := lt_8_4 w
  go_enter Tryd.func31, Tryd.ntmps31
  go_wp2_with (first | (go_at_call 41; (first | (with_reducible refine (sign_any w _).mono ?_) | fail); rintro e w' ⟨rfl, rfl⟩) | (go_at_call 24; (first | (with_reducible refine (bits_7_7 w _).mono ?_) | (with_reducible refine (bits_30_25 w _).mono ?_) | (with_reducible refine (bits_11_8 w _).mono ?_) | fail); rintro e w' ⟨rfl, rfl⟩) | fail)
  go_ret
  refine ⟨ret_int ?_, rfl⟩
  have e1 : bits .or .u32 ((cutN w 7 1 : Nat) * 2048) ((cutN w 25 6 : Nat) * 32) = ((cutN w 7 1 * 2048 + cutN w 25 6 * 32 : Nat) : Int) := by have h := or_u32 (a := cutN w 7 1) (b := cutN w 25 6 * 32) 11 (by omega) (by omega); simpa using h
  have e2 : bits .or .u32 ((cutN w 7 1 * 2048 + cutN w 25 6 * 32 : Nat) : Int) ((cutN w 8 4 : Nat) * 2) = ((cutN w 7 1 * 2048 + cutN w 25 6 * 32 + cutN w 8 4 * 2 : Nat) : Int) := by
    have h := or_u32 (a := cutN w 7 1 * 64 + cutN w 25 6) (b := cutN w 8 4 * 2) 5 (by omega) (by omega)
    have e : (cutN w 7 1 * 64 + cutN w 25 6) * 2 ^ 5 = cutN w 7 1 * 2048 + cutN w 25 6 * 32 := by omega
    rw [e] at h
    simpa using h
  rw [e1, e2, IntWalk.wrap64_in _ (by omega)]
  exact sgn_or 12 (by omega) (by omega) (by omega)
set_option maxHeartbeats 400000 in
theorem numU_any (w : Nat) (W : World) :
    Calls Tryd.prog 26 #[.int .u32 w] W fun e W' => e = .returned (.int .i64 (immU w)) ∧ W = W' := by
  have h1 := lt_31_1 w
  have h2 := lt_12_20 w
  go_enter Tryd.func26, Tryd.ntmps26
  go_wp2_with (first | (go_at_call 41; (first | (with_reducible refine (sign_any w _).mono ?_) | fail); rintro e w' ⟨rfl, rfl⟩) | (go_at_call 24; (first | (with_reducible refine (bits_31_12 w _).mono ?_) | fail); rintro e w' ⟨rfl, rfl⟩) | fail)
  go_ret
  refine ⟨ret_int ?_, rfl⟩
  have h := sgn_or (s := cutN w 31 1) (f := cutN w 12 20 * 4096) 32 (by omega) (by omega) (by omega)
  rw [Int.natCast_mul] at h
  exact h
set_option maxHeartbeats 400000 in
theorem numJ_any (w : Nat) (W : World) :
    Calls Tryd.prog 27 #[.int .u32 w] W fun e W' => e = .returned (.int .i64 (immJ w)) ∧ W = W' := by
  have h1 := lt_31_1 w
  have h2 := lt_12_8 w
  have h3 := lt_20_1 w
  have h4 := lt_21_10 w
  go_enter Tryd.func27, Tryd.ntmps27
  go_wp2_with (first | (go_at_call 41; (first | (with_reducible refine (sign_any w _).mono ?_) | fail); rintro e w' ⟨rfl, rfl⟩) | (go_at_call 24; (first | (with_reducible refine (bits_19_12 w _).mono ?_) | (with_reducible refine (bits_20_20 w _).mono ?_) | (with_reducible refine (bits_30_21 w _).mono ?_) | fail); rintro e w' ⟨rfl, rfl⟩) | fail)
  go_ret
  refine ⟨ret_int ?_, rfl⟩
  have e1 : bits .or .u32 ((cutN w 12 8 : Nat) * 4096) ((cutN w 20 1 : Nat) * 2048) = ((cutN w 12 8 * 4096 + cutN w 20 1 * 2048 : Nat) : Int) := by have h := or_u32 (a := cutN w 12 8) (b := cutN w 20 1 * 2048) 12 (by omega) (by omega); simpa using h
  have e2 : bits .or .u32 ((cutN w 12 8 * 4096 + cutN w 20 1 * 2048 : Nat) : Int) ((cutN w 21 10 : Nat) * 2) = ((cutN w 12 8 * 4096 + cutN w 20 1 * 2048 + cutN w 21 10 * 2 : Nat) : Int) := by
    have h := or_u32 (a := cutN w 12 8 * 2 + cutN w 20 1) (b := cutN w 21 10 * 2) 11 (by omega) (by omega)
    have e : (cutN w 12 8 * 2 + cutN w 20 1) * 2 ^ 11 = cutN w 12 8 * 4096 + cutN w 20 1 * 2048 := by omega
    rw [e] at h
    simpa using h
  rw [e1, e2, IntWalk.wrap64_in _ (by omega)]
  exact sgn_or 20 (by omega) (by omega) (by omega)

end Go.Proofs.YtnbpadnbmbdfeaaDoor
