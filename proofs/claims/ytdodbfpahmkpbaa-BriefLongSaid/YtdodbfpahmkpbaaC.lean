/- The program: the word of a short one. -/
import Derived.Test.YtdodbfpahmkpbaaB
namespace Go.Proofs.Ytdodbfpahmkpbaa
open Go.RowKit Go.Deep Go.Joins
def word0N (h : Nat) : Nat := (bif Nat.beq (cutN h 13 3) 0 then (bif Nat.beq (stackPlaceN h) 0 then 0 else (formIN (stackPlaceN h) 2 0 (smallSecondN h) 19)) else (bif Nat.beq (cutN h 13 3) 2 then (formIN (placeOfWordN h) (smallFirstN h) 2 (smallSecondN h) 3) else (bif Nat.beq (cutN h 13 3) 3 then (formIN (placeOfDoubleN h) (smallFirstN h) 3 (smallSecondN h) 3) else (bif Nat.beq (cutN h 13 3) 6 then (formSN (placeOfWordN h) (smallSecondN h) (smallFirstN h) 2 35) else (bif Nat.beq (cutN h 13 3) 7 then (formSN (placeOfDoubleN h) (smallSecondN h) (smallFirstN h) 3 35) else 0)))))
set_option maxHeartbeats 1000000 in
theorem word0_0_y (h : Nat) (W : World) (h0 : (cutN h 13 3) = 0) (h1 : (stackPlaceN h) = 0) : Calls Try.prog 30 #[.int .u32 (h : Nat)] W fun e W' => e = .returned (.int .u32 0) ∧ W = W' := by
  have c0 : ∀ W, Calls Try.prog 43 #[.int .u32 ((h : Nat) : Int)] W fun e W' => e = .returned (.int .u32 (((smallFirstN h) : Nat) : Int)) ∧ W = W' := fun W => smallFirst_any h W
  have c1 : ∀ W, Calls Try.prog 44 #[.int .u32 ((h : Nat) : Int)] W fun e W' => e = .returned (.int .u32 (((smallSecondN h) : Nat) : Int)) ∧ W = W' := fun W => smallSecond_any h W
  have c2 : ∀ W, Calls Try.prog 29 #[.int .u32 ((h : Nat) : Int), .int .u64 15, .int .u64 13] W fun e W' => e = .returned (.int .u32 0) ∧ W = W' := fun W => by
    have h := bits_gen h 15 13 W (by omega) (by omega)
    rw [h0] at h
    exact h
  have c3 : ∀ W, Calls Try.prog 45 #[.int .u32 ((h : Nat) : Int)] W fun e W' => e = .returned (.int .u32 (((stackPlaceN h) : Nat) : Int)) ∧ W = W' := fun W => stackPlace_any h W
  have p1 : (((((stackPlaceN h) : Nat) : Int) : Int) == 0) = true := by rw [beq_iff_eq]; rw [h1]; rfl
  have q1 : (((((stackPlaceN h) : Nat) : Int) : Int) != 0) = false := by rw [bne, p1]; rfl
  go_enter Try.func30, Try.ntmps30
  go_wp2_with (first | (go_at_call 43; (with_reducible refine (c0 _).mono ?_); rintro e w' ⟨rfl, rfl⟩) | (go_at_call 44; (with_reducible refine (c1 _).mono ?_); rintro e w' ⟨rfl, rfl⟩) | (go_at_call 29; (with_reducible refine (c2 _).mono ?_); rintro e w' ⟨rfl, rfl⟩) | (go_at_call 45; (with_reducible refine (c3 _).mono ?_); rintro e w' ⟨rfl, rfl⟩) | fail)
  go_ret
  exact ⟨rfl, rfl⟩
set_option maxHeartbeats 1000000 in
theorem word0_0_n (h : Nat) (W : World) (h0 : (cutN h 13 3) = 0) (h1 : (stackPlaceN h) ≠ 0) : Calls Try.prog 30 #[.int .u32 (h : Nat)] W fun e W' => e = .returned (.int .u32 (((formIN (stackPlaceN h) 2 0 (smallSecondN h) 19) : Nat) : Int)) ∧ W = W' := by
  have c0 : ∀ W, Calls Try.prog 43 #[.int .u32 ((h : Nat) : Int)] W fun e W' => e = .returned (.int .u32 (((smallFirstN h) : Nat) : Int)) ∧ W = W' := fun W => smallFirst_any h W
  have c1 : ∀ W, Calls Try.prog 44 #[.int .u32 ((h : Nat) : Int)] W fun e W' => e = .returned (.int .u32 (((smallSecondN h) : Nat) : Int)) ∧ W = W' := fun W => smallSecond_any h W
  have c2 : ∀ W, Calls Try.prog 29 #[.int .u32 ((h : Nat) : Int), .int .u64 15, .int .u64 13] W fun e W' => e = .returned (.int .u32 0) ∧ W = W' := fun W => by
    have h := bits_gen h 15 13 W (by omega) (by omega)
    rw [h0] at h
    exact h
  have c3 : ∀ W, Calls Try.prog 45 #[.int .u32 ((h : Nat) : Int)] W fun e W' => e = .returned (.int .u32 (((stackPlaceN h) : Nat) : Int)) ∧ W = W' := fun W => stackPlace_any h W
  have c4 : ∀ W, Calls Try.prog 46 #[.int .u32 (((stackPlaceN h) : Nat) : Int), .int .u32 2, .int .u32 0, .int .u32 (((smallSecondN h) : Nat) : Int), .int .u32 19] W fun e W' => e = .returned (.int .u32 (((formIN (stackPlaceN h) 2 0 (smallSecondN h) 19) : Nat) : Int)) ∧ W = W' := fun W => formI_any (stackPlaceN h) 2 0 (smallSecondN h) 19 W
  have p1 : (((((stackPlaceN h) : Nat) : Int) : Int) == 0) = false := by rw [beq_eq_false_iff_ne]; omega
  have q1 : (((((stackPlaceN h) : Nat) : Int) : Int) != 0) = true := by rw [bne, p1]; rfl
  go_enter Try.func30, Try.ntmps30
  go_wp2_with (first | (go_at_call 43; (with_reducible refine (c0 _).mono ?_); rintro e w' ⟨rfl, rfl⟩) | (go_at_call 44; (with_reducible refine (c1 _).mono ?_); rintro e w' ⟨rfl, rfl⟩) | (go_at_call 29; (with_reducible refine (c2 _).mono ?_); rintro e w' ⟨rfl, rfl⟩) | (go_at_call 45; (with_reducible refine (c3 _).mono ?_); rintro e w' ⟨rfl, rfl⟩) | (go_at_call 46; (with_reducible refine (c4 _).mono ?_); rintro e w' ⟨rfl, rfl⟩) | fail)
  go_ret
  refine ⟨ret_int ?_, rfl⟩
  first | rfl | (simp only [nats]; rfl)
set_option maxHeartbeats 1000000 in
theorem word0_1 (h : Nat) (W : World) (h0 : (cutN h 13 3) = 1) : Calls Try.prog 30 #[.int .u32 (h : Nat)] W fun e W' => e = .returned (.int .u32 0) ∧ W = W' := by
  have c0 : ∀ W, Calls Try.prog 43 #[.int .u32 ((h : Nat) : Int)] W fun e W' => e = .returned (.int .u32 (((smallFirstN h) : Nat) : Int)) ∧ W = W' := fun W => smallFirst_any h W
  have c1 : ∀ W, Calls Try.prog 44 #[.int .u32 ((h : Nat) : Int)] W fun e W' => e = .returned (.int .u32 (((smallSecondN h) : Nat) : Int)) ∧ W = W' := fun W => smallSecond_any h W
  have c2 : ∀ W, Calls Try.prog 29 #[.int .u32 ((h : Nat) : Int), .int .u64 15, .int .u64 13] W fun e W' => e = .returned (.int .u32 1) ∧ W = W' := fun W => by
    have h := bits_gen h 15 13 W (by omega) (by omega)
    rw [h0] at h
    exact h
  go_enter Try.func30, Try.ntmps30
  go_wp2_with (first | (go_at_call 43; (with_reducible refine (c0 _).mono ?_); rintro e w' ⟨rfl, rfl⟩) | (go_at_call 44; (with_reducible refine (c1 _).mono ?_); rintro e w' ⟨rfl, rfl⟩) | (go_at_call 29; (with_reducible refine (c2 _).mono ?_); rintro e w' ⟨rfl, rfl⟩) | fail)
  go_ret
  exact ⟨rfl, rfl⟩
set_option maxHeartbeats 1000000 in
theorem word0_2 (h : Nat) (W : World) (h0 : (cutN h 13 3) = 2) : Calls Try.prog 30 #[.int .u32 (h : Nat)] W fun e W' => e = .returned (.int .u32 (((formIN (placeOfWordN h) (smallFirstN h) 2 (smallSecondN h) 3) : Nat) : Int)) ∧ W = W' := by
  have c0 : ∀ W, Calls Try.prog 43 #[.int .u32 ((h : Nat) : Int)] W fun e W' => e = .returned (.int .u32 (((smallFirstN h) : Nat) : Int)) ∧ W = W' := fun W => smallFirst_any h W
  have c1 : ∀ W, Calls Try.prog 44 #[.int .u32 ((h : Nat) : Int)] W fun e W' => e = .returned (.int .u32 (((smallSecondN h) : Nat) : Int)) ∧ W = W' := fun W => smallSecond_any h W
  have c2 : ∀ W, Calls Try.prog 29 #[.int .u32 ((h : Nat) : Int), .int .u64 15, .int .u64 13] W fun e W' => e = .returned (.int .u32 2) ∧ W = W' := fun W => by
    have h := bits_gen h 15 13 W (by omega) (by omega)
    rw [h0] at h
    exact h
  have c3 : ∀ W, Calls Try.prog 47 #[.int .u32 ((h : Nat) : Int)] W fun e W' => e = .returned (.int .u32 (((placeOfWordN h) : Nat) : Int)) ∧ W = W' := fun W => placeOfWord_any h W
  have c4 : ∀ W, Calls Try.prog 46 #[.int .u32 (((placeOfWordN h) : Nat) : Int), .int .u32 (((smallFirstN h) : Nat) : Int), .int .u32 2, .int .u32 (((smallSecondN h) : Nat) : Int), .int .u32 3] W fun e W' => e = .returned (.int .u32 (((formIN (placeOfWordN h) (smallFirstN h) 2 (smallSecondN h) 3) : Nat) : Int)) ∧ W = W' := fun W => formI_any (placeOfWordN h) (smallFirstN h) 2 (smallSecondN h) 3 W
  go_enter Try.func30, Try.ntmps30
  go_wp2_with (first | (go_at_call 43; (with_reducible refine (c0 _).mono ?_); rintro e w' ⟨rfl, rfl⟩) | (go_at_call 44; (with_reducible refine (c1 _).mono ?_); rintro e w' ⟨rfl, rfl⟩) | (go_at_call 29; (with_reducible refine (c2 _).mono ?_); rintro e w' ⟨rfl, rfl⟩) | (go_at_call 47; (with_reducible refine (c3 _).mono ?_); rintro e w' ⟨rfl, rfl⟩) | (go_at_call 46; (with_reducible refine (c4 _).mono ?_); rintro e w' ⟨rfl, rfl⟩) | fail)
  go_ret
  refine ⟨ret_int ?_, rfl⟩
  first | rfl | (simp only [nats]; rfl)
set_option maxHeartbeats 1000000 in
theorem word0_3 (h : Nat) (W : World) (h0 : (cutN h 13 3) = 3) : Calls Try.prog 30 #[.int .u32 (h : Nat)] W fun e W' => e = .returned (.int .u32 (((formIN (placeOfDoubleN h) (smallFirstN h) 3 (smallSecondN h) 3) : Nat) : Int)) ∧ W = W' := by
  have c0 : ∀ W, Calls Try.prog 43 #[.int .u32 ((h : Nat) : Int)] W fun e W' => e = .returned (.int .u32 (((smallFirstN h) : Nat) : Int)) ∧ W = W' := fun W => smallFirst_any h W
  have c1 : ∀ W, Calls Try.prog 44 #[.int .u32 ((h : Nat) : Int)] W fun e W' => e = .returned (.int .u32 (((smallSecondN h) : Nat) : Int)) ∧ W = W' := fun W => smallSecond_any h W
  have c2 : ∀ W, Calls Try.prog 29 #[.int .u32 ((h : Nat) : Int), .int .u64 15, .int .u64 13] W fun e W' => e = .returned (.int .u32 3) ∧ W = W' := fun W => by
    have h := bits_gen h 15 13 W (by omega) (by omega)
    rw [h0] at h
    exact h
  have c3 : ∀ W, Calls Try.prog 48 #[.int .u32 ((h : Nat) : Int)] W fun e W' => e = .returned (.int .u32 (((placeOfDoubleN h) : Nat) : Int)) ∧ W = W' := fun W => placeOfDouble_any h W
  have c4 : ∀ W, Calls Try.prog 46 #[.int .u32 (((placeOfDoubleN h) : Nat) : Int), .int .u32 (((smallFirstN h) : Nat) : Int), .int .u32 3, .int .u32 (((smallSecondN h) : Nat) : Int), .int .u32 3] W fun e W' => e = .returned (.int .u32 (((formIN (placeOfDoubleN h) (smallFirstN h) 3 (smallSecondN h) 3) : Nat) : Int)) ∧ W = W' := fun W => formI_any (placeOfDoubleN h) (smallFirstN h) 3 (smallSecondN h) 3 W
  go_enter Try.func30, Try.ntmps30
  go_wp2_with (first | (go_at_call 43; (with_reducible refine (c0 _).mono ?_); rintro e w' ⟨rfl, rfl⟩) | (go_at_call 44; (with_reducible refine (c1 _).mono ?_); rintro e w' ⟨rfl, rfl⟩) | (go_at_call 29; (with_reducible refine (c2 _).mono ?_); rintro e w' ⟨rfl, rfl⟩) | (go_at_call 48; (with_reducible refine (c3 _).mono ?_); rintro e w' ⟨rfl, rfl⟩) | (go_at_call 46; (with_reducible refine (c4 _).mono ?_); rintro e w' ⟨rfl, rfl⟩) | fail)
  go_ret
  refine ⟨ret_int ?_, rfl⟩
  first | rfl | (simp only [nats]; rfl)
set_option maxHeartbeats 1000000 in
theorem word0_4 (h : Nat) (W : World) (h0 : (cutN h 13 3) = 4) : Calls Try.prog 30 #[.int .u32 (h : Nat)] W fun e W' => e = .returned (.int .u32 0) ∧ W = W' := by
  have c0 : ∀ W, Calls Try.prog 43 #[.int .u32 ((h : Nat) : Int)] W fun e W' => e = .returned (.int .u32 (((smallFirstN h) : Nat) : Int)) ∧ W = W' := fun W => smallFirst_any h W
  have c1 : ∀ W, Calls Try.prog 44 #[.int .u32 ((h : Nat) : Int)] W fun e W' => e = .returned (.int .u32 (((smallSecondN h) : Nat) : Int)) ∧ W = W' := fun W => smallSecond_any h W
  have c2 : ∀ W, Calls Try.prog 29 #[.int .u32 ((h : Nat) : Int), .int .u64 15, .int .u64 13] W fun e W' => e = .returned (.int .u32 4) ∧ W = W' := fun W => by
    have h := bits_gen h 15 13 W (by omega) (by omega)
    rw [h0] at h
    exact h
  go_enter Try.func30, Try.ntmps30
  go_wp2_with (first | (go_at_call 43; (with_reducible refine (c0 _).mono ?_); rintro e w' ⟨rfl, rfl⟩) | (go_at_call 44; (with_reducible refine (c1 _).mono ?_); rintro e w' ⟨rfl, rfl⟩) | (go_at_call 29; (with_reducible refine (c2 _).mono ?_); rintro e w' ⟨rfl, rfl⟩) | fail)
  go_ret
  exact ⟨rfl, rfl⟩
set_option maxHeartbeats 1000000 in
theorem word0_5 (h : Nat) (W : World) (h0 : (cutN h 13 3) = 5) : Calls Try.prog 30 #[.int .u32 (h : Nat)] W fun e W' => e = .returned (.int .u32 0) ∧ W = W' := by
  have c0 : ∀ W, Calls Try.prog 43 #[.int .u32 ((h : Nat) : Int)] W fun e W' => e = .returned (.int .u32 (((smallFirstN h) : Nat) : Int)) ∧ W = W' := fun W => smallFirst_any h W
  have c1 : ∀ W, Calls Try.prog 44 #[.int .u32 ((h : Nat) : Int)] W fun e W' => e = .returned (.int .u32 (((smallSecondN h) : Nat) : Int)) ∧ W = W' := fun W => smallSecond_any h W
  have c2 : ∀ W, Calls Try.prog 29 #[.int .u32 ((h : Nat) : Int), .int .u64 15, .int .u64 13] W fun e W' => e = .returned (.int .u32 5) ∧ W = W' := fun W => by
    have h := bits_gen h 15 13 W (by omega) (by omega)
    rw [h0] at h
    exact h
  go_enter Try.func30, Try.ntmps30
  go_wp2_with (first | (go_at_call 43; (with_reducible refine (c0 _).mono ?_); rintro e w' ⟨rfl, rfl⟩) | (go_at_call 44; (with_reducible refine (c1 _).mono ?_); rintro e w' ⟨rfl, rfl⟩) | (go_at_call 29; (with_reducible refine (c2 _).mono ?_); rintro e w' ⟨rfl, rfl⟩) | fail)
  go_ret
  exact ⟨rfl, rfl⟩
set_option maxHeartbeats 1000000 in
theorem word0_6 (h : Nat) (W : World) (h0 : (cutN h 13 3) = 6) : Calls Try.prog 30 #[.int .u32 (h : Nat)] W fun e W' => e = .returned (.int .u32 (((formSN (placeOfWordN h) (smallSecondN h) (smallFirstN h) 2 35) : Nat) : Int)) ∧ W = W' := by
  have c0 : ∀ W, Calls Try.prog 43 #[.int .u32 ((h : Nat) : Int)] W fun e W' => e = .returned (.int .u32 (((smallFirstN h) : Nat) : Int)) ∧ W = W' := fun W => smallFirst_any h W
  have c1 : ∀ W, Calls Try.prog 44 #[.int .u32 ((h : Nat) : Int)] W fun e W' => e = .returned (.int .u32 (((smallSecondN h) : Nat) : Int)) ∧ W = W' := fun W => smallSecond_any h W
  have c2 : ∀ W, Calls Try.prog 29 #[.int .u32 ((h : Nat) : Int), .int .u64 15, .int .u64 13] W fun e W' => e = .returned (.int .u32 6) ∧ W = W' := fun W => by
    have h := bits_gen h 15 13 W (by omega) (by omega)
    rw [h0] at h
    exact h
  have c3 : ∀ W, Calls Try.prog 47 #[.int .u32 ((h : Nat) : Int)] W fun e W' => e = .returned (.int .u32 (((placeOfWordN h) : Nat) : Int)) ∧ W = W' := fun W => placeOfWord_any h W
  have c4 : ∀ W, Calls Try.prog 49 #[.int .u32 (((placeOfWordN h) : Nat) : Int), .int .u32 (((smallSecondN h) : Nat) : Int), .int .u32 (((smallFirstN h) : Nat) : Int), .int .u32 2, .int .u32 35] W fun e W' => e = .returned (.int .u32 (((formSN (placeOfWordN h) (smallSecondN h) (smallFirstN h) 2 35) : Nat) : Int)) ∧ W = W' := fun W => formS_any (placeOfWordN h) (smallSecondN h) (smallFirstN h) 2 35 W
  go_enter Try.func30, Try.ntmps30
  go_wp2_with (first | (go_at_call 43; (with_reducible refine (c0 _).mono ?_); rintro e w' ⟨rfl, rfl⟩) | (go_at_call 44; (with_reducible refine (c1 _).mono ?_); rintro e w' ⟨rfl, rfl⟩) | (go_at_call 29; (with_reducible refine (c2 _).mono ?_); rintro e w' ⟨rfl, rfl⟩) | (go_at_call 47; (with_reducible refine (c3 _).mono ?_); rintro e w' ⟨rfl, rfl⟩) | (go_at_call 49; (with_reducible refine (c4 _).mono ?_); rintro e w' ⟨rfl, rfl⟩) | fail)
  go_ret
  refine ⟨ret_int ?_, rfl⟩
  first | rfl | (simp only [nats]; rfl)
set_option maxHeartbeats 1000000 in
theorem word0_7 (h : Nat) (W : World) (h0 : (cutN h 13 3) = 7) : Calls Try.prog 30 #[.int .u32 (h : Nat)] W fun e W' => e = .returned (.int .u32 (((formSN (placeOfDoubleN h) (smallSecondN h) (smallFirstN h) 3 35) : Nat) : Int)) ∧ W = W' := by
  have c0 : ∀ W, Calls Try.prog 43 #[.int .u32 ((h : Nat) : Int)] W fun e W' => e = .returned (.int .u32 (((smallFirstN h) : Nat) : Int)) ∧ W = W' := fun W => smallFirst_any h W
  have c1 : ∀ W, Calls Try.prog 44 #[.int .u32 ((h : Nat) : Int)] W fun e W' => e = .returned (.int .u32 (((smallSecondN h) : Nat) : Int)) ∧ W = W' := fun W => smallSecond_any h W
  have c2 : ∀ W, Calls Try.prog 29 #[.int .u32 ((h : Nat) : Int), .int .u64 15, .int .u64 13] W fun e W' => e = .returned (.int .u32 7) ∧ W = W' := fun W => by
    have h := bits_gen h 15 13 W (by omega) (by omega)
    rw [h0] at h
    exact h
  have c3 : ∀ W, Calls Try.prog 48 #[.int .u32 ((h : Nat) : Int)] W fun e W' => e = .returned (.int .u32 (((placeOfDoubleN h) : Nat) : Int)) ∧ W = W' := fun W => placeOfDouble_any h W
  have c4 : ∀ W, Calls Try.prog 49 #[.int .u32 (((placeOfDoubleN h) : Nat) : Int), .int .u32 (((smallSecondN h) : Nat) : Int), .int .u32 (((smallFirstN h) : Nat) : Int), .int .u32 3, .int .u32 35] W fun e W' => e = .returned (.int .u32 (((formSN (placeOfDoubleN h) (smallSecondN h) (smallFirstN h) 3 35) : Nat) : Int)) ∧ W = W' := fun W => formS_any (placeOfDoubleN h) (smallSecondN h) (smallFirstN h) 3 35 W
  go_enter Try.func30, Try.ntmps30
  go_wp2_with (first | (go_at_call 43; (with_reducible refine (c0 _).mono ?_); rintro e w' ⟨rfl, rfl⟩) | (go_at_call 44; (with_reducible refine (c1 _).mono ?_); rintro e w' ⟨rfl, rfl⟩) | (go_at_call 29; (with_reducible refine (c2 _).mono ?_); rintro e w' ⟨rfl, rfl⟩) | (go_at_call 48; (with_reducible refine (c3 _).mono ?_); rintro e w' ⟨rfl, rfl⟩) | (go_at_call 49; (with_reducible refine (c4 _).mono ?_); rintro e w' ⟨rfl, rfl⟩) | fail)
  go_ret
  refine ⟨ret_int ?_, rfl⟩
  first | rfl | (simp only [nats]; rfl)
theorem word0_any (h : Nat) (W : World) : Calls Try.prog 30 #[.int .u32 (h : Nat)] W fun e W' => e = .returned (.int .u32 ((word0N h : Nat) : Int)) ∧ W = W' := by
  have l0 := cutN_lt h 13 3
  have b0 : (cutN h 13 3) = 0 ∨ (cutN h 13 3) = 1 ∨ (cutN h 13 3) = 2 ∨ (cutN h 13 3) = 3 ∨ (cutN h 13 3) = 4 ∨ (cutN h 13 3) = 5 ∨ (cutN h 13 3) = 6 ∨ (cutN h 13 3) = 7 := by omega
  rcases b0 with h0 | h0 | h0 | h0 | h0 | h0 | h0 | h0
  · by_cases h1 : (stackPlaceN h) = 0
    · rw [show word0N h = 0 from by unfold word0N; rw [beqT h0, cond_true, beqT h1, cond_true]]
      exact word0_0_y h W h0 h1
    · rw [show word0N h = (formIN (stackPlaceN h) 2 0 (smallSecondN h) 19) from by unfold word0N; rw [beqT h0, cond_true, beqF h1, cond_false]]
      exact word0_0_n h W h0 h1
  · rw [show word0N h = 0 from by unfold word0N; rw [beqF (show (cutN h 13 3) ≠ 0 by omega), cond_false, beqF (show (cutN h 13 3) ≠ 2 by omega), cond_false, beqF (show (cutN h 13 3) ≠ 3 by omega), cond_false, beqF (show (cutN h 13 3) ≠ 6 by omega), cond_false, beqF (show (cutN h 13 3) ≠ 7 by omega), cond_false]]
    exact word0_1 h W h0
  · rw [show word0N h = (formIN (placeOfWordN h) (smallFirstN h) 2 (smallSecondN h) 3) from by unfold word0N; rw [beqF (show (cutN h 13 3) ≠ 0 by omega), cond_false, beqT h0, cond_true]]
    exact word0_2 h W h0
  · rw [show word0N h = (formIN (placeOfDoubleN h) (smallFirstN h) 3 (smallSecondN h) 3) from by unfold word0N; rw [beqF (show (cutN h 13 3) ≠ 0 by omega), cond_false, beqF (show (cutN h 13 3) ≠ 2 by omega), cond_false, beqT h0, cond_true]]
    exact word0_3 h W h0
  · rw [show word0N h = 0 from by unfold word0N; rw [beqF (show (cutN h 13 3) ≠ 0 by omega), cond_false, beqF (show (cutN h 13 3) ≠ 2 by omega), cond_false, beqF (show (cutN h 13 3) ≠ 3 by omega), cond_false, beqF (show (cutN h 13 3) ≠ 6 by omega), cond_false, beqF (show (cutN h 13 3) ≠ 7 by omega), cond_false]]
    exact word0_4 h W h0
  · rw [show word0N h = 0 from by unfold word0N; rw [beqF (show (cutN h 13 3) ≠ 0 by omega), cond_false, beqF (show (cutN h 13 3) ≠ 2 by omega), cond_false, beqF (show (cutN h 13 3) ≠ 3 by omega), cond_false, beqF (show (cutN h 13 3) ≠ 6 by omega), cond_false, beqF (show (cutN h 13 3) ≠ 7 by omega), cond_false]]
    exact word0_5 h W h0
  · rw [show word0N h = (formSN (placeOfWordN h) (smallSecondN h) (smallFirstN h) 2 35) from by unfold word0N; rw [beqF (show (cutN h 13 3) ≠ 0 by omega), cond_false, beqF (show (cutN h 13 3) ≠ 2 by omega), cond_false, beqF (show (cutN h 13 3) ≠ 3 by omega), cond_false, beqT h0, cond_true]]
    exact word0_6 h W h0
  · rw [show word0N h = (formSN (placeOfDoubleN h) (smallSecondN h) (smallFirstN h) 3 35) from by unfold word0N; rw [beqF (show (cutN h 13 3) ≠ 0 by omega), cond_false, beqF (show (cutN h 13 3) ≠ 2 by omega), cond_false, beqF (show (cutN h 13 3) ≠ 3 by omega), cond_false, beqF (show (cutN h 13 3) ≠ 6 by omega), cond_false, beqT h0, cond_true]]
    exact word0_7 h W h0
def upperOrStackN (h : Nat) : Nat := (bif Nat.beq (numberNN h) 0 then 0 else (bif Nat.beq (firstRN h) 2 then (formIN (stackMoveN h) 2 0 2 19) else (formUN (numberNN h) (firstRN h))))
set_option maxHeartbeats 1000000 in
theorem upperOrStack_y (h : Nat) (W : World) (h0 : (numberNN h) = 0) : Calls Try.prog 52 #[.int .u32 (h : Nat)] W fun e W' => e = .returned (.int .u32 0) ∧ W = W' := by
  have c0 : ∀ W, Calls Try.prog 51 #[.int .u32 ((h : Nat) : Int)] W fun e W' => e = .returned (.int .u32 (((numberNN h) : Nat) : Int)) ∧ W = W' := fun W => numberN_any h W
  have c1 : ∀ W, Calls Try.prog 50 #[.int .u32 ((h : Nat) : Int)] W fun e W' => e = .returned (.int .u32 (((firstRN h) : Nat) : Int)) ∧ W = W' := fun W => firstR_any h W
  have p0 : (((((numberNN h) : Nat) : Int) : Int) == 0) = true := by rw [beq_iff_eq]; rw [h0]; rfl
  have q0 : (((((numberNN h) : Nat) : Int) : Int) != 0) = false := by rw [bne, p0]; rfl
  go_enter Try.func52, Try.ntmps52
  go_wp2_with (first | (go_at_call 51; (with_reducible refine (c0 _).mono ?_); rintro e w' ⟨rfl, rfl⟩) | (go_at_call 50; (with_reducible refine (c1 _).mono ?_); rintro e w' ⟨rfl, rfl⟩) | fail)
  go_ret
  exact ⟨rfl, rfl⟩
set_option maxHeartbeats 1000000 in
theorem upperOrStack_n_y (h : Nat) (W : World) (h0 : (numberNN h) ≠ 0) (h1 : (firstRN h) = 2) : Calls Try.prog 52 #[.int .u32 (h : Nat)] W fun e W' => e = .returned (.int .u32 (((formIN (stackMoveN h) 2 0 2 19) : Nat) : Int)) ∧ W = W' := by
  have c0 : ∀ W, Calls Try.prog 51 #[.int .u32 ((h : Nat) : Int)] W fun e W' => e = .returned (.int .u32 (((numberNN h) : Nat) : Int)) ∧ W = W' := fun W => numberN_any h W
  have c1 : ∀ W, Calls Try.prog 50 #[.int .u32 ((h : Nat) : Int)] W fun e W' => e = .returned (.int .u32 (((firstRN h) : Nat) : Int)) ∧ W = W' := fun W => firstR_any h W
  have c2 : ∀ W, Calls Try.prog 68 #[.int .u32 ((h : Nat) : Int)] W fun e W' => e = .returned (.int .u32 (((stackMoveN h) : Nat) : Int)) ∧ W = W' := fun W => stackMove_any h W
  have c3 : ∀ W, Calls Try.prog 46 #[.int .u32 (((stackMoveN h) : Nat) : Int), .int .u32 2, .int .u32 0, .int .u32 2, .int .u32 19] W fun e W' => e = .returned (.int .u32 (((formIN (stackMoveN h) 2 0 2 19) : Nat) : Int)) ∧ W = W' := fun W => formI_any (stackMoveN h) 2 0 2 19 W
  have p0 : (((((numberNN h) : Nat) : Int) : Int) == 0) = false := by rw [beq_eq_false_iff_ne]; omega
  have q0 : (((((numberNN h) : Nat) : Int) : Int) != 0) = true := by rw [bne, p0]; rfl
  have p1 : (((((firstRN h) : Nat) : Int) : Int) == 2) = true := by rw [beq_iff_eq]; rw [h1]; rfl
  have q1 : (((((firstRN h) : Nat) : Int) : Int) != 2) = false := by rw [bne, p1]; rfl
  go_enter Try.func52, Try.ntmps52
  go_wp2_with (first | (go_at_call 51; (with_reducible refine (c0 _).mono ?_); rintro e w' ⟨rfl, rfl⟩) | (go_at_call 50; (with_reducible refine (c1 _).mono ?_); rintro e w' ⟨rfl, rfl⟩) | (go_at_call 68; (with_reducible refine (c2 _).mono ?_); rintro e w' ⟨rfl, rfl⟩) | (go_at_call 46; (with_reducible refine (c3 _).mono ?_); rintro e w' ⟨rfl, rfl⟩) | fail)
  go_ret
  refine ⟨ret_int ?_, rfl⟩
  first | rfl | (simp only [nats]; rfl)
set_option maxHeartbeats 1000000 in
theorem upperOrStack_n_n (h : Nat) (W : World) (h0 : (numberNN h) ≠ 0) (h1 : (firstRN h) ≠ 2) : Calls Try.prog 52 #[.int .u32 (h : Nat)] W fun e W' => e = .returned (.int .u32 (((formUN (numberNN h) (firstRN h)) : Nat) : Int)) ∧ W = W' := by
  have c0 : ∀ W, Calls Try.prog 51 #[.int .u32 ((h : Nat) : Int)] W fun e W' => e = .returned (.int .u32 (((numberNN h) : Nat) : Int)) ∧ W = W' := fun W => numberN_any h W
  have c1 : ∀ W, Calls Try.prog 50 #[.int .u32 ((h : Nat) : Int)] W fun e W' => e = .returned (.int .u32 (((firstRN h) : Nat) : Int)) ∧ W = W' := fun W => firstR_any h W
  have c2 : ∀ W, Calls Try.prog 69 #[.int .u32 (((numberNN h) : Nat) : Int), .int .u32 (((firstRN h) : Nat) : Int)] W fun e W' => e = .returned (.int .u32 (((formUN (numberNN h) (firstRN h)) : Nat) : Int)) ∧ W = W' := fun W => formU_any (numberNN h) (firstRN h) W
  have p0 : (((((numberNN h) : Nat) : Int) : Int) == 0) = false := by rw [beq_eq_false_iff_ne]; omega
  have q0 : (((((numberNN h) : Nat) : Int) : Int) != 0) = true := by rw [bne, p0]; rfl
  have p1 : (((((firstRN h) : Nat) : Int) : Int) == 2) = false := by rw [beq_eq_false_iff_ne]; omega
  have q1 : (((((firstRN h) : Nat) : Int) : Int) != 2) = true := by rw [bne, p1]; rfl
  go_enter Try.func52, Try.ntmps52
  go_wp2_with (first | (go_at_call 51; (with_reducible refine (c0 _).mono ?_); rintro e w' ⟨rfl, rfl⟩) | (go_at_call 50; (with_reducible refine (c1 _).mono ?_); rintro e w' ⟨rfl, rfl⟩) | (go_at_call 69; (with_reducible refine (c2 _).mono ?_); rintro e w' ⟨rfl, rfl⟩) | fail)
  go_ret
  refine ⟨ret_int ?_, rfl⟩
  first | rfl | (simp only [nats]; rfl)
theorem upperOrStack_any (h : Nat) (W : World) : Calls Try.prog 52 #[.int .u32 (h : Nat)] W fun e W' => e = .returned (.int .u32 ((upperOrStackN h : Nat) : Int)) ∧ W = W' := by
  by_cases h0 : (numberNN h) = 0
  · rw [show upperOrStackN h = 0 from by unfold upperOrStackN; rw [beqT h0, cond_true]]
    exact upperOrStack_y h W h0
  · by_cases h1 : (firstRN h) = 2
    · rw [show upperOrStackN h = (formIN (stackMoveN h) 2 0 2 19) from by unfold upperOrStackN; rw [beqF h0, cond_false, beqT h1, cond_true]]
      exact upperOrStack_n_y h W h0 h1
    · rw [show upperOrStackN h = (formUN (numberNN h) (firstRN h)) from by unfold upperOrStackN; rw [beqF h0, cond_false, beqF h1, cond_false]]
      exact upperOrStack_n_n h W h0 h1
def smallPairN (h : Nat) : Nat := (bif Nat.beq (cutN h 12 1) 0 then (bif Nat.beq (cutN h 5 2) 0 then (formRN 32 (smallSecondN h) (smallFirstN h) 0 (smallFirstN h) 51) else (bif Nat.beq (cutN h 5 2) 1 then (formRN 0 (smallSecondN h) (smallFirstN h) 4 (smallFirstN h) 51) else (bif Nat.beq (cutN h 5 2) 2 then (formRN 0 (smallSecondN h) (smallFirstN h) 6 (smallFirstN h) 51) else (bif Nat.beq (cutN h 5 2) 3 then (formRN 0 (smallSecondN h) (smallFirstN h) 7 (smallFirstN h) 51) else 0)))) else (bif Nat.beq (cutN h 12 1) 1 then (bif Nat.beq (cutN h 5 2) 0 then (formRN 32 (smallSecondN h) (smallFirstN h) 0 (smallFirstN h) 59) else (bif Nat.beq (cutN h 5 2) 1 then (formRN 0 (smallSecondN h) (smallFirstN h) 0 (smallFirstN h) 59) else 0)) else 0))
set_option maxHeartbeats 1000000 in
theorem smallPair_0_0 (h : Nat) (W : World) (h0 : (cutN h 12 1) = 0) (h1 : (cutN h 5 2) = 0) : Calls Try.prog 70 #[.int .u32 (h : Nat)] W fun e W' => e = .returned (.int .u32 (((formRN 32 (smallSecondN h) (smallFirstN h) 0 (smallFirstN h) 51) : Nat) : Int)) ∧ W = W' := by
  have c0 : ∀ W, Calls Try.prog 43 #[.int .u32 ((h : Nat) : Int)] W fun e W' => e = .returned (.int .u32 (((smallFirstN h) : Nat) : Int)) ∧ W = W' := fun W => smallFirst_any h W
  have c1 : ∀ W, Calls Try.prog 44 #[.int .u32 ((h : Nat) : Int)] W fun e W' => e = .returned (.int .u32 (((smallSecondN h) : Nat) : Int)) ∧ W = W' := fun W => smallSecond_any h W
  have c2 : ∀ W, Calls Try.prog 29 #[.int .u32 ((h : Nat) : Int), .int .u64 12, .int .u64 12] W fun e W' => e = .returned (.int .u32 0) ∧ W = W' := fun W => by
    have h := bits_gen h 12 12 W (by omega) (by omega)
    rw [h0] at h
    exact h
  have c3 : ∀ W, Calls Try.prog 29 #[.int .u32 ((h : Nat) : Int), .int .u64 6, .int .u64 5] W fun e W' => e = .returned (.int .u32 0) ∧ W = W' := fun W => by
    have h := bits_gen h 6 5 W (by omega) (by omega)
    rw [h1] at h
    exact h
  have c4 : ∀ W, Calls Try.prog 71 #[.int .u32 32, .int .u32 (((smallSecondN h) : Nat) : Int), .int .u32 (((smallFirstN h) : Nat) : Int), .int .u32 0, .int .u32 (((smallFirstN h) : Nat) : Int), .int .u32 51] W fun e W' => e = .returned (.int .u32 (((formRN 32 (smallSecondN h) (smallFirstN h) 0 (smallFirstN h) 51) : Nat) : Int)) ∧ W = W' := fun W => formR_any 32 (smallSecondN h) (smallFirstN h) 0 (smallFirstN h) 51 W
  go_enter Try.func70, Try.ntmps70
  go_wp2_with (first | (go_at_call 43; (with_reducible refine (c0 _).mono ?_); rintro e w' ⟨rfl, rfl⟩) | (go_at_call 44; (with_reducible refine (c1 _).mono ?_); rintro e w' ⟨rfl, rfl⟩) | (go_at_call 29; (with_reducible refine (c2 _).mono ?_); rintro e w' ⟨rfl, rfl⟩) | (go_at_call 29; (with_reducible refine (c3 _).mono ?_); rintro e w' ⟨rfl, rfl⟩) | (go_at_call 71; (with_reducible refine (c4 _).mono ?_); rintro e w' ⟨rfl, rfl⟩) | fail)
  go_ret
  refine ⟨ret_int ?_, rfl⟩
  first | rfl | (simp only [nats]; rfl)
set_option maxHeartbeats 1000000 in
theorem smallPair_0_1 (h : Nat) (W : World) (h0 : (cutN h 12 1) = 0) (h1 : (cutN h 5 2) = 1) : Calls Try.prog 70 #[.int .u32 (h : Nat)] W fun e W' => e = .returned (.int .u32 (((formRN 0 (smallSecondN h) (smallFirstN h) 4 (smallFirstN h) 51) : Nat) : Int)) ∧ W = W' := by
  have c0 : ∀ W, Calls Try.prog 43 #[.int .u32 ((h : Nat) : Int)] W fun e W' => e = .returned (.int .u32 (((smallFirstN h) : Nat) : Int)) ∧ W = W' := fun W => smallFirst_any h W
  have c1 : ∀ W, Calls Try.prog 44 #[.int .u32 ((h : Nat) : Int)] W fun e W' => e = .returned (.int .u32 (((smallSecondN h) : Nat) : Int)) ∧ W = W' := fun W => smallSecond_any h W
  have c2 : ∀ W, Calls Try.prog 29 #[.int .u32 ((h : Nat) : Int), .int .u64 12, .int .u64 12] W fun e W' => e = .returned (.int .u32 0) ∧ W = W' := fun W => by
    have h := bits_gen h 12 12 W (by omega) (by omega)
    rw [h0] at h
    exact h
  have c3 : ∀ W, Calls Try.prog 29 #[.int .u32 ((h : Nat) : Int), .int .u64 6, .int .u64 5] W fun e W' => e = .returned (.int .u32 1) ∧ W = W' := fun W => by
    have h := bits_gen h 6 5 W (by omega) (by omega)
    rw [h1] at h
    exact h
  have c4 : ∀ W, Calls Try.prog 71 #[.int .u32 0, .int .u32 (((smallSecondN h) : Nat) : Int), .int .u32 (((smallFirstN h) : Nat) : Int), .int .u32 4, .int .u32 (((smallFirstN h) : Nat) : Int), .int .u32 51] W fun e W' => e = .returned (.int .u32 (((formRN 0 (smallSecondN h) (smallFirstN h) 4 (smallFirstN h) 51) : Nat) : Int)) ∧ W = W' := fun W => formR_any 0 (smallSecondN h) (smallFirstN h) 4 (smallFirstN h) 51 W
  go_enter Try.func70, Try.ntmps70
  go_wp2_with (first | (go_at_call 43; (with_reducible refine (c0 _).mono ?_); rintro e w' ⟨rfl, rfl⟩) | (go_at_call 44; (with_reducible refine (c1 _).mono ?_); rintro e w' ⟨rfl, rfl⟩) | (go_at_call 29; (with_reducible refine (c2 _).mono ?_); rintro e w' ⟨rfl, rfl⟩) | (go_at_call 29; (with_reducible refine (c3 _).mono ?_); rintro e w' ⟨rfl, rfl⟩) | (go_at_call 71; (with_reducible refine (c4 _).mono ?_); rintro e w' ⟨rfl, rfl⟩) | fail)
  go_ret
  refine ⟨ret_int ?_, rfl⟩
  first | rfl | (simp only [nats]; rfl)
set_option maxHeartbeats 1000000 in
theorem smallPair_0_2 (h : Nat) (W : World) (h0 : (cutN h 12 1) = 0) (h1 : (cutN h 5 2) = 2) : Calls Try.prog 70 #[.int .u32 (h : Nat)] W fun e W' => e = .returned (.int .u32 (((formRN 0 (smallSecondN h) (smallFirstN h) 6 (smallFirstN h) 51) : Nat) : Int)) ∧ W = W' := by
  have c0 : ∀ W, Calls Try.prog 43 #[.int .u32 ((h : Nat) : Int)] W fun e W' => e = .returned (.int .u32 (((smallFirstN h) : Nat) : Int)) ∧ W = W' := fun W => smallFirst_any h W
  have c1 : ∀ W, Calls Try.prog 44 #[.int .u32 ((h : Nat) : Int)] W fun e W' => e = .returned (.int .u32 (((smallSecondN h) : Nat) : Int)) ∧ W = W' := fun W => smallSecond_any h W
  have c2 : ∀ W, Calls Try.prog 29 #[.int .u32 ((h : Nat) : Int), .int .u64 12, .int .u64 12] W fun e W' => e = .returned (.int .u32 0) ∧ W = W' := fun W => by
    have h := bits_gen h 12 12 W (by omega) (by omega)
    rw [h0] at h
    exact h
  have c3 : ∀ W, Calls Try.prog 29 #[.int .u32 ((h : Nat) : Int), .int .u64 6, .int .u64 5] W fun e W' => e = .returned (.int .u32 2) ∧ W = W' := fun W => by
    have h := bits_gen h 6 5 W (by omega) (by omega)
    rw [h1] at h
    exact h
  have c4 : ∀ W, Calls Try.prog 71 #[.int .u32 0, .int .u32 (((smallSecondN h) : Nat) : Int), .int .u32 (((smallFirstN h) : Nat) : Int), .int .u32 6, .int .u32 (((smallFirstN h) : Nat) : Int), .int .u32 51] W fun e W' => e = .returned (.int .u32 (((formRN 0 (smallSecondN h) (smallFirstN h) 6 (smallFirstN h) 51) : Nat) : Int)) ∧ W = W' := fun W => formR_any 0 (smallSecondN h) (smallFirstN h) 6 (smallFirstN h) 51 W
  go_enter Try.func70, Try.ntmps70
  go_wp2_with (first | (go_at_call 43; (with_reducible refine (c0 _).mono ?_); rintro e w' ⟨rfl, rfl⟩) | (go_at_call 44; (with_reducible refine (c1 _).mono ?_); rintro e w' ⟨rfl, rfl⟩) | (go_at_call 29; (with_reducible refine (c2 _).mono ?_); rintro e w' ⟨rfl, rfl⟩) | (go_at_call 29; (with_reducible refine (c3 _).mono ?_); rintro e w' ⟨rfl, rfl⟩) | (go_at_call 71; (with_reducible refine (c4 _).mono ?_); rintro e w' ⟨rfl, rfl⟩) | fail)
  go_ret
  refine ⟨ret_int ?_, rfl⟩
  first | rfl | (simp only [nats]; rfl)
set_option maxHeartbeats 1000000 in
theorem smallPair_0_3 (h : Nat) (W : World) (h0 : (cutN h 12 1) = 0) (h1 : (cutN h 5 2) = 3) : Calls Try.prog 70 #[.int .u32 (h : Nat)] W fun e W' => e = .returned (.int .u32 (((formRN 0 (smallSecondN h) (smallFirstN h) 7 (smallFirstN h) 51) : Nat) : Int)) ∧ W = W' := by
  have c0 : ∀ W, Calls Try.prog 43 #[.int .u32 ((h : Nat) : Int)] W fun e W' => e = .returned (.int .u32 (((smallFirstN h) : Nat) : Int)) ∧ W = W' := fun W => smallFirst_any h W
  have c1 : ∀ W, Calls Try.prog 44 #[.int .u32 ((h : Nat) : Int)] W fun e W' => e = .returned (.int .u32 (((smallSecondN h) : Nat) : Int)) ∧ W = W' := fun W => smallSecond_any h W
  have c2 : ∀ W, Calls Try.prog 29 #[.int .u32 ((h : Nat) : Int), .int .u64 12, .int .u64 12] W fun e W' => e = .returned (.int .u32 0) ∧ W = W' := fun W => by
    have h := bits_gen h 12 12 W (by omega) (by omega)
    rw [h0] at h
    exact h
  have c3 : ∀ W, Calls Try.prog 29 #[.int .u32 ((h : Nat) : Int), .int .u64 6, .int .u64 5] W fun e W' => e = .returned (.int .u32 3) ∧ W = W' := fun W => by
    have h := bits_gen h 6 5 W (by omega) (by omega)
    rw [h1] at h
    exact h
  have c4 : ∀ W, Calls Try.prog 71 #[.int .u32 0, .int .u32 (((smallSecondN h) : Nat) : Int), .int .u32 (((smallFirstN h) : Nat) : Int), .int .u32 7, .int .u32 (((smallFirstN h) : Nat) : Int), .int .u32 51] W fun e W' => e = .returned (.int .u32 (((formRN 0 (smallSecondN h) (smallFirstN h) 7 (smallFirstN h) 51) : Nat) : Int)) ∧ W = W' := fun W => formR_any 0 (smallSecondN h) (smallFirstN h) 7 (smallFirstN h) 51 W
  go_enter Try.func70, Try.ntmps70
  go_wp2_with (first | (go_at_call 43; (with_reducible refine (c0 _).mono ?_); rintro e w' ⟨rfl, rfl⟩) | (go_at_call 44; (with_reducible refine (c1 _).mono ?_); rintro e w' ⟨rfl, rfl⟩) | (go_at_call 29; (with_reducible refine (c2 _).mono ?_); rintro e w' ⟨rfl, rfl⟩) | (go_at_call 29; (with_reducible refine (c3 _).mono ?_); rintro e w' ⟨rfl, rfl⟩) | (go_at_call 71; (with_reducible refine (c4 _).mono ?_); rintro e w' ⟨rfl, rfl⟩) | fail)
  go_ret
  refine ⟨ret_int ?_, rfl⟩
  first | rfl | (simp only [nats]; rfl)
set_option maxHeartbeats 1000000 in
theorem smallPair_1_0 (h : Nat) (W : World) (h0 : (cutN h 12 1) = 1) (h1 : (cutN h 5 2) = 0) : Calls Try.prog 70 #[.int .u32 (h : Nat)] W fun e W' => e = .returned (.int .u32 (((formRN 32 (smallSecondN h) (smallFirstN h) 0 (smallFirstN h) 59) : Nat) : Int)) ∧ W = W' := by
  have c0 : ∀ W, Calls Try.prog 43 #[.int .u32 ((h : Nat) : Int)] W fun e W' => e = .returned (.int .u32 (((smallFirstN h) : Nat) : Int)) ∧ W = W' := fun W => smallFirst_any h W
  have c1 : ∀ W, Calls Try.prog 44 #[.int .u32 ((h : Nat) : Int)] W fun e W' => e = .returned (.int .u32 (((smallSecondN h) : Nat) : Int)) ∧ W = W' := fun W => smallSecond_any h W
  have c2 : ∀ W, Calls Try.prog 29 #[.int .u32 ((h : Nat) : Int), .int .u64 12, .int .u64 12] W fun e W' => e = .returned (.int .u32 1) ∧ W = W' := fun W => by
    have h := bits_gen h 12 12 W (by omega) (by omega)
    rw [h0] at h
    exact h
  have c3 : ∀ W, Calls Try.prog 29 #[.int .u32 ((h : Nat) : Int), .int .u64 6, .int .u64 5] W fun e W' => e = .returned (.int .u32 0) ∧ W = W' := fun W => by
    have h := bits_gen h 6 5 W (by omega) (by omega)
    rw [h1] at h
    exact h
  have c4 : ∀ W, Calls Try.prog 71 #[.int .u32 32, .int .u32 (((smallSecondN h) : Nat) : Int), .int .u32 (((smallFirstN h) : Nat) : Int), .int .u32 0, .int .u32 (((smallFirstN h) : Nat) : Int), .int .u32 59] W fun e W' => e = .returned (.int .u32 (((formRN 32 (smallSecondN h) (smallFirstN h) 0 (smallFirstN h) 59) : Nat) : Int)) ∧ W = W' := fun W => formR_any 32 (smallSecondN h) (smallFirstN h) 0 (smallFirstN h) 59 W
  go_enter Try.func70, Try.ntmps70
  go_wp2_with (first | (go_at_call 43; (with_reducible refine (c0 _).mono ?_); rintro e w' ⟨rfl, rfl⟩) | (go_at_call 44; (with_reducible refine (c1 _).mono ?_); rintro e w' ⟨rfl, rfl⟩) | (go_at_call 29; (with_reducible refine (c2 _).mono ?_); rintro e w' ⟨rfl, rfl⟩) | (go_at_call 29; (with_reducible refine (c3 _).mono ?_); rintro e w' ⟨rfl, rfl⟩) | (go_at_call 71; (with_reducible refine (c4 _).mono ?_); rintro e w' ⟨rfl, rfl⟩) | fail)
  go_ret
  refine ⟨ret_int ?_, rfl⟩
  first | rfl | (simp only [nats]; rfl)
set_option maxHeartbeats 1000000 in
theorem smallPair_1_1 (h : Nat) (W : World) (h0 : (cutN h 12 1) = 1) (h1 : (cutN h 5 2) = 1) : Calls Try.prog 70 #[.int .u32 (h : Nat)] W fun e W' => e = .returned (.int .u32 (((formRN 0 (smallSecondN h) (smallFirstN h) 0 (smallFirstN h) 59) : Nat) : Int)) ∧ W = W' := by
  have c0 : ∀ W, Calls Try.prog 43 #[.int .u32 ((h : Nat) : Int)] W fun e W' => e = .returned (.int .u32 (((smallFirstN h) : Nat) : Int)) ∧ W = W' := fun W => smallFirst_any h W
  have c1 : ∀ W, Calls Try.prog 44 #[.int .u32 ((h : Nat) : Int)] W fun e W' => e = .returned (.int .u32 (((smallSecondN h) : Nat) : Int)) ∧ W = W' := fun W => smallSecond_any h W
  have c2 : ∀ W, Calls Try.prog 29 #[.int .u32 ((h : Nat) : Int), .int .u64 12, .int .u64 12] W fun e W' => e = .returned (.int .u32 1) ∧ W = W' := fun W => by
    have h := bits_gen h 12 12 W (by omega) (by omega)
    rw [h0] at h
    exact h
  have c3 : ∀ W, Calls Try.prog 29 #[.int .u32 ((h : Nat) : Int), .int .u64 6, .int .u64 5] W fun e W' => e = .returned (.int .u32 1) ∧ W = W' := fun W => by
    have h := bits_gen h 6 5 W (by omega) (by omega)
    rw [h1] at h
    exact h
  have c4 : ∀ W, Calls Try.prog 71 #[.int .u32 0, .int .u32 (((smallSecondN h) : Nat) : Int), .int .u32 (((smallFirstN h) : Nat) : Int), .int .u32 0, .int .u32 (((smallFirstN h) : Nat) : Int), .int .u32 59] W fun e W' => e = .returned (.int .u32 (((formRN 0 (smallSecondN h) (smallFirstN h) 0 (smallFirstN h) 59) : Nat) : Int)) ∧ W = W' := fun W => formR_any 0 (smallSecondN h) (smallFirstN h) 0 (smallFirstN h) 59 W
  go_enter Try.func70, Try.ntmps70
  go_wp2_with (first | (go_at_call 43; (with_reducible refine (c0 _).mono ?_); rintro e w' ⟨rfl, rfl⟩) | (go_at_call 44; (with_reducible refine (c1 _).mono ?_); rintro e w' ⟨rfl, rfl⟩) | (go_at_call 29; (with_reducible refine (c2 _).mono ?_); rintro e w' ⟨rfl, rfl⟩) | (go_at_call 29; (with_reducible refine (c3 _).mono ?_); rintro e w' ⟨rfl, rfl⟩) | (go_at_call 71; (with_reducible refine (c4 _).mono ?_); rintro e w' ⟨rfl, rfl⟩) | fail)
  go_ret
  refine ⟨ret_int ?_, rfl⟩
  first | rfl | (simp only [nats]; rfl)
set_option maxHeartbeats 1000000 in
theorem smallPair_1_2 (h : Nat) (W : World) (h0 : (cutN h 12 1) = 1) (h1 : (cutN h 5 2) = 2) : Calls Try.prog 70 #[.int .u32 (h : Nat)] W fun e W' => e = .returned (.int .u32 0) ∧ W = W' := by
  have c0 : ∀ W, Calls Try.prog 43 #[.int .u32 ((h : Nat) : Int)] W fun e W' => e = .returned (.int .u32 (((smallFirstN h) : Nat) : Int)) ∧ W = W' := fun W => smallFirst_any h W
  have c1 : ∀ W, Calls Try.prog 44 #[.int .u32 ((h : Nat) : Int)] W fun e W' => e = .returned (.int .u32 (((smallSecondN h) : Nat) : Int)) ∧ W = W' := fun W => smallSecond_any h W
  have c2 : ∀ W, Calls Try.prog 29 #[.int .u32 ((h : Nat) : Int), .int .u64 12, .int .u64 12] W fun e W' => e = .returned (.int .u32 1) ∧ W = W' := fun W => by
    have h := bits_gen h 12 12 W (by omega) (by omega)
    rw [h0] at h
    exact h
  have c3 : ∀ W, Calls Try.prog 29 #[.int .u32 ((h : Nat) : Int), .int .u64 6, .int .u64 5] W fun e W' => e = .returned (.int .u32 2) ∧ W = W' := fun W => by
    have h := bits_gen h 6 5 W (by omega) (by omega)
    rw [h1] at h
    exact h
  go_enter Try.func70, Try.ntmps70
  go_wp2_with (first | (go_at_call 43; (with_reducible refine (c0 _).mono ?_); rintro e w' ⟨rfl, rfl⟩) | (go_at_call 44; (with_reducible refine (c1 _).mono ?_); rintro e w' ⟨rfl, rfl⟩) | (go_at_call 29; (with_reducible refine (c2 _).mono ?_); rintro e w' ⟨rfl, rfl⟩) | (go_at_call 29; (with_reducible refine (c3 _).mono ?_); rintro e w' ⟨rfl, rfl⟩) | fail)
  go_ret
  exact ⟨rfl, rfl⟩
set_option maxHeartbeats 1000000 in
theorem smallPair_1_3 (h : Nat) (W : World) (h0 : (cutN h 12 1) = 1) (h1 : (cutN h 5 2) = 3) : Calls Try.prog 70 #[.int .u32 (h : Nat)] W fun e W' => e = .returned (.int .u32 0) ∧ W = W' := by
  have c0 : ∀ W, Calls Try.prog 43 #[.int .u32 ((h : Nat) : Int)] W fun e W' => e = .returned (.int .u32 (((smallFirstN h) : Nat) : Int)) ∧ W = W' := fun W => smallFirst_any h W
  have c1 : ∀ W, Calls Try.prog 44 #[.int .u32 ((h : Nat) : Int)] W fun e W' => e = .returned (.int .u32 (((smallSecondN h) : Nat) : Int)) ∧ W = W' := fun W => smallSecond_any h W
  have c2 : ∀ W, Calls Try.prog 29 #[.int .u32 ((h : Nat) : Int), .int .u64 12, .int .u64 12] W fun e W' => e = .returned (.int .u32 1) ∧ W = W' := fun W => by
    have h := bits_gen h 12 12 W (by omega) (by omega)
    rw [h0] at h
    exact h
  have c3 : ∀ W, Calls Try.prog 29 #[.int .u32 ((h : Nat) : Int), .int .u64 6, .int .u64 5] W fun e W' => e = .returned (.int .u32 3) ∧ W = W' := fun W => by
    have h := bits_gen h 6 5 W (by omega) (by omega)
    rw [h1] at h
    exact h
  go_enter Try.func70, Try.ntmps70
  go_wp2_with (first | (go_at_call 43; (with_reducible refine (c0 _).mono ?_); rintro e w' ⟨rfl, rfl⟩) | (go_at_call 44; (with_reducible refine (c1 _).mono ?_); rintro e w' ⟨rfl, rfl⟩) | (go_at_call 29; (with_reducible refine (c2 _).mono ?_); rintro e w' ⟨rfl, rfl⟩) | (go_at_call 29; (with_reducible refine (c3 _).mono ?_); rintro e w' ⟨rfl, rfl⟩) | fail)
  go_ret
  exact ⟨rfl, rfl⟩
theorem smallPair_any (h : Nat) (W : World) : Calls Try.prog 70 #[.int .u32 (h : Nat)] W fun e W' => e = .returned (.int .u32 ((smallPairN h : Nat) : Int)) ∧ W = W' := by
  have l0 := cutN_lt h 12 1
  have b0 : (cutN h 12 1) = 0 ∨ (cutN h 12 1) = 1 := by omega
  rcases b0 with h0 | h0
  · have l1 := cutN_lt h 5 2
    have b1 : (cutN h 5 2) = 0 ∨ (cutN h 5 2) = 1 ∨ (cutN h 5 2) = 2 ∨ (cutN h 5 2) = 3 := by omega
    rcases b1 with h1 | h1 | h1 | h1
    · rw [show smallPairN h = (formRN 32 (smallSecondN h) (smallFirstN h) 0 (smallFirstN h) 51) from by unfold smallPairN; rw [beqT h0, cond_true, beqT h1, cond_true]]
      exact smallPair_0_0 h W h0 h1
    · rw [show smallPairN h = (formRN 0 (smallSecondN h) (smallFirstN h) 4 (smallFirstN h) 51) from by unfold smallPairN; rw [beqT h0, cond_true, beqF (show (cutN h 5 2) ≠ 0 by omega), cond_false, beqT h1, cond_true]]
      exact smallPair_0_1 h W h0 h1
    · rw [show smallPairN h = (formRN 0 (smallSecondN h) (smallFirstN h) 6 (smallFirstN h) 51) from by unfold smallPairN; rw [beqT h0, cond_true, beqF (show (cutN h 5 2) ≠ 0 by omega), cond_false, beqF (show (cutN h 5 2) ≠ 1 by omega), cond_false, beqT h1, cond_true]]
      exact smallPair_0_2 h W h0 h1
    · rw [show smallPairN h = (formRN 0 (smallSecondN h) (smallFirstN h) 7 (smallFirstN h) 51) from by unfold smallPairN; rw [beqT h0, cond_true, beqF (show (cutN h 5 2) ≠ 0 by omega), cond_false, beqF (show (cutN h 5 2) ≠ 1 by omega), cond_false, beqF (show (cutN h 5 2) ≠ 2 by omega), cond_false, beqT h1, cond_true]]
      exact smallPair_0_3 h W h0 h1
  · have l1 := cutN_lt h 5 2
    have b1 : (cutN h 5 2) = 0 ∨ (cutN h 5 2) = 1 ∨ (cutN h 5 2) = 2 ∨ (cutN h 5 2) = 3 := by omega
    rcases b1 with h1 | h1 | h1 | h1
    · rw [show smallPairN h = (formRN 32 (smallSecondN h) (smallFirstN h) 0 (smallFirstN h) 59) from by unfold smallPairN; rw [beqF (show (cutN h 12 1) ≠ 0 by omega), cond_false, beqT h0, cond_true, beqT h1, cond_true]]
      exact smallPair_1_0 h W h0 h1
    · rw [show smallPairN h = (formRN 0 (smallSecondN h) (smallFirstN h) 0 (smallFirstN h) 59) from by unfold smallPairN; rw [beqF (show (cutN h 12 1) ≠ 0 by omega), cond_false, beqT h0, cond_true, beqF (show (cutN h 5 2) ≠ 0 by omega), cond_false, beqT h1, cond_true]]
      exact smallPair_1_1 h W h0 h1
    · rw [show smallPairN h = 0 from by unfold smallPairN; rw [beqF (show (cutN h 12 1) ≠ 0 by omega), cond_false, beqT h0, cond_true, beqF (show (cutN h 5 2) ≠ 0 by omega), cond_false, beqF (show (cutN h 5 2) ≠ 1 by omega), cond_false]]
      exact smallPair_1_2 h W h0 h1
    · rw [show smallPairN h = 0 from by unfold smallPairN; rw [beqF (show (cutN h 12 1) ≠ 0 by omega), cond_false, beqT h0, cond_true, beqF (show (cutN h 5 2) ≠ 0 by omega), cond_false, beqF (show (cutN h 5 2) ≠ 1 by omega), cond_false]]
      exact smallPair_1_3 h W h0 h1
def smallSumN (h : Nat) : Nat := (bif Nat.beq (cutN h 10 2) 0 then (formIN (numberMN h) (smallFirstN h) 5 (smallFirstN h) 19) else (bif Nat.beq (cutN h 10 2) 1 then (formIN (((numberMN h) + 1024) % 4294967296) (smallFirstN h) 5 (smallFirstN h) 19) else (bif Nat.beq (cutN h 10 2) 2 then (formIN (numberNN h) (smallFirstN h) 7 (smallFirstN h) 19) else (bif Nat.beq (cutN h 10 2) 3 then (smallPairN h) else 0))))
set_option maxHeartbeats 1000000 in
theorem smallSum_0 (h : Nat) (W : World) (h0 : (cutN h 10 2) = 0) : Calls Try.prog 53 #[.int .u32 (h : Nat)] W fun e W' => e = .returned (.int .u32 (((formIN (numberMN h) (smallFirstN h) 5 (smallFirstN h) 19) : Nat) : Int)) ∧ W = W' := by
  have c0 : ∀ W, Calls Try.prog 43 #[.int .u32 ((h : Nat) : Int)] W fun e W' => e = .returned (.int .u32 (((smallFirstN h) : Nat) : Int)) ∧ W = W' := fun W => smallFirst_any h W
  have c1 : ∀ W, Calls Try.prog 29 #[.int .u32 ((h : Nat) : Int), .int .u64 11, .int .u64 10] W fun e W' => e = .returned (.int .u32 0) ∧ W = W' := fun W => by
    have h := bits_gen h 11 10 W (by omega) (by omega)
    rw [h0] at h
    exact h
  have c2 : ∀ W, Calls Try.prog 59 #[.int .u32 ((h : Nat) : Int)] W fun e W' => e = .returned (.int .u32 (((numberMN h) : Nat) : Int)) ∧ W = W' := fun W => numberM_any h W
  have c3 : ∀ W, Calls Try.prog 46 #[.int .u32 (((numberMN h) : Nat) : Int), .int .u32 (((smallFirstN h) : Nat) : Int), .int .u32 5, .int .u32 (((smallFirstN h) : Nat) : Int), .int .u32 19] W fun e W' => e = .returned (.int .u32 (((formIN (numberMN h) (smallFirstN h) 5 (smallFirstN h) 19) : Nat) : Int)) ∧ W = W' := fun W => formI_any (numberMN h) (smallFirstN h) 5 (smallFirstN h) 19 W
  go_enter Try.func53, Try.ntmps53
  go_wp2_with (first | (go_at_call 43; (with_reducible refine (c0 _).mono ?_); rintro e w' ⟨rfl, rfl⟩) | (go_at_call 29; (with_reducible refine (c1 _).mono ?_); rintro e w' ⟨rfl, rfl⟩) | (go_at_call 59; (with_reducible refine (c2 _).mono ?_); rintro e w' ⟨rfl, rfl⟩) | (go_at_call 46; (with_reducible refine (c3 _).mono ?_); rintro e w' ⟨rfl, rfl⟩) | fail)
  go_ret
  refine ⟨ret_int ?_, rfl⟩
  first | rfl | (simp only [nats]; rfl)
set_option maxHeartbeats 1000000 in
theorem smallSum_1 (h : Nat) (W : World) (h0 : (cutN h 10 2) = 1) : Calls Try.prog 53 #[.int .u32 (h : Nat)] W fun e W' => e = .returned (.int .u32 (((formIN (((numberMN h) + 1024) % 4294967296) (smallFirstN h) 5 (smallFirstN h) 19) : Nat) : Int)) ∧ W = W' := by
  have c0 : ∀ W, Calls Try.prog 43 #[.int .u32 ((h : Nat) : Int)] W fun e W' => e = .returned (.int .u32 (((smallFirstN h) : Nat) : Int)) ∧ W = W' := fun W => smallFirst_any h W
  have c1 : ∀ W, Calls Try.prog 29 #[.int .u32 ((h : Nat) : Int), .int .u64 11, .int .u64 10] W fun e W' => e = .returned (.int .u32 1) ∧ W = W' := fun W => by
    have h := bits_gen h 11 10 W (by omega) (by omega)
    rw [h0] at h
    exact h
  have c2 : ∀ W, Calls Try.prog 59 #[.int .u32 ((h : Nat) : Int)] W fun e W' => e = .returned (.int .u32 (((numberMN h) : Nat) : Int)) ∧ W = W' := fun W => numberM_any h W
  have c3 : ∀ W, Calls Try.prog 46 #[.int .u32 (((((numberMN h) : Nat) : Int) + 1024) % 4294967296), .int .u32 (((smallFirstN h) : Nat) : Int), .int .u32 5, .int .u32 (((smallFirstN h) : Nat) : Int), .int .u32 19] W fun e W' => e = .returned (.int .u32 (((formIN (((numberMN h) + 1024) % 4294967296) (smallFirstN h) 5 (smallFirstN h) 19) : Nat) : Int)) ∧ W = W' := fun W => by
    have h := formI_any (((numberMN h) + 1024) % 4294967296) (smallFirstN h) 5 (smallFirstN h) 19 W
    simp only [nats]
    exact h
  go_enter Try.func53, Try.ntmps53
  go_wp2_with (first | (go_at_call 43; (with_reducible refine (c0 _).mono ?_); rintro e w' ⟨rfl, rfl⟩) | (go_at_call 29; (with_reducible refine (c1 _).mono ?_); rintro e w' ⟨rfl, rfl⟩) | (go_at_call 59; (with_reducible refine (c2 _).mono ?_); rintro e w' ⟨rfl, rfl⟩) | (go_at_call 46; (with_reducible refine (c3 _).mono ?_); rintro e w' ⟨rfl, rfl⟩) | fail)
  go_ret
  refine ⟨ret_int ?_, rfl⟩
  first | rfl | (simp only [nats]; rfl)
set_option maxHeartbeats 1000000 in
theorem smallSum_2 (h : Nat) (W : World) (h0 : (cutN h 10 2) = 2) : Calls Try.prog 53 #[.int .u32 (h : Nat)] W fun e W' => e = .returned (.int .u32 (((formIN (numberNN h) (smallFirstN h) 7 (smallFirstN h) 19) : Nat) : Int)) ∧ W = W' := by
  have c0 : ∀ W, Calls Try.prog 43 #[.int .u32 ((h : Nat) : Int)] W fun e W' => e = .returned (.int .u32 (((smallFirstN h) : Nat) : Int)) ∧ W = W' := fun W => smallFirst_any h W
  have c1 : ∀ W, Calls Try.prog 29 #[.int .u32 ((h : Nat) : Int), .int .u64 11, .int .u64 10] W fun e W' => e = .returned (.int .u32 2) ∧ W = W' := fun W => by
    have h := bits_gen h 11 10 W (by omega) (by omega)
    rw [h0] at h
    exact h
  have c2 : ∀ W, Calls Try.prog 51 #[.int .u32 ((h : Nat) : Int)] W fun e W' => e = .returned (.int .u32 (((numberNN h) : Nat) : Int)) ∧ W = W' := fun W => numberN_any h W
  have c3 : ∀ W, Calls Try.prog 46 #[.int .u32 (((numberNN h) : Nat) : Int), .int .u32 (((smallFirstN h) : Nat) : Int), .int .u32 7, .int .u32 (((smallFirstN h) : Nat) : Int), .int .u32 19] W fun e W' => e = .returned (.int .u32 (((formIN (numberNN h) (smallFirstN h) 7 (smallFirstN h) 19) : Nat) : Int)) ∧ W = W' := fun W => formI_any (numberNN h) (smallFirstN h) 7 (smallFirstN h) 19 W
  go_enter Try.func53, Try.ntmps53
  go_wp2_with (first | (go_at_call 43; (with_reducible refine (c0 _).mono ?_); rintro e w' ⟨rfl, rfl⟩) | (go_at_call 29; (with_reducible refine (c1 _).mono ?_); rintro e w' ⟨rfl, rfl⟩) | (go_at_call 51; (with_reducible refine (c2 _).mono ?_); rintro e w' ⟨rfl, rfl⟩) | (go_at_call 46; (with_reducible refine (c3 _).mono ?_); rintro e w' ⟨rfl, rfl⟩) | fail)
  go_ret
  refine ⟨ret_int ?_, rfl⟩
  first | rfl | (simp only [nats]; rfl)
set_option maxHeartbeats 1000000 in
theorem smallSum_3 (h : Nat) (W : World) (h0 : (cutN h 10 2) = 3) : Calls Try.prog 53 #[.int .u32 (h : Nat)] W fun e W' => e = .returned (.int .u32 (((smallPairN h) : Nat) : Int)) ∧ W = W' := by
  have c0 : ∀ W, Calls Try.prog 43 #[.int .u32 ((h : Nat) : Int)] W fun e W' => e = .returned (.int .u32 (((smallFirstN h) : Nat) : Int)) ∧ W = W' := fun W => smallFirst_any h W
  have c1 : ∀ W, Calls Try.prog 29 #[.int .u32 ((h : Nat) : Int), .int .u64 11, .int .u64 10] W fun e W' => e = .returned (.int .u32 3) ∧ W = W' := fun W => by
    have h := bits_gen h 11 10 W (by omega) (by omega)
    rw [h0] at h
    exact h
  have c2 : ∀ W, Calls Try.prog 70 #[.int .u32 ((h : Nat) : Int)] W fun e W' => e = .returned (.int .u32 (((smallPairN h) : Nat) : Int)) ∧ W = W' := fun W => smallPair_any h W
  go_enter Try.func53, Try.ntmps53
  go_wp2_with (first | (go_at_call 43; (with_reducible refine (c0 _).mono ?_); rintro e w' ⟨rfl, rfl⟩) | (go_at_call 29; (with_reducible refine (c1 _).mono ?_); rintro e w' ⟨rfl, rfl⟩) | (go_at_call 70; (with_reducible refine (c2 _).mono ?_); rintro e w' ⟨rfl, rfl⟩) | fail)
  go_ret
  refine ⟨ret_int ?_, rfl⟩
  first | rfl | (simp only [nats]; rfl)
theorem smallSum_any (h : Nat) (W : World) : Calls Try.prog 53 #[.int .u32 (h : Nat)] W fun e W' => e = .returned (.int .u32 ((smallSumN h : Nat) : Int)) ∧ W = W' := by
  have l0 := cutN_lt h 10 2
  have b0 : (cutN h 10 2) = 0 ∨ (cutN h 10 2) = 1 ∨ (cutN h 10 2) = 2 ∨ (cutN h 10 2) = 3 := by omega
  rcases b0 with h0 | h0 | h0 | h0
  · rw [show smallSumN h = (formIN (numberMN h) (smallFirstN h) 5 (smallFirstN h) 19) from by unfold smallSumN; rw [beqT h0, cond_true]]
    exact smallSum_0 h W h0
  · rw [show smallSumN h = (formIN (((numberMN h) + 1024) % 4294967296) (smallFirstN h) 5 (smallFirstN h) 19) from by unfold smallSumN; rw [beqF (show (cutN h 10 2) ≠ 0 by omega), cond_false, beqT h0, cond_true]]
    exact smallSum_1 h W h0
  · rw [show smallSumN h = (formIN (numberNN h) (smallFirstN h) 7 (smallFirstN h) 19) from by unfold smallSumN; rw [beqF (show (cutN h 10 2) ≠ 0 by omega), cond_false, beqF (show (cutN h 10 2) ≠ 1 by omega), cond_false, beqT h0, cond_true]]
    exact smallSum_2 h W h0
  · rw [show smallSumN h = (smallPairN h) from by unfold smallSumN; rw [beqF (show (cutN h 10 2) ≠ 0 by omega), cond_false, beqF (show (cutN h 10 2) ≠ 1 by omega), cond_false, beqF (show (cutN h 10 2) ≠ 2 by omega), cond_false, beqT h0, cond_true]]
    exact smallSum_3 h W h0
def word1N (h : Nat) : Nat := (bif Nat.beq (cutN h 13 3) 0 then (formIN (numberNN h) (firstRN h) 0 (firstRN h) 19) else (bif Nat.beq (cutN h 13 3) 1 then (bif Nat.beq (firstRN h) 0 then 0 else (formIN (numberNN h) (firstRN h) 0 (firstRN h) 27)) else (bif Nat.beq (cutN h 13 3) 2 then (formIN (numberNN h) 0 0 (firstRN h) 19) else (bif Nat.beq (cutN h 13 3) 3 then (upperOrStackN h) else (bif Nat.beq (cutN h 13 3) 4 then (smallSumN h) else (bif Nat.beq (cutN h 13 3) 5 then (formJN (jumpWayN h) 0) else (bif Nat.beq (cutN h 13 3) 6 then (formBN (branchWayN h) 0 (smallFirstN h) 0) else (bif Nat.beq (cutN h 13 3) 7 then (formBN (branchWayN h) 0 (smallFirstN h) 1) else 0))))))))
set_option maxHeartbeats 1000000 in
theorem word1_0 (h : Nat) (W : World) (h0 : (cutN h 13 3) = 0) : Calls Try.prog 31 #[.int .u32 (h : Nat)] W fun e W' => e = .returned (.int .u32 (((formIN (numberNN h) (firstRN h) 0 (firstRN h) 19) : Nat) : Int)) ∧ W = W' := by
  have c0 : ∀ W, Calls Try.prog 50 #[.int .u32 ((h : Nat) : Int)] W fun e W' => e = .returned (.int .u32 (((firstRN h) : Nat) : Int)) ∧ W = W' := fun W => firstR_any h W
  have c1 : ∀ W, Calls Try.prog 51 #[.int .u32 ((h : Nat) : Int)] W fun e W' => e = .returned (.int .u32 (((numberNN h) : Nat) : Int)) ∧ W = W' := fun W => numberN_any h W
  have c2 : ∀ W, Calls Try.prog 29 #[.int .u32 ((h : Nat) : Int), .int .u64 15, .int .u64 13] W fun e W' => e = .returned (.int .u32 0) ∧ W = W' := fun W => by
    have h := bits_gen h 15 13 W (by omega) (by omega)
    rw [h0] at h
    exact h
  have c3 : ∀ W, Calls Try.prog 46 #[.int .u32 (((numberNN h) : Nat) : Int), .int .u32 (((firstRN h) : Nat) : Int), .int .u32 0, .int .u32 (((firstRN h) : Nat) : Int), .int .u32 19] W fun e W' => e = .returned (.int .u32 (((formIN (numberNN h) (firstRN h) 0 (firstRN h) 19) : Nat) : Int)) ∧ W = W' := fun W => formI_any (numberNN h) (firstRN h) 0 (firstRN h) 19 W
  go_enter Try.func31, Try.ntmps31
  go_wp2_with (first | (go_at_call 50; (with_reducible refine (c0 _).mono ?_); rintro e w' ⟨rfl, rfl⟩) | (go_at_call 51; (with_reducible refine (c1 _).mono ?_); rintro e w' ⟨rfl, rfl⟩) | (go_at_call 29; (with_reducible refine (c2 _).mono ?_); rintro e w' ⟨rfl, rfl⟩) | (go_at_call 46; (with_reducible refine (c3 _).mono ?_); rintro e w' ⟨rfl, rfl⟩) | fail)
  go_ret
  refine ⟨ret_int ?_, rfl⟩
  first | rfl | (simp only [nats]; rfl)
set_option maxHeartbeats 1000000 in
theorem word1_1_y (h : Nat) (W : World) (h0 : (cutN h 13 3) = 1) (h1 : (firstRN h) = 0) : Calls Try.prog 31 #[.int .u32 (h : Nat)] W fun e W' => e = .returned (.int .u32 0) ∧ W = W' := by
  have c0 : ∀ W, Calls Try.prog 50 #[.int .u32 ((h : Nat) : Int)] W fun e W' => e = .returned (.int .u32 (((firstRN h) : Nat) : Int)) ∧ W = W' := fun W => firstR_any h W
  have c1 : ∀ W, Calls Try.prog 51 #[.int .u32 ((h : Nat) : Int)] W fun e W' => e = .returned (.int .u32 (((numberNN h) : Nat) : Int)) ∧ W = W' := fun W => numberN_any h W
  have c2 : ∀ W, Calls Try.prog 29 #[.int .u32 ((h : Nat) : Int), .int .u64 15, .int .u64 13] W fun e W' => e = .returned (.int .u32 1) ∧ W = W' := fun W => by
    have h := bits_gen h 15 13 W (by omega) (by omega)
    rw [h0] at h
    exact h
  have p1 : (((((firstRN h) : Nat) : Int) : Int) == 0) = true := by rw [beq_iff_eq]; rw [h1]; rfl
  have q1 : (((((firstRN h) : Nat) : Int) : Int) != 0) = false := by rw [bne, p1]; rfl
  go_enter Try.func31, Try.ntmps31
  go_wp2_with (first | (go_at_call 50; (with_reducible refine (c0 _).mono ?_); rintro e w' ⟨rfl, rfl⟩) | (go_at_call 51; (with_reducible refine (c1 _).mono ?_); rintro e w' ⟨rfl, rfl⟩) | (go_at_call 29; (with_reducible refine (c2 _).mono ?_); rintro e w' ⟨rfl, rfl⟩) | fail)
  go_ret
  exact ⟨rfl, rfl⟩
set_option maxHeartbeats 1000000 in
theorem word1_1_n (h : Nat) (W : World) (h0 : (cutN h 13 3) = 1) (h1 : (firstRN h) ≠ 0) : Calls Try.prog 31 #[.int .u32 (h : Nat)] W fun e W' => e = .returned (.int .u32 (((formIN (numberNN h) (firstRN h) 0 (firstRN h) 27) : Nat) : Int)) ∧ W = W' := by
  have c0 : ∀ W, Calls Try.prog 50 #[.int .u32 ((h : Nat) : Int)] W fun e W' => e = .returned (.int .u32 (((firstRN h) : Nat) : Int)) ∧ W = W' := fun W => firstR_any h W
  have c1 : ∀ W, Calls Try.prog 51 #[.int .u32 ((h : Nat) : Int)] W fun e W' => e = .returned (.int .u32 (((numberNN h) : Nat) : Int)) ∧ W = W' := fun W => numberN_any h W
  have c2 : ∀ W, Calls Try.prog 29 #[.int .u32 ((h : Nat) : Int), .int .u64 15, .int .u64 13] W fun e W' => e = .returned (.int .u32 1) ∧ W = W' := fun W => by
    have h := bits_gen h 15 13 W (by omega) (by omega)
    rw [h0] at h
    exact h
  have c3 : ∀ W, Calls Try.prog 46 #[.int .u32 (((numberNN h) : Nat) : Int), .int .u32 (((firstRN h) : Nat) : Int), .int .u32 0, .int .u32 (((firstRN h) : Nat) : Int), .int .u32 27] W fun e W' => e = .returned (.int .u32 (((formIN (numberNN h) (firstRN h) 0 (firstRN h) 27) : Nat) : Int)) ∧ W = W' := fun W => formI_any (numberNN h) (firstRN h) 0 (firstRN h) 27 W
  have p1 : (((((firstRN h) : Nat) : Int) : Int) == 0) = false := by rw [beq_eq_false_iff_ne]; omega
  have q1 : (((((firstRN h) : Nat) : Int) : Int) != 0) = true := by rw [bne, p1]; rfl
  go_enter Try.func31, Try.ntmps31
  go_wp2_with (first | (go_at_call 50; (with_reducible refine (c0 _).mono ?_); rintro e w' ⟨rfl, rfl⟩) | (go_at_call 51; (with_reducible refine (c1 _).mono ?_); rintro e w' ⟨rfl, rfl⟩) | (go_at_call 29; (with_reducible refine (c2 _).mono ?_); rintro e w' ⟨rfl, rfl⟩) | (go_at_call 46; (with_reducible refine (c3 _).mono ?_); rintro e w' ⟨rfl, rfl⟩) | fail)
  go_ret
  refine ⟨ret_int ?_, rfl⟩
  first | rfl | (simp only [nats]; rfl)
set_option maxHeartbeats 1000000 in
theorem word1_2 (h : Nat) (W : World) (h0 : (cutN h 13 3) = 2) : Calls Try.prog 31 #[.int .u32 (h : Nat)] W fun e W' => e = .returned (.int .u32 (((formIN (numberNN h) 0 0 (firstRN h) 19) : Nat) : Int)) ∧ W = W' := by
  have c0 : ∀ W, Calls Try.prog 50 #[.int .u32 ((h : Nat) : Int)] W fun e W' => e = .returned (.int .u32 (((firstRN h) : Nat) : Int)) ∧ W = W' := fun W => firstR_any h W
  have c1 : ∀ W, Calls Try.prog 51 #[.int .u32 ((h : Nat) : Int)] W fun e W' => e = .returned (.int .u32 (((numberNN h) : Nat) : Int)) ∧ W = W' := fun W => numberN_any h W
  have c2 : ∀ W, Calls Try.prog 29 #[.int .u32 ((h : Nat) : Int), .int .u64 15, .int .u64 13] W fun e W' => e = .returned (.int .u32 2) ∧ W = W' := fun W => by
    have h := bits_gen h 15 13 W (by omega) (by omega)
    rw [h0] at h
    exact h
  have c3 : ∀ W, Calls Try.prog 46 #[.int .u32 (((numberNN h) : Nat) : Int), .int .u32 0, .int .u32 0, .int .u32 (((firstRN h) : Nat) : Int), .int .u32 19] W fun e W' => e = .returned (.int .u32 (((formIN (numberNN h) 0 0 (firstRN h) 19) : Nat) : Int)) ∧ W = W' := fun W => formI_any (numberNN h) 0 0 (firstRN h) 19 W
  go_enter Try.func31, Try.ntmps31
  go_wp2_with (first | (go_at_call 50; (with_reducible refine (c0 _).mono ?_); rintro e w' ⟨rfl, rfl⟩) | (go_at_call 51; (with_reducible refine (c1 _).mono ?_); rintro e w' ⟨rfl, rfl⟩) | (go_at_call 29; (with_reducible refine (c2 _).mono ?_); rintro e w' ⟨rfl, rfl⟩) | (go_at_call 46; (with_reducible refine (c3 _).mono ?_); rintro e w' ⟨rfl, rfl⟩) | fail)
  go_ret
  refine ⟨ret_int ?_, rfl⟩
  first | rfl | (simp only [nats]; rfl)
set_option maxHeartbeats 1000000 in
theorem word1_3 (h : Nat) (W : World) (h0 : (cutN h 13 3) = 3) : Calls Try.prog 31 #[.int .u32 (h : Nat)] W fun e W' => e = .returned (.int .u32 (((upperOrStackN h) : Nat) : Int)) ∧ W = W' := by
  have c0 : ∀ W, Calls Try.prog 50 #[.int .u32 ((h : Nat) : Int)] W fun e W' => e = .returned (.int .u32 (((firstRN h) : Nat) : Int)) ∧ W = W' := fun W => firstR_any h W
  have c1 : ∀ W, Calls Try.prog 51 #[.int .u32 ((h : Nat) : Int)] W fun e W' => e = .returned (.int .u32 (((numberNN h) : Nat) : Int)) ∧ W = W' := fun W => numberN_any h W
  have c2 : ∀ W, Calls Try.prog 29 #[.int .u32 ((h : Nat) : Int), .int .u64 15, .int .u64 13] W fun e W' => e = .returned (.int .u32 3) ∧ W = W' := fun W => by
    have h := bits_gen h 15 13 W (by omega) (by omega)
    rw [h0] at h
    exact h
  have c3 : ∀ W, Calls Try.prog 52 #[.int .u32 ((h : Nat) : Int)] W fun e W' => e = .returned (.int .u32 (((upperOrStackN h) : Nat) : Int)) ∧ W = W' := fun W => upperOrStack_any h W
  go_enter Try.func31, Try.ntmps31
  go_wp2_with (first | (go_at_call 50; (with_reducible refine (c0 _).mono ?_); rintro e w' ⟨rfl, rfl⟩) | (go_at_call 51; (with_reducible refine (c1 _).mono ?_); rintro e w' ⟨rfl, rfl⟩) | (go_at_call 29; (with_reducible refine (c2 _).mono ?_); rintro e w' ⟨rfl, rfl⟩) | (go_at_call 52; (with_reducible refine (c3 _).mono ?_); rintro e w' ⟨rfl, rfl⟩) | fail)
  go_ret
  refine ⟨ret_int ?_, rfl⟩
  first | rfl | (simp only [nats]; rfl)
set_option maxHeartbeats 1000000 in
theorem word1_4 (h : Nat) (W : World) (h0 : (cutN h 13 3) = 4) : Calls Try.prog 31 #[.int .u32 (h : Nat)] W fun e W' => e = .returned (.int .u32 (((smallSumN h) : Nat) : Int)) ∧ W = W' := by
  have c0 : ∀ W, Calls Try.prog 50 #[.int .u32 ((h : Nat) : Int)] W fun e W' => e = .returned (.int .u32 (((firstRN h) : Nat) : Int)) ∧ W = W' := fun W => firstR_any h W
  have c1 : ∀ W, Calls Try.prog 51 #[.int .u32 ((h : Nat) : Int)] W fun e W' => e = .returned (.int .u32 (((numberNN h) : Nat) : Int)) ∧ W = W' := fun W => numberN_any h W
  have c2 : ∀ W, Calls Try.prog 29 #[.int .u32 ((h : Nat) : Int), .int .u64 15, .int .u64 13] W fun e W' => e = .returned (.int .u32 4) ∧ W = W' := fun W => by
    have h := bits_gen h 15 13 W (by omega) (by omega)
    rw [h0] at h
    exact h
  have c3 : ∀ W, Calls Try.prog 53 #[.int .u32 ((h : Nat) : Int)] W fun e W' => e = .returned (.int .u32 (((smallSumN h) : Nat) : Int)) ∧ W = W' := fun W => smallSum_any h W
  go_enter Try.func31, Try.ntmps31
  go_wp2_with (first | (go_at_call 50; (with_reducible refine (c0 _).mono ?_); rintro e w' ⟨rfl, rfl⟩) | (go_at_call 51; (with_reducible refine (c1 _).mono ?_); rintro e w' ⟨rfl, rfl⟩) | (go_at_call 29; (with_reducible refine (c2 _).mono ?_); rintro e w' ⟨rfl, rfl⟩) | (go_at_call 53; (with_reducible refine (c3 _).mono ?_); rintro e w' ⟨rfl, rfl⟩) | fail)
  go_ret
  refine ⟨ret_int ?_, rfl⟩
  first | rfl | (simp only [nats]; rfl)
set_option maxHeartbeats 1000000 in
theorem word1_5 (h : Nat) (W : World) (h0 : (cutN h 13 3) = 5) : Calls Try.prog 31 #[.int .u32 (h : Nat)] W fun e W' => e = .returned (.int .u32 (((formJN (jumpWayN h) 0) : Nat) : Int)) ∧ W = W' := by
  have c0 : ∀ W, Calls Try.prog 50 #[.int .u32 ((h : Nat) : Int)] W fun e W' => e = .returned (.int .u32 (((firstRN h) : Nat) : Int)) ∧ W = W' := fun W => firstR_any h W
  have c1 : ∀ W, Calls Try.prog 51 #[.int .u32 ((h : Nat) : Int)] W fun e W' => e = .returned (.int .u32 (((numberNN h) : Nat) : Int)) ∧ W = W' := fun W => numberN_any h W
  have c2 : ∀ W, Calls Try.prog 29 #[.int .u32 ((h : Nat) : Int), .int .u64 15, .int .u64 13] W fun e W' => e = .returned (.int .u32 5) ∧ W = W' := fun W => by
    have h := bits_gen h 15 13 W (by omega) (by omega)
    rw [h0] at h
    exact h
  have c3 : ∀ W, Calls Try.prog 55 #[.int .u32 ((h : Nat) : Int)] W fun e W' => e = .returned (.int .u32 (((jumpWayN h) : Nat) : Int)) ∧ W = W' := fun W => jumpWay_any h W
  have c4 : ∀ W, Calls Try.prog 54 #[.int .u32 (((jumpWayN h) : Nat) : Int), .int .u32 0] W fun e W' => e = .returned (.int .u32 (((formJN (jumpWayN h) 0) : Nat) : Int)) ∧ W = W' := fun W => formJ_any (jumpWayN h) 0 W
  go_enter Try.func31, Try.ntmps31
  go_wp2_with (first | (go_at_call 50; (with_reducible refine (c0 _).mono ?_); rintro e w' ⟨rfl, rfl⟩) | (go_at_call 51; (with_reducible refine (c1 _).mono ?_); rintro e w' ⟨rfl, rfl⟩) | (go_at_call 29; (with_reducible refine (c2 _).mono ?_); rintro e w' ⟨rfl, rfl⟩) | (go_at_call 55; (with_reducible refine (c3 _).mono ?_); rintro e w' ⟨rfl, rfl⟩) | (go_at_call 54; (with_reducible refine (c4 _).mono ?_); rintro e w' ⟨rfl, rfl⟩) | fail)
  go_ret
  refine ⟨ret_int ?_, rfl⟩
  first | rfl | (simp only [nats]; rfl)
set_option maxHeartbeats 1000000 in
theorem word1_6 (h : Nat) (W : World) (h0 : (cutN h 13 3) = 6) : Calls Try.prog 31 #[.int .u32 (h : Nat)] W fun e W' => e = .returned (.int .u32 (((formBN (branchWayN h) 0 (smallFirstN h) 0) : Nat) : Int)) ∧ W = W' := by
  have c0 : ∀ W, Calls Try.prog 50 #[.int .u32 ((h : Nat) : Int)] W fun e W' => e = .returned (.int .u32 (((firstRN h) : Nat) : Int)) ∧ W = W' := fun W => firstR_any h W
  have c1 : ∀ W, Calls Try.prog 51 #[.int .u32 ((h : Nat) : Int)] W fun e W' => e = .returned (.int .u32 (((numberNN h) : Nat) : Int)) ∧ W = W' := fun W => numberN_any h W
  have c2 : ∀ W, Calls Try.prog 29 #[.int .u32 ((h : Nat) : Int), .int .u64 15, .int .u64 13] W fun e W' => e = .returned (.int .u32 6) ∧ W = W' := fun W => by
    have h := bits_gen h 15 13 W (by omega) (by omega)
    rw [h0] at h
    exact h
  have c3 : ∀ W, Calls Try.prog 57 #[.int .u32 ((h : Nat) : Int)] W fun e W' => e = .returned (.int .u32 (((branchWayN h) : Nat) : Int)) ∧ W = W' := fun W => branchWay_any h W
  have c4 : ∀ W, Calls Try.prog 43 #[.int .u32 ((h : Nat) : Int)] W fun e W' => e = .returned (.int .u32 (((smallFirstN h) : Nat) : Int)) ∧ W = W' := fun W => smallFirst_any h W
  have c5 : ∀ W, Calls Try.prog 56 #[.int .u32 (((branchWayN h) : Nat) : Int), .int .u32 0, .int .u32 (((smallFirstN h) : Nat) : Int), .int .u32 0] W fun e W' => e = .returned (.int .u32 (((formBN (branchWayN h) 0 (smallFirstN h) 0) : Nat) : Int)) ∧ W = W' := fun W => formB_any (branchWayN h) 0 (smallFirstN h) 0 W
  go_enter Try.func31, Try.ntmps31
  go_wp2_with (first | (go_at_call 50; (with_reducible refine (c0 _).mono ?_); rintro e w' ⟨rfl, rfl⟩) | (go_at_call 51; (with_reducible refine (c1 _).mono ?_); rintro e w' ⟨rfl, rfl⟩) | (go_at_call 29; (with_reducible refine (c2 _).mono ?_); rintro e w' ⟨rfl, rfl⟩) | (go_at_call 57; (with_reducible refine (c3 _).mono ?_); rintro e w' ⟨rfl, rfl⟩) | (go_at_call 43; (with_reducible refine (c4 _).mono ?_); rintro e w' ⟨rfl, rfl⟩) | (go_at_call 56; (with_reducible refine (c5 _).mono ?_); rintro e w' ⟨rfl, rfl⟩) | fail)
  go_ret
  refine ⟨ret_int ?_, rfl⟩
  first | rfl | (simp only [nats]; rfl)
set_option maxHeartbeats 1000000 in
theorem word1_7 (h : Nat) (W : World) (h0 : (cutN h 13 3) = 7) : Calls Try.prog 31 #[.int .u32 (h : Nat)] W fun e W' => e = .returned (.int .u32 (((formBN (branchWayN h) 0 (smallFirstN h) 1) : Nat) : Int)) ∧ W = W' := by
  have c0 : ∀ W, Calls Try.prog 50 #[.int .u32 ((h : Nat) : Int)] W fun e W' => e = .returned (.int .u32 (((firstRN h) : Nat) : Int)) ∧ W = W' := fun W => firstR_any h W
  have c1 : ∀ W, Calls Try.prog 51 #[.int .u32 ((h : Nat) : Int)] W fun e W' => e = .returned (.int .u32 (((numberNN h) : Nat) : Int)) ∧ W = W' := fun W => numberN_any h W
  have c2 : ∀ W, Calls Try.prog 29 #[.int .u32 ((h : Nat) : Int), .int .u64 15, .int .u64 13] W fun e W' => e = .returned (.int .u32 7) ∧ W = W' := fun W => by
    have h := bits_gen h 15 13 W (by omega) (by omega)
    rw [h0] at h
    exact h
  have c3 : ∀ W, Calls Try.prog 57 #[.int .u32 ((h : Nat) : Int)] W fun e W' => e = .returned (.int .u32 (((branchWayN h) : Nat) : Int)) ∧ W = W' := fun W => branchWay_any h W
  have c4 : ∀ W, Calls Try.prog 43 #[.int .u32 ((h : Nat) : Int)] W fun e W' => e = .returned (.int .u32 (((smallFirstN h) : Nat) : Int)) ∧ W = W' := fun W => smallFirst_any h W
  have c5 : ∀ W, Calls Try.prog 56 #[.int .u32 (((branchWayN h) : Nat) : Int), .int .u32 0, .int .u32 (((smallFirstN h) : Nat) : Int), .int .u32 1] W fun e W' => e = .returned (.int .u32 (((formBN (branchWayN h) 0 (smallFirstN h) 1) : Nat) : Int)) ∧ W = W' := fun W => formB_any (branchWayN h) 0 (smallFirstN h) 1 W
  go_enter Try.func31, Try.ntmps31
  go_wp2_with (first | (go_at_call 50; (with_reducible refine (c0 _).mono ?_); rintro e w' ⟨rfl, rfl⟩) | (go_at_call 51; (with_reducible refine (c1 _).mono ?_); rintro e w' ⟨rfl, rfl⟩) | (go_at_call 29; (with_reducible refine (c2 _).mono ?_); rintro e w' ⟨rfl, rfl⟩) | (go_at_call 57; (with_reducible refine (c3 _).mono ?_); rintro e w' ⟨rfl, rfl⟩) | (go_at_call 43; (with_reducible refine (c4 _).mono ?_); rintro e w' ⟨rfl, rfl⟩) | (go_at_call 56; (with_reducible refine (c5 _).mono ?_); rintro e w' ⟨rfl, rfl⟩) | fail)
  go_ret
  refine ⟨ret_int ?_, rfl⟩
  first | rfl | (simp only [nats]; rfl)
theorem word1_any (h : Nat) (W : World) : Calls Try.prog 31 #[.int .u32 (h : Nat)] W fun e W' => e = .returned (.int .u32 ((word1N h : Nat) : Int)) ∧ W = W' := by
  have l0 := cutN_lt h 13 3
  have b0 : (cutN h 13 3) = 0 ∨ (cutN h 13 3) = 1 ∨ (cutN h 13 3) = 2 ∨ (cutN h 13 3) = 3 ∨ (cutN h 13 3) = 4 ∨ (cutN h 13 3) = 5 ∨ (cutN h 13 3) = 6 ∨ (cutN h 13 3) = 7 := by omega
  rcases b0 with h0 | h0 | h0 | h0 | h0 | h0 | h0 | h0
  · rw [show word1N h = (formIN (numberNN h) (firstRN h) 0 (firstRN h) 19) from by unfold word1N; rw [beqT h0, cond_true]]
    exact word1_0 h W h0
  · by_cases h1 : (firstRN h) = 0
    · rw [show word1N h = 0 from by unfold word1N; rw [beqF (show (cutN h 13 3) ≠ 0 by omega), cond_false, beqT h0, cond_true, beqT h1, cond_true]]
      exact word1_1_y h W h0 h1
    · rw [show word1N h = (formIN (numberNN h) (firstRN h) 0 (firstRN h) 27) from by unfold word1N; rw [beqF (show (cutN h 13 3) ≠ 0 by omega), cond_false, beqT h0, cond_true, beqF h1, cond_false]]
      exact word1_1_n h W h0 h1
  · rw [show word1N h = (formIN (numberNN h) 0 0 (firstRN h) 19) from by unfold word1N; rw [beqF (show (cutN h 13 3) ≠ 0 by omega), cond_false, beqF (show (cutN h 13 3) ≠ 1 by omega), cond_false, beqT h0, cond_true]]
    exact word1_2 h W h0
  · rw [show word1N h = (upperOrStackN h) from by unfold word1N; rw [beqF (show (cutN h 13 3) ≠ 0 by omega), cond_false, beqF (show (cutN h 13 3) ≠ 1 by omega), cond_false, beqF (show (cutN h 13 3) ≠ 2 by omega), cond_false, beqT h0, cond_true]]
    exact word1_3 h W h0
  · rw [show word1N h = (smallSumN h) from by unfold word1N; rw [beqF (show (cutN h 13 3) ≠ 0 by omega), cond_false, beqF (show (cutN h 13 3) ≠ 1 by omega), cond_false, beqF (show (cutN h 13 3) ≠ 2 by omega), cond_false, beqF (show (cutN h 13 3) ≠ 3 by omega), cond_false, beqT h0, cond_true]]
    exact word1_4 h W h0
  · rw [show word1N h = (formJN (jumpWayN h) 0) from by unfold word1N; rw [beqF (show (cutN h 13 3) ≠ 0 by omega), cond_false, beqF (show (cutN h 13 3) ≠ 1 by omega), cond_false, beqF (show (cutN h 13 3) ≠ 2 by omega), cond_false, beqF (show (cutN h 13 3) ≠ 3 by omega), cond_false, beqF (show (cutN h 13 3) ≠ 4 by omega), cond_false, beqT h0, cond_true]]
    exact word1_5 h W h0
  · rw [show word1N h = (formBN (branchWayN h) 0 (smallFirstN h) 0) from by unfold word1N; rw [beqF (show (cutN h 13 3) ≠ 0 by omega), cond_false, beqF (show (cutN h 13 3) ≠ 1 by omega), cond_false, beqF (show (cutN h 13 3) ≠ 2 by omega), cond_false, beqF (show (cutN h 13 3) ≠ 3 by omega), cond_false, beqF (show (cutN h 13 3) ≠ 4 by omega), cond_false, beqF (show (cutN h 13 3) ≠ 5 by omega), cond_false, beqT h0, cond_true]]
    exact word1_6 h W h0
  · rw [show word1N h = (formBN (branchWayN h) 0 (smallFirstN h) 1) from by unfold word1N; rw [beqF (show (cutN h 13 3) ≠ 0 by omega), cond_false, beqF (show (cutN h 13 3) ≠ 1 by omega), cond_false, beqF (show (cutN h 13 3) ≠ 2 by omega), cond_false, beqF (show (cutN h 13 3) ≠ 3 by omega), cond_false, beqF (show (cutN h 13 3) ≠ 4 by omega), cond_false, beqF (show (cutN h 13 3) ≠ 5 by omega), cond_false, beqF (show (cutN h 13 3) ≠ 6 by omega), cond_false, beqT h0, cond_true]]
    exact word1_7 h W h0
def jumpOrPairN (h : Nat) : Nat := (bif Nat.beq (cutN h 12 1) 0 then (bif Nat.beq (secondRN h) 0 then (bif Nat.beq (firstRN h) 0 then 0 else (formIN 0 (firstRN h) 0 0 103)) else (formRN 0 (secondRN h) 0 0 (firstRN h) 51)) else (bif Nat.beq (cutN h 12 1) 1 then (bif Nat.beq (secondRN h) 0 then (bif Nat.beq (firstRN h) 0 then 1048691 else (formIN 0 (firstRN h) 0 1 103)) else (formRN 0 (secondRN h) (firstRN h) 0 (firstRN h) 51)) else 0))
set_option maxHeartbeats 1000000 in
theorem jumpOrPair_0_y_y (h : Nat) (W : World) (h0 : (cutN h 12 1) = 0) (h1 : (secondRN h) = 0) (h2 : (firstRN h) = 0) : Calls Try.prog 62 #[.int .u32 (h : Nat)] W fun e W' => e = .returned (.int .u32 0) ∧ W = W' := by
  have c0 : ∀ W, Calls Try.prog 50 #[.int .u32 ((h : Nat) : Int)] W fun e W' => e = .returned (.int .u32 (((firstRN h) : Nat) : Int)) ∧ W = W' := fun W => firstR_any h W
  have c1 : ∀ W, Calls Try.prog 58 #[.int .u32 ((h : Nat) : Int)] W fun e W' => e = .returned (.int .u32 (((secondRN h) : Nat) : Int)) ∧ W = W' := fun W => secondR_any h W
  have c2 : ∀ W, Calls Try.prog 29 #[.int .u32 ((h : Nat) : Int), .int .u64 12, .int .u64 12] W fun e W' => e = .returned (.int .u32 0) ∧ W = W' := fun W => by
    have h := bits_gen h 12 12 W (by omega) (by omega)
    rw [h0] at h
    exact h
  have p1 : (((((secondRN h) : Nat) : Int) : Int) == 0) = true := by rw [beq_iff_eq]; rw [h1]; rfl
  have q1 : (((((secondRN h) : Nat) : Int) : Int) != 0) = false := by rw [bne, p1]; rfl
  have p2 : (((((firstRN h) : Nat) : Int) : Int) == 0) = true := by rw [beq_iff_eq]; rw [h2]; rfl
  have q2 : (((((firstRN h) : Nat) : Int) : Int) != 0) = false := by rw [bne, p2]; rfl
  go_enter Try.func62, Try.ntmps62
  go_wp2_with (first | (go_at_call 50; (with_reducible refine (c0 _).mono ?_); rintro e w' ⟨rfl, rfl⟩) | (go_at_call 58; (with_reducible refine (c1 _).mono ?_); rintro e w' ⟨rfl, rfl⟩) | (go_at_call 29; (with_reducible refine (c2 _).mono ?_); rintro e w' ⟨rfl, rfl⟩) | fail)
  go_ret
  exact ⟨rfl, rfl⟩
set_option maxHeartbeats 1000000 in
theorem jumpOrPair_0_y_n (h : Nat) (W : World) (h0 : (cutN h 12 1) = 0) (h1 : (secondRN h) = 0) (h2 : (firstRN h) ≠ 0) : Calls Try.prog 62 #[.int .u32 (h : Nat)] W fun e W' => e = .returned (.int .u32 (((formIN 0 (firstRN h) 0 0 103) : Nat) : Int)) ∧ W = W' := by
  have c0 : ∀ W, Calls Try.prog 50 #[.int .u32 ((h : Nat) : Int)] W fun e W' => e = .returned (.int .u32 (((firstRN h) : Nat) : Int)) ∧ W = W' := fun W => firstR_any h W
  have c1 : ∀ W, Calls Try.prog 58 #[.int .u32 ((h : Nat) : Int)] W fun e W' => e = .returned (.int .u32 (((secondRN h) : Nat) : Int)) ∧ W = W' := fun W => secondR_any h W
  have c2 : ∀ W, Calls Try.prog 29 #[.int .u32 ((h : Nat) : Int), .int .u64 12, .int .u64 12] W fun e W' => e = .returned (.int .u32 0) ∧ W = W' := fun W => by
    have h := bits_gen h 12 12 W (by omega) (by omega)
    rw [h0] at h
    exact h
  have c3 : ∀ W, Calls Try.prog 46 #[.int .u32 0, .int .u32 (((firstRN h) : Nat) : Int), .int .u32 0, .int .u32 0, .int .u32 103] W fun e W' => e = .returned (.int .u32 (((formIN 0 (firstRN h) 0 0 103) : Nat) : Int)) ∧ W = W' := fun W => formI_any 0 (firstRN h) 0 0 103 W
  have p1 : (((((secondRN h) : Nat) : Int) : Int) == 0) = true := by rw [beq_iff_eq]; rw [h1]; rfl
  have q1 : (((((secondRN h) : Nat) : Int) : Int) != 0) = false := by rw [bne, p1]; rfl
  have p2 : (((((firstRN h) : Nat) : Int) : Int) == 0) = false := by rw [beq_eq_false_iff_ne]; omega
  have q2 : (((((firstRN h) : Nat) : Int) : Int) != 0) = true := by rw [bne, p2]; rfl
  go_enter Try.func62, Try.ntmps62
  go_wp2_with (first | (go_at_call 50; (with_reducible refine (c0 _).mono ?_); rintro e w' ⟨rfl, rfl⟩) | (go_at_call 58; (with_reducible refine (c1 _).mono ?_); rintro e w' ⟨rfl, rfl⟩) | (go_at_call 29; (with_reducible refine (c2 _).mono ?_); rintro e w' ⟨rfl, rfl⟩) | (go_at_call 46; (with_reducible refine (c3 _).mono ?_); rintro e w' ⟨rfl, rfl⟩) | fail)
  go_ret
  refine ⟨ret_int ?_, rfl⟩
  first | rfl | (simp only [nats]; rfl)
set_option maxHeartbeats 1000000 in
theorem jumpOrPair_0_n (h : Nat) (W : World) (h0 : (cutN h 12 1) = 0) (h1 : (secondRN h) ≠ 0) : Calls Try.prog 62 #[.int .u32 (h : Nat)] W fun e W' => e = .returned (.int .u32 (((formRN 0 (secondRN h) 0 0 (firstRN h) 51) : Nat) : Int)) ∧ W = W' := by
  have c0 : ∀ W, Calls Try.prog 50 #[.int .u32 ((h : Nat) : Int)] W fun e W' => e = .returned (.int .u32 (((firstRN h) : Nat) : Int)) ∧ W = W' := fun W => firstR_any h W
  have c1 : ∀ W, Calls Try.prog 58 #[.int .u32 ((h : Nat) : Int)] W fun e W' => e = .returned (.int .u32 (((secondRN h) : Nat) : Int)) ∧ W = W' := fun W => secondR_any h W
  have c2 : ∀ W, Calls Try.prog 29 #[.int .u32 ((h : Nat) : Int), .int .u64 12, .int .u64 12] W fun e W' => e = .returned (.int .u32 0) ∧ W = W' := fun W => by
    have h := bits_gen h 12 12 W (by omega) (by omega)
    rw [h0] at h
    exact h
  have c3 : ∀ W, Calls Try.prog 71 #[.int .u32 0, .int .u32 (((secondRN h) : Nat) : Int), .int .u32 0, .int .u32 0, .int .u32 (((firstRN h) : Nat) : Int), .int .u32 51] W fun e W' => e = .returned (.int .u32 (((formRN 0 (secondRN h) 0 0 (firstRN h) 51) : Nat) : Int)) ∧ W = W' := fun W => formR_any 0 (secondRN h) 0 0 (firstRN h) 51 W
  have p1 : (((((secondRN h) : Nat) : Int) : Int) == 0) = false := by rw [beq_eq_false_iff_ne]; omega
  have q1 : (((((secondRN h) : Nat) : Int) : Int) != 0) = true := by rw [bne, p1]; rfl
  go_enter Try.func62, Try.ntmps62
  go_wp2_with (first | (go_at_call 50; (with_reducible refine (c0 _).mono ?_); rintro e w' ⟨rfl, rfl⟩) | (go_at_call 58; (with_reducible refine (c1 _).mono ?_); rintro e w' ⟨rfl, rfl⟩) | (go_at_call 29; (with_reducible refine (c2 _).mono ?_); rintro e w' ⟨rfl, rfl⟩) | (go_at_call 71; (with_reducible refine (c3 _).mono ?_); rintro e w' ⟨rfl, rfl⟩) | fail)
  go_ret
  refine ⟨ret_int ?_, rfl⟩
  first | rfl | (simp only [nats]; rfl)
set_option maxHeartbeats 1000000 in
theorem jumpOrPair_1_y_y (h : Nat) (W : World) (h0 : (cutN h 12 1) = 1) (h1 : (secondRN h) = 0) (h2 : (firstRN h) = 0) : Calls Try.prog 62 #[.int .u32 (h : Nat)] W fun e W' => e = .returned (.int .u32 ((1048691 : Nat) : Int)) ∧ W = W' := by
  have c0 : ∀ W, Calls Try.prog 50 #[.int .u32 ((h : Nat) : Int)] W fun e W' => e = .returned (.int .u32 (((firstRN h) : Nat) : Int)) ∧ W = W' := fun W => firstR_any h W
  have c1 : ∀ W, Calls Try.prog 58 #[.int .u32 ((h : Nat) : Int)] W fun e W' => e = .returned (.int .u32 (((secondRN h) : Nat) : Int)) ∧ W = W' := fun W => secondR_any h W
  have c2 : ∀ W, Calls Try.prog 29 #[.int .u32 ((h : Nat) : Int), .int .u64 12, .int .u64 12] W fun e W' => e = .returned (.int .u32 1) ∧ W = W' := fun W => by
    have h := bits_gen h 12 12 W (by omega) (by omega)
    rw [h0] at h
    exact h
  have p1 : (((((secondRN h) : Nat) : Int) : Int) == 0) = true := by rw [beq_iff_eq]; rw [h1]; rfl
  have q1 : (((((secondRN h) : Nat) : Int) : Int) != 0) = false := by rw [bne, p1]; rfl
  have p2 : (((((firstRN h) : Nat) : Int) : Int) == 0) = true := by rw [beq_iff_eq]; rw [h2]; rfl
  have q2 : (((((firstRN h) : Nat) : Int) : Int) != 0) = false := by rw [bne, p2]; rfl
  go_enter Try.func62, Try.ntmps62
  go_wp2_with (first | (go_at_call 50; (with_reducible refine (c0 _).mono ?_); rintro e w' ⟨rfl, rfl⟩) | (go_at_call 58; (with_reducible refine (c1 _).mono ?_); rintro e w' ⟨rfl, rfl⟩) | (go_at_call 29; (with_reducible refine (c2 _).mono ?_); rintro e w' ⟨rfl, rfl⟩) | fail)
  go_ret
  refine ⟨ret_int ?_, rfl⟩
  first | rfl | (simp only [nats]; rfl)
set_option maxHeartbeats 1000000 in
theorem jumpOrPair_1_y_n (h : Nat) (W : World) (h0 : (cutN h 12 1) = 1) (h1 : (secondRN h) = 0) (h2 : (firstRN h) ≠ 0) : Calls Try.prog 62 #[.int .u32 (h : Nat)] W fun e W' => e = .returned (.int .u32 (((formIN 0 (firstRN h) 0 1 103) : Nat) : Int)) ∧ W = W' := by
  have c0 : ∀ W, Calls Try.prog 50 #[.int .u32 ((h : Nat) : Int)] W fun e W' => e = .returned (.int .u32 (((firstRN h) : Nat) : Int)) ∧ W = W' := fun W => firstR_any h W
  have c1 : ∀ W, Calls Try.prog 58 #[.int .u32 ((h : Nat) : Int)] W fun e W' => e = .returned (.int .u32 (((secondRN h) : Nat) : Int)) ∧ W = W' := fun W => secondR_any h W
  have c2 : ∀ W, Calls Try.prog 29 #[.int .u32 ((h : Nat) : Int), .int .u64 12, .int .u64 12] W fun e W' => e = .returned (.int .u32 1) ∧ W = W' := fun W => by
    have h := bits_gen h 12 12 W (by omega) (by omega)
    rw [h0] at h
    exact h
  have c3 : ∀ W, Calls Try.prog 46 #[.int .u32 0, .int .u32 (((firstRN h) : Nat) : Int), .int .u32 0, .int .u32 1, .int .u32 103] W fun e W' => e = .returned (.int .u32 (((formIN 0 (firstRN h) 0 1 103) : Nat) : Int)) ∧ W = W' := fun W => formI_any 0 (firstRN h) 0 1 103 W
  have p1 : (((((secondRN h) : Nat) : Int) : Int) == 0) = true := by rw [beq_iff_eq]; rw [h1]; rfl
  have q1 : (((((secondRN h) : Nat) : Int) : Int) != 0) = false := by rw [bne, p1]; rfl
  have p2 : (((((firstRN h) : Nat) : Int) : Int) == 0) = false := by rw [beq_eq_false_iff_ne]; omega
  have q2 : (((((firstRN h) : Nat) : Int) : Int) != 0) = true := by rw [bne, p2]; rfl
  go_enter Try.func62, Try.ntmps62
  go_wp2_with (first | (go_at_call 50; (with_reducible refine (c0 _).mono ?_); rintro e w' ⟨rfl, rfl⟩) | (go_at_call 58; (with_reducible refine (c1 _).mono ?_); rintro e w' ⟨rfl, rfl⟩) | (go_at_call 29; (with_reducible refine (c2 _).mono ?_); rintro e w' ⟨rfl, rfl⟩) | (go_at_call 46; (with_reducible refine (c3 _).mono ?_); rintro e w' ⟨rfl, rfl⟩) | fail)
  go_ret
  refine ⟨ret_int ?_, rfl⟩
  first | rfl | (simp only [nats]; rfl)
set_option maxHeartbeats 1000000 in
theorem jumpOrPair_1_n (h : Nat) (W : World) (h0 : (cutN h 12 1) = 1) (h1 : (secondRN h) ≠ 0) : Calls Try.prog 62 #[.int .u32 (h : Nat)] W fun e W' => e = .returned (.int .u32 (((formRN 0 (secondRN h) (firstRN h) 0 (firstRN h) 51) : Nat) : Int)) ∧ W = W' := by
  have c0 : ∀ W, Calls Try.prog 50 #[.int .u32 ((h : Nat) : Int)] W fun e W' => e = .returned (.int .u32 (((firstRN h) : Nat) : Int)) ∧ W = W' := fun W => firstR_any h W
  have c1 : ∀ W, Calls Try.prog 58 #[.int .u32 ((h : Nat) : Int)] W fun e W' => e = .returned (.int .u32 (((secondRN h) : Nat) : Int)) ∧ W = W' := fun W => secondR_any h W
  have c2 : ∀ W, Calls Try.prog 29 #[.int .u32 ((h : Nat) : Int), .int .u64 12, .int .u64 12] W fun e W' => e = .returned (.int .u32 1) ∧ W = W' := fun W => by
    have h := bits_gen h 12 12 W (by omega) (by omega)
    rw [h0] at h
    exact h
  have c3 : ∀ W, Calls Try.prog 71 #[.int .u32 0, .int .u32 (((secondRN h) : Nat) : Int), .int .u32 (((firstRN h) : Nat) : Int), .int .u32 0, .int .u32 (((firstRN h) : Nat) : Int), .int .u32 51] W fun e W' => e = .returned (.int .u32 (((formRN 0 (secondRN h) (firstRN h) 0 (firstRN h) 51) : Nat) : Int)) ∧ W = W' := fun W => formR_any 0 (secondRN h) (firstRN h) 0 (firstRN h) 51 W
  have p1 : (((((secondRN h) : Nat) : Int) : Int) == 0) = false := by rw [beq_eq_false_iff_ne]; omega
  have q1 : (((((secondRN h) : Nat) : Int) : Int) != 0) = true := by rw [bne, p1]; rfl
  go_enter Try.func62, Try.ntmps62
  go_wp2_with (first | (go_at_call 50; (with_reducible refine (c0 _).mono ?_); rintro e w' ⟨rfl, rfl⟩) | (go_at_call 58; (with_reducible refine (c1 _).mono ?_); rintro e w' ⟨rfl, rfl⟩) | (go_at_call 29; (with_reducible refine (c2 _).mono ?_); rintro e w' ⟨rfl, rfl⟩) | (go_at_call 71; (with_reducible refine (c3 _).mono ?_); rintro e w' ⟨rfl, rfl⟩) | fail)
  go_ret
  refine ⟨ret_int ?_, rfl⟩
  first | rfl | (simp only [nats]; rfl)
theorem jumpOrPair_any (h : Nat) (W : World) : Calls Try.prog 62 #[.int .u32 (h : Nat)] W fun e W' => e = .returned (.int .u32 ((jumpOrPairN h : Nat) : Int)) ∧ W = W' := by
  have l0 := cutN_lt h 12 1
  have b0 : (cutN h 12 1) = 0 ∨ (cutN h 12 1) = 1 := by omega
  rcases b0 with h0 | h0
  · by_cases h1 : (secondRN h) = 0
    · by_cases h2 : (firstRN h) = 0
      · rw [show jumpOrPairN h = 0 from by unfold jumpOrPairN; rw [beqT h0, cond_true, beqT h1, cond_true, beqT h2, cond_true]]
        exact jumpOrPair_0_y_y h W h0 h1 h2
      · rw [show jumpOrPairN h = (formIN 0 (firstRN h) 0 0 103) from by unfold jumpOrPairN; rw [beqT h0, cond_true, beqT h1, cond_true, beqF h2, cond_false]]
        exact jumpOrPair_0_y_n h W h0 h1 h2
    · rw [show jumpOrPairN h = (formRN 0 (secondRN h) 0 0 (firstRN h) 51) from by unfold jumpOrPairN; rw [beqT h0, cond_true, beqF h1, cond_false]]
      exact jumpOrPair_0_n h W h0 h1
  · by_cases h1 : (secondRN h) = 0
    · by_cases h2 : (firstRN h) = 0
      · rw [show jumpOrPairN h = 1048691 from by unfold jumpOrPairN; rw [beqF (show (cutN h 12 1) ≠ 0 by omega), cond_false, beqT h0, cond_true, beqT h1, cond_true, beqT h2, cond_true]]
        exact jumpOrPair_1_y_y h W h0 h1 h2
      · rw [show jumpOrPairN h = (formIN 0 (firstRN h) 0 1 103) from by unfold jumpOrPairN; rw [beqF (show (cutN h 12 1) ≠ 0 by omega), cond_false, beqT h0, cond_true, beqT h1, cond_true, beqF h2, cond_false]]
        exact jumpOrPair_1_y_n h W h0 h1 h2
    · rw [show jumpOrPairN h = (formRN 0 (secondRN h) (firstRN h) 0 (firstRN h) 51) from by unfold jumpOrPairN; rw [beqF (show (cutN h 12 1) ≠ 0 by omega), cond_false, beqT h0, cond_true, beqF h1, cond_false]]
      exact jumpOrPair_1_n h W h0 h1
def word2N (h : Nat) : Nat := (bif Nat.beq (cutN h 13 3) 0 then (formIN (numberMN h) (firstRN h) 1 (firstRN h) 19) else (bif Nat.beq (cutN h 13 3) 2 then (bif Nat.beq (firstRN h) 0 then 0 else (formIN (stackLoadOfWordN h) 2 2 (firstRN h) 3)) else (bif Nat.beq (cutN h 13 3) 3 then (bif Nat.beq (firstRN h) 0 then 0 else (formIN (stackLoadOfDoubleN h) 2 3 (firstRN h) 3)) else (bif Nat.beq (cutN h 13 3) 4 then (jumpOrPairN h) else (bif Nat.beq (cutN h 13 3) 6 then (formSN (stackStoreOfWordN h) (secondRN h) 2 2 35) else (bif Nat.beq (cutN h 13 3) 7 then (formSN (stackStoreOfDoubleN h) (secondRN h) 2 3 35) else 0))))))
set_option maxHeartbeats 1000000 in
theorem word2_0 (h : Nat) (W : World) (h0 : (cutN h 13 3) = 0) : Calls Try.prog 32 #[.int .u32 (h : Nat)] W fun e W' => e = .returned (.int .u32 (((formIN (numberMN h) (firstRN h) 1 (firstRN h) 19) : Nat) : Int)) ∧ W = W' := by
  have c0 : ∀ W, Calls Try.prog 50 #[.int .u32 ((h : Nat) : Int)] W fun e W' => e = .returned (.int .u32 (((firstRN h) : Nat) : Int)) ∧ W = W' := fun W => firstR_any h W
  have c1 : ∀ W, Calls Try.prog 58 #[.int .u32 ((h : Nat) : Int)] W fun e W' => e = .returned (.int .u32 (((secondRN h) : Nat) : Int)) ∧ W = W' := fun W => secondR_any h W
  have c2 : ∀ W, Calls Try.prog 29 #[.int .u32 ((h : Nat) : Int), .int .u64 15, .int .u64 13] W fun e W' => e = .returned (.int .u32 0) ∧ W = W' := fun W => by
    have h := bits_gen h 15 13 W (by omega) (by omega)
    rw [h0] at h
    exact h
  have c3 : ∀ W, Calls Try.prog 59 #[.int .u32 ((h : Nat) : Int)] W fun e W' => e = .returned (.int .u32 (((numberMN h) : Nat) : Int)) ∧ W = W' := fun W => numberM_any h W
  have c4 : ∀ W, Calls Try.prog 46 #[.int .u32 (((numberMN h) : Nat) : Int), .int .u32 (((firstRN h) : Nat) : Int), .int .u32 1, .int .u32 (((firstRN h) : Nat) : Int), .int .u32 19] W fun e W' => e = .returned (.int .u32 (((formIN (numberMN h) (firstRN h) 1 (firstRN h) 19) : Nat) : Int)) ∧ W = W' := fun W => formI_any (numberMN h) (firstRN h) 1 (firstRN h) 19 W
  go_enter Try.func32, Try.ntmps32
  go_wp2_with (first | (go_at_call 50; (with_reducible refine (c0 _).mono ?_); rintro e w' ⟨rfl, rfl⟩) | (go_at_call 58; (with_reducible refine (c1 _).mono ?_); rintro e w' ⟨rfl, rfl⟩) | (go_at_call 29; (with_reducible refine (c2 _).mono ?_); rintro e w' ⟨rfl, rfl⟩) | (go_at_call 59; (with_reducible refine (c3 _).mono ?_); rintro e w' ⟨rfl, rfl⟩) | (go_at_call 46; (with_reducible refine (c4 _).mono ?_); rintro e w' ⟨rfl, rfl⟩) | fail)
  go_ret
  refine ⟨ret_int ?_, rfl⟩
  first | rfl | (simp only [nats]; rfl)
set_option maxHeartbeats 1000000 in
theorem word2_1 (h : Nat) (W : World) (h0 : (cutN h 13 3) = 1) : Calls Try.prog 32 #[.int .u32 (h : Nat)] W fun e W' => e = .returned (.int .u32 0) ∧ W = W' := by
  have c0 : ∀ W, Calls Try.prog 50 #[.int .u32 ((h : Nat) : Int)] W fun e W' => e = .returned (.int .u32 (((firstRN h) : Nat) : Int)) ∧ W = W' := fun W => firstR_any h W
  have c1 : ∀ W, Calls Try.prog 58 #[.int .u32 ((h : Nat) : Int)] W fun e W' => e = .returned (.int .u32 (((secondRN h) : Nat) : Int)) ∧ W = W' := fun W => secondR_any h W
  have c2 : ∀ W, Calls Try.prog 29 #[.int .u32 ((h : Nat) : Int), .int .u64 15, .int .u64 13] W fun e W' => e = .returned (.int .u32 1) ∧ W = W' := fun W => by
    have h := bits_gen h 15 13 W (by omega) (by omega)
    rw [h0] at h
    exact h
  go_enter Try.func32, Try.ntmps32
  go_wp2_with (first | (go_at_call 50; (with_reducible refine (c0 _).mono ?_); rintro e w' ⟨rfl, rfl⟩) | (go_at_call 58; (with_reducible refine (c1 _).mono ?_); rintro e w' ⟨rfl, rfl⟩) | (go_at_call 29; (with_reducible refine (c2 _).mono ?_); rintro e w' ⟨rfl, rfl⟩) | fail)
  go_ret
  exact ⟨rfl, rfl⟩
set_option maxHeartbeats 1000000 in
theorem word2_2_y (h : Nat) (W : World) (h0 : (cutN h 13 3) = 2) (h1 : (firstRN h) = 0) : Calls Try.prog 32 #[.int .u32 (h : Nat)] W fun e W' => e = .returned (.int .u32 0) ∧ W = W' := by
  have c0 : ∀ W, Calls Try.prog 50 #[.int .u32 ((h : Nat) : Int)] W fun e W' => e = .returned (.int .u32 (((firstRN h) : Nat) : Int)) ∧ W = W' := fun W => firstR_any h W
  have c1 : ∀ W, Calls Try.prog 58 #[.int .u32 ((h : Nat) : Int)] W fun e W' => e = .returned (.int .u32 (((secondRN h) : Nat) : Int)) ∧ W = W' := fun W => secondR_any h W
  have c2 : ∀ W, Calls Try.prog 29 #[.int .u32 ((h : Nat) : Int), .int .u64 15, .int .u64 13] W fun e W' => e = .returned (.int .u32 2) ∧ W = W' := fun W => by
    have h := bits_gen h 15 13 W (by omega) (by omega)
    rw [h0] at h
    exact h
  have p1 : (((((firstRN h) : Nat) : Int) : Int) == 0) = true := by rw [beq_iff_eq]; rw [h1]; rfl
  have q1 : (((((firstRN h) : Nat) : Int) : Int) != 0) = false := by rw [bne, p1]; rfl
  go_enter Try.func32, Try.ntmps32
  go_wp2_with (first | (go_at_call 50; (with_reducible refine (c0 _).mono ?_); rintro e w' ⟨rfl, rfl⟩) | (go_at_call 58; (with_reducible refine (c1 _).mono ?_); rintro e w' ⟨rfl, rfl⟩) | (go_at_call 29; (with_reducible refine (c2 _).mono ?_); rintro e w' ⟨rfl, rfl⟩) | fail)
  go_ret
  exact ⟨rfl, rfl⟩
set_option maxHeartbeats 1000000 in
theorem word2_2_n (h : Nat) (W : World) (h0 : (cutN h 13 3) = 2) (h1 : (firstRN h) ≠ 0) : Calls Try.prog 32 #[.int .u32 (h : Nat)] W fun e W' => e = .returned (.int .u32 (((formIN (stackLoadOfWordN h) 2 2 (firstRN h) 3) : Nat) : Int)) ∧ W = W' := by
  have c0 : ∀ W, Calls Try.prog 50 #[.int .u32 ((h : Nat) : Int)] W fun e W' => e = .returned (.int .u32 (((firstRN h) : Nat) : Int)) ∧ W = W' := fun W => firstR_any h W
  have c1 : ∀ W, Calls Try.prog 58 #[.int .u32 ((h : Nat) : Int)] W fun e W' => e = .returned (.int .u32 (((secondRN h) : Nat) : Int)) ∧ W = W' := fun W => secondR_any h W
  have c2 : ∀ W, Calls Try.prog 29 #[.int .u32 ((h : Nat) : Int), .int .u64 15, .int .u64 13] W fun e W' => e = .returned (.int .u32 2) ∧ W = W' := fun W => by
    have h := bits_gen h 15 13 W (by omega) (by omega)
    rw [h0] at h
    exact h
  have c3 : ∀ W, Calls Try.prog 60 #[.int .u32 ((h : Nat) : Int)] W fun e W' => e = .returned (.int .u32 (((stackLoadOfWordN h) : Nat) : Int)) ∧ W = W' := fun W => stackLoadOfWord_any h W
  have c4 : ∀ W, Calls Try.prog 46 #[.int .u32 (((stackLoadOfWordN h) : Nat) : Int), .int .u32 2, .int .u32 2, .int .u32 (((firstRN h) : Nat) : Int), .int .u32 3] W fun e W' => e = .returned (.int .u32 (((formIN (stackLoadOfWordN h) 2 2 (firstRN h) 3) : Nat) : Int)) ∧ W = W' := fun W => formI_any (stackLoadOfWordN h) 2 2 (firstRN h) 3 W
  have p1 : (((((firstRN h) : Nat) : Int) : Int) == 0) = false := by rw [beq_eq_false_iff_ne]; omega
  have q1 : (((((firstRN h) : Nat) : Int) : Int) != 0) = true := by rw [bne, p1]; rfl
  go_enter Try.func32, Try.ntmps32
  go_wp2_with (first | (go_at_call 50; (with_reducible refine (c0 _).mono ?_); rintro e w' ⟨rfl, rfl⟩) | (go_at_call 58; (with_reducible refine (c1 _).mono ?_); rintro e w' ⟨rfl, rfl⟩) | (go_at_call 29; (with_reducible refine (c2 _).mono ?_); rintro e w' ⟨rfl, rfl⟩) | (go_at_call 60; (with_reducible refine (c3 _).mono ?_); rintro e w' ⟨rfl, rfl⟩) | (go_at_call 46; (with_reducible refine (c4 _).mono ?_); rintro e w' ⟨rfl, rfl⟩) | fail)
  go_ret
  refine ⟨ret_int ?_, rfl⟩
  first | rfl | (simp only [nats]; rfl)
set_option maxHeartbeats 1000000 in
theorem word2_3_y (h : Nat) (W : World) (h0 : (cutN h 13 3) = 3) (h1 : (firstRN h) = 0) : Calls Try.prog 32 #[.int .u32 (h : Nat)] W fun e W' => e = .returned (.int .u32 0) ∧ W = W' := by
  have c0 : ∀ W, Calls Try.prog 50 #[.int .u32 ((h : Nat) : Int)] W fun e W' => e = .returned (.int .u32 (((firstRN h) : Nat) : Int)) ∧ W = W' := fun W => firstR_any h W
  have c1 : ∀ W, Calls Try.prog 58 #[.int .u32 ((h : Nat) : Int)] W fun e W' => e = .returned (.int .u32 (((secondRN h) : Nat) : Int)) ∧ W = W' := fun W => secondR_any h W
  have c2 : ∀ W, Calls Try.prog 29 #[.int .u32 ((h : Nat) : Int), .int .u64 15, .int .u64 13] W fun e W' => e = .returned (.int .u32 3) ∧ W = W' := fun W => by
    have h := bits_gen h 15 13 W (by omega) (by omega)
    rw [h0] at h
    exact h
  have p1 : (((((firstRN h) : Nat) : Int) : Int) == 0) = true := by rw [beq_iff_eq]; rw [h1]; rfl
  have q1 : (((((firstRN h) : Nat) : Int) : Int) != 0) = false := by rw [bne, p1]; rfl
  go_enter Try.func32, Try.ntmps32
  go_wp2_with (first | (go_at_call 50; (with_reducible refine (c0 _).mono ?_); rintro e w' ⟨rfl, rfl⟩) | (go_at_call 58; (with_reducible refine (c1 _).mono ?_); rintro e w' ⟨rfl, rfl⟩) | (go_at_call 29; (with_reducible refine (c2 _).mono ?_); rintro e w' ⟨rfl, rfl⟩) | fail)
  go_ret
  exact ⟨rfl, rfl⟩
set_option maxHeartbeats 1000000 in
theorem word2_3_n (h : Nat) (W : World) (h0 : (cutN h 13 3) = 3) (h1 : (firstRN h) ≠ 0) : Calls Try.prog 32 #[.int .u32 (h : Nat)] W fun e W' => e = .returned (.int .u32 (((formIN (stackLoadOfDoubleN h) 2 3 (firstRN h) 3) : Nat) : Int)) ∧ W = W' := by
  have c0 : ∀ W, Calls Try.prog 50 #[.int .u32 ((h : Nat) : Int)] W fun e W' => e = .returned (.int .u32 (((firstRN h) : Nat) : Int)) ∧ W = W' := fun W => firstR_any h W
  have c1 : ∀ W, Calls Try.prog 58 #[.int .u32 ((h : Nat) : Int)] W fun e W' => e = .returned (.int .u32 (((secondRN h) : Nat) : Int)) ∧ W = W' := fun W => secondR_any h W
  have c2 : ∀ W, Calls Try.prog 29 #[.int .u32 ((h : Nat) : Int), .int .u64 15, .int .u64 13] W fun e W' => e = .returned (.int .u32 3) ∧ W = W' := fun W => by
    have h := bits_gen h 15 13 W (by omega) (by omega)
    rw [h0] at h
    exact h
  have c3 : ∀ W, Calls Try.prog 61 #[.int .u32 ((h : Nat) : Int)] W fun e W' => e = .returned (.int .u32 (((stackLoadOfDoubleN h) : Nat) : Int)) ∧ W = W' := fun W => stackLoadOfDouble_any h W
  have c4 : ∀ W, Calls Try.prog 46 #[.int .u32 (((stackLoadOfDoubleN h) : Nat) : Int), .int .u32 2, .int .u32 3, .int .u32 (((firstRN h) : Nat) : Int), .int .u32 3] W fun e W' => e = .returned (.int .u32 (((formIN (stackLoadOfDoubleN h) 2 3 (firstRN h) 3) : Nat) : Int)) ∧ W = W' := fun W => formI_any (stackLoadOfDoubleN h) 2 3 (firstRN h) 3 W
  have p1 : (((((firstRN h) : Nat) : Int) : Int) == 0) = false := by rw [beq_eq_false_iff_ne]; omega
  have q1 : (((((firstRN h) : Nat) : Int) : Int) != 0) = true := by rw [bne, p1]; rfl
  go_enter Try.func32, Try.ntmps32
  go_wp2_with (first | (go_at_call 50; (with_reducible refine (c0 _).mono ?_); rintro e w' ⟨rfl, rfl⟩) | (go_at_call 58; (with_reducible refine (c1 _).mono ?_); rintro e w' ⟨rfl, rfl⟩) | (go_at_call 29; (with_reducible refine (c2 _).mono ?_); rintro e w' ⟨rfl, rfl⟩) | (go_at_call 61; (with_reducible refine (c3 _).mono ?_); rintro e w' ⟨rfl, rfl⟩) | (go_at_call 46; (with_reducible refine (c4 _).mono ?_); rintro e w' ⟨rfl, rfl⟩) | fail)
  go_ret
  refine ⟨ret_int ?_, rfl⟩
  first | rfl | (simp only [nats]; rfl)
set_option maxHeartbeats 1000000 in
theorem word2_4 (h : Nat) (W : World) (h0 : (cutN h 13 3) = 4) : Calls Try.prog 32 #[.int .u32 (h : Nat)] W fun e W' => e = .returned (.int .u32 (((jumpOrPairN h) : Nat) : Int)) ∧ W = W' := by
  have c0 : ∀ W, Calls Try.prog 50 #[.int .u32 ((h : Nat) : Int)] W fun e W' => e = .returned (.int .u32 (((firstRN h) : Nat) : Int)) ∧ W = W' := fun W => firstR_any h W
  have c1 : ∀ W, Calls Try.prog 58 #[.int .u32 ((h : Nat) : Int)] W fun e W' => e = .returned (.int .u32 (((secondRN h) : Nat) : Int)) ∧ W = W' := fun W => secondR_any h W
  have c2 : ∀ W, Calls Try.prog 29 #[.int .u32 ((h : Nat) : Int), .int .u64 15, .int .u64 13] W fun e W' => e = .returned (.int .u32 4) ∧ W = W' := fun W => by
    have h := bits_gen h 15 13 W (by omega) (by omega)
    rw [h0] at h
    exact h
  have c3 : ∀ W, Calls Try.prog 62 #[.int .u32 ((h : Nat) : Int)] W fun e W' => e = .returned (.int .u32 (((jumpOrPairN h) : Nat) : Int)) ∧ W = W' := fun W => jumpOrPair_any h W
  go_enter Try.func32, Try.ntmps32
  go_wp2_with (first | (go_at_call 50; (with_reducible refine (c0 _).mono ?_); rintro e w' ⟨rfl, rfl⟩) | (go_at_call 58; (with_reducible refine (c1 _).mono ?_); rintro e w' ⟨rfl, rfl⟩) | (go_at_call 29; (with_reducible refine (c2 _).mono ?_); rintro e w' ⟨rfl, rfl⟩) | (go_at_call 62; (with_reducible refine (c3 _).mono ?_); rintro e w' ⟨rfl, rfl⟩) | fail)
  go_ret
  refine ⟨ret_int ?_, rfl⟩
  first | rfl | (simp only [nats]; rfl)
set_option maxHeartbeats 1000000 in
theorem word2_5 (h : Nat) (W : World) (h0 : (cutN h 13 3) = 5) : Calls Try.prog 32 #[.int .u32 (h : Nat)] W fun e W' => e = .returned (.int .u32 0) ∧ W = W' := by
  have c0 : ∀ W, Calls Try.prog 50 #[.int .u32 ((h : Nat) : Int)] W fun e W' => e = .returned (.int .u32 (((firstRN h) : Nat) : Int)) ∧ W = W' := fun W => firstR_any h W
  have c1 : ∀ W, Calls Try.prog 58 #[.int .u32 ((h : Nat) : Int)] W fun e W' => e = .returned (.int .u32 (((secondRN h) : Nat) : Int)) ∧ W = W' := fun W => secondR_any h W
  have c2 : ∀ W, Calls Try.prog 29 #[.int .u32 ((h : Nat) : Int), .int .u64 15, .int .u64 13] W fun e W' => e = .returned (.int .u32 5) ∧ W = W' := fun W => by
    have h := bits_gen h 15 13 W (by omega) (by omega)
    rw [h0] at h
    exact h
  go_enter Try.func32, Try.ntmps32
  go_wp2_with (first | (go_at_call 50; (with_reducible refine (c0 _).mono ?_); rintro e w' ⟨rfl, rfl⟩) | (go_at_call 58; (with_reducible refine (c1 _).mono ?_); rintro e w' ⟨rfl, rfl⟩) | (go_at_call 29; (with_reducible refine (c2 _).mono ?_); rintro e w' ⟨rfl, rfl⟩) | fail)
  go_ret
  exact ⟨rfl, rfl⟩
set_option maxHeartbeats 1000000 in
theorem word2_6 (h : Nat) (W : World) (h0 : (cutN h 13 3) = 6) : Calls Try.prog 32 #[.int .u32 (h : Nat)] W fun e W' => e = .returned (.int .u32 (((formSN (stackStoreOfWordN h) (secondRN h) 2 2 35) : Nat) : Int)) ∧ W = W' := by
  have c0 : ∀ W, Calls Try.prog 50 #[.int .u32 ((h : Nat) : Int)] W fun e W' => e = .returned (.int .u32 (((firstRN h) : Nat) : Int)) ∧ W = W' := fun W => firstR_any h W
  have c1 : ∀ W, Calls Try.prog 58 #[.int .u32 ((h : Nat) : Int)] W fun e W' => e = .returned (.int .u32 (((secondRN h) : Nat) : Int)) ∧ W = W' := fun W => secondR_any h W
  have c2 : ∀ W, Calls Try.prog 29 #[.int .u32 ((h : Nat) : Int), .int .u64 15, .int .u64 13] W fun e W' => e = .returned (.int .u32 6) ∧ W = W' := fun W => by
    have h := bits_gen h 15 13 W (by omega) (by omega)
    rw [h0] at h
    exact h
  have c3 : ∀ W, Calls Try.prog 63 #[.int .u32 ((h : Nat) : Int)] W fun e W' => e = .returned (.int .u32 (((stackStoreOfWordN h) : Nat) : Int)) ∧ W = W' := fun W => stackStoreOfWord_any h W
  have c4 : ∀ W, Calls Try.prog 49 #[.int .u32 (((stackStoreOfWordN h) : Nat) : Int), .int .u32 (((secondRN h) : Nat) : Int), .int .u32 2, .int .u32 2, .int .u32 35] W fun e W' => e = .returned (.int .u32 (((formSN (stackStoreOfWordN h) (secondRN h) 2 2 35) : Nat) : Int)) ∧ W = W' := fun W => formS_any (stackStoreOfWordN h) (secondRN h) 2 2 35 W
  go_enter Try.func32, Try.ntmps32
  go_wp2_with (first | (go_at_call 50; (with_reducible refine (c0 _).mono ?_); rintro e w' ⟨rfl, rfl⟩) | (go_at_call 58; (with_reducible refine (c1 _).mono ?_); rintro e w' ⟨rfl, rfl⟩) | (go_at_call 29; (with_reducible refine (c2 _).mono ?_); rintro e w' ⟨rfl, rfl⟩) | (go_at_call 63; (with_reducible refine (c3 _).mono ?_); rintro e w' ⟨rfl, rfl⟩) | (go_at_call 49; (with_reducible refine (c4 _).mono ?_); rintro e w' ⟨rfl, rfl⟩) | fail)
  go_ret
  refine ⟨ret_int ?_, rfl⟩
  first | rfl | (simp only [nats]; rfl)
set_option maxHeartbeats 1000000 in
theorem word2_7 (h : Nat) (W : World) (h0 : (cutN h 13 3) = 7) : Calls Try.prog 32 #[.int .u32 (h : Nat)] W fun e W' => e = .returned (.int .u32 (((formSN (stackStoreOfDoubleN h) (secondRN h) 2 3 35) : Nat) : Int)) ∧ W = W' := by
  have c0 : ∀ W, Calls Try.prog 50 #[.int .u32 ((h : Nat) : Int)] W fun e W' => e = .returned (.int .u32 (((firstRN h) : Nat) : Int)) ∧ W = W' := fun W => firstR_any h W
  have c1 : ∀ W, Calls Try.prog 58 #[.int .u32 ((h : Nat) : Int)] W fun e W' => e = .returned (.int .u32 (((secondRN h) : Nat) : Int)) ∧ W = W' := fun W => secondR_any h W
  have c2 : ∀ W, Calls Try.prog 29 #[.int .u32 ((h : Nat) : Int), .int .u64 15, .int .u64 13] W fun e W' => e = .returned (.int .u32 7) ∧ W = W' := fun W => by
    have h := bits_gen h 15 13 W (by omega) (by omega)
    rw [h0] at h
    exact h
  have c3 : ∀ W, Calls Try.prog 64 #[.int .u32 ((h : Nat) : Int)] W fun e W' => e = .returned (.int .u32 (((stackStoreOfDoubleN h) : Nat) : Int)) ∧ W = W' := fun W => stackStoreOfDouble_any h W
  have c4 : ∀ W, Calls Try.prog 49 #[.int .u32 (((stackStoreOfDoubleN h) : Nat) : Int), .int .u32 (((secondRN h) : Nat) : Int), .int .u32 2, .int .u32 3, .int .u32 35] W fun e W' => e = .returned (.int .u32 (((formSN (stackStoreOfDoubleN h) (secondRN h) 2 3 35) : Nat) : Int)) ∧ W = W' := fun W => formS_any (stackStoreOfDoubleN h) (secondRN h) 2 3 35 W
  go_enter Try.func32, Try.ntmps32
  go_wp2_with (first | (go_at_call 50; (with_reducible refine (c0 _).mono ?_); rintro e w' ⟨rfl, rfl⟩) | (go_at_call 58; (with_reducible refine (c1 _).mono ?_); rintro e w' ⟨rfl, rfl⟩) | (go_at_call 29; (with_reducible refine (c2 _).mono ?_); rintro e w' ⟨rfl, rfl⟩) | (go_at_call 64; (with_reducible refine (c3 _).mono ?_); rintro e w' ⟨rfl, rfl⟩) | (go_at_call 49; (with_reducible refine (c4 _).mono ?_); rintro e w' ⟨rfl, rfl⟩) | fail)
  go_ret
  refine ⟨ret_int ?_, rfl⟩
  first | rfl | (simp only [nats]; rfl)
theorem word2_any (h : Nat) (W : World) : Calls Try.prog 32 #[.int .u32 (h : Nat)] W fun e W' => e = .returned (.int .u32 ((word2N h : Nat) : Int)) ∧ W = W' := by
  have l0 := cutN_lt h 13 3
  have b0 : (cutN h 13 3) = 0 ∨ (cutN h 13 3) = 1 ∨ (cutN h 13 3) = 2 ∨ (cutN h 13 3) = 3 ∨ (cutN h 13 3) = 4 ∨ (cutN h 13 3) = 5 ∨ (cutN h 13 3) = 6 ∨ (cutN h 13 3) = 7 := by omega
  rcases b0 with h0 | h0 | h0 | h0 | h0 | h0 | h0 | h0
  · rw [show word2N h = (formIN (numberMN h) (firstRN h) 1 (firstRN h) 19) from by unfold word2N; rw [beqT h0, cond_true]]
    exact word2_0 h W h0
  · rw [show word2N h = 0 from by unfold word2N; rw [beqF (show (cutN h 13 3) ≠ 0 by omega), cond_false, beqF (show (cutN h 13 3) ≠ 2 by omega), cond_false, beqF (show (cutN h 13 3) ≠ 3 by omega), cond_false, beqF (show (cutN h 13 3) ≠ 4 by omega), cond_false, beqF (show (cutN h 13 3) ≠ 6 by omega), cond_false, beqF (show (cutN h 13 3) ≠ 7 by omega), cond_false]]
    exact word2_1 h W h0
  · by_cases h1 : (firstRN h) = 0
    · rw [show word2N h = 0 from by unfold word2N; rw [beqF (show (cutN h 13 3) ≠ 0 by omega), cond_false, beqT h0, cond_true, beqT h1, cond_true]]
      exact word2_2_y h W h0 h1
    · rw [show word2N h = (formIN (stackLoadOfWordN h) 2 2 (firstRN h) 3) from by unfold word2N; rw [beqF (show (cutN h 13 3) ≠ 0 by omega), cond_false, beqT h0, cond_true, beqF h1, cond_false]]
      exact word2_2_n h W h0 h1
  · by_cases h1 : (firstRN h) = 0
    · rw [show word2N h = 0 from by unfold word2N; rw [beqF (show (cutN h 13 3) ≠ 0 by omega), cond_false, beqF (show (cutN h 13 3) ≠ 2 by omega), cond_false, beqT h0, cond_true, beqT h1, cond_true]]
      exact word2_3_y h W h0 h1
    · rw [show word2N h = (formIN (stackLoadOfDoubleN h) 2 3 (firstRN h) 3) from by unfold word2N; rw [beqF (show (cutN h 13 3) ≠ 0 by omega), cond_false, beqF (show (cutN h 13 3) ≠ 2 by omega), cond_false, beqT h0, cond_true, beqF h1, cond_false]]
      exact word2_3_n h W h0 h1
  · rw [show word2N h = (jumpOrPairN h) from by unfold word2N; rw [beqF (show (cutN h 13 3) ≠ 0 by omega), cond_false, beqF (show (cutN h 13 3) ≠ 2 by omega), cond_false, beqF (show (cutN h 13 3) ≠ 3 by omega), cond_false, beqT h0, cond_true]]
    exact word2_4 h W h0
  · rw [show word2N h = 0 from by unfold word2N; rw [beqF (show (cutN h 13 3) ≠ 0 by omega), cond_false, beqF (show (cutN h 13 3) ≠ 2 by omega), cond_false, beqF (show (cutN h 13 3) ≠ 3 by omega), cond_false, beqF (show (cutN h 13 3) ≠ 4 by omega), cond_false, beqF (show (cutN h 13 3) ≠ 6 by omega), cond_false, beqF (show (cutN h 13 3) ≠ 7 by omega), cond_false]]
    exact word2_5 h W h0
  · rw [show word2N h = (formSN (stackStoreOfWordN h) (secondRN h) 2 2 35) from by unfold word2N; rw [beqF (show (cutN h 13 3) ≠ 0 by omega), cond_false, beqF (show (cutN h 13 3) ≠ 2 by omega), cond_false, beqF (show (cutN h 13 3) ≠ 3 by omega), cond_false, beqF (show (cutN h 13 3) ≠ 4 by omega), cond_false, beqT h0, cond_true]]
    exact word2_6 h W h0
  · rw [show word2N h = (formSN (stackStoreOfDoubleN h) (secondRN h) 2 3 35) from by unfold word2N; rw [beqF (show (cutN h 13 3) ≠ 0 by omega), cond_false, beqF (show (cutN h 13 3) ≠ 2 by omega), cond_false, beqF (show (cutN h 13 3) ≠ 3 by omega), cond_false, beqF (show (cutN h 13 3) ≠ 4 by omega), cond_false, beqF (show (cutN h 13 3) ≠ 6 by omega), cond_false, beqT h0, cond_true]]
    exact word2_7 h W h0
def wordN (h : Nat) : Nat := (bif Nat.beq (cutN h 0 2) 0 then (word0N h) else (bif Nat.beq (cutN h 0 2) 1 then (word1N h) else (bif Nat.beq (cutN h 0 2) 2 then (word2N h) else 0)))
set_option maxHeartbeats 1000000 in
theorem word_0 (h : Nat) (W : World) (h0 : (cutN h 0 2) = 0) : Calls Try.prog 12 #[.int .u32 (h : Nat)] W fun e W' => e = .returned (.int .u32 (((word0N h) : Nat) : Int)) ∧ W = W' := by
  have c0 : ∀ W, Calls Try.prog 29 #[.int .u32 ((h : Nat) : Int), .int .u64 1, .int .u64 0] W fun e W' => e = .returned (.int .u32 0) ∧ W = W' := fun W => by
    have h := bits_gen h 1 0 W (by omega) (by omega)
    rw [h0] at h
    exact h
  have c1 : ∀ W, Calls Try.prog 30 #[.int .u32 ((h : Nat) : Int)] W fun e W' => e = .returned (.int .u32 (((word0N h) : Nat) : Int)) ∧ W = W' := fun W => word0_any h W
  go_enter Try.func12, Try.ntmps12
  go_wp2_with (first | (go_at_call 29; (with_reducible refine (c0 _).mono ?_); rintro e w' ⟨rfl, rfl⟩) | (go_at_call 30; (with_reducible refine (c1 _).mono ?_); rintro e w' ⟨rfl, rfl⟩) | fail)
  go_ret
  refine ⟨ret_int ?_, rfl⟩
  first | rfl | (simp only [nats]; rfl)
set_option maxHeartbeats 1000000 in
theorem word_1 (h : Nat) (W : World) (h0 : (cutN h 0 2) = 1) : Calls Try.prog 12 #[.int .u32 (h : Nat)] W fun e W' => e = .returned (.int .u32 (((word1N h) : Nat) : Int)) ∧ W = W' := by
  have c0 : ∀ W, Calls Try.prog 29 #[.int .u32 ((h : Nat) : Int), .int .u64 1, .int .u64 0] W fun e W' => e = .returned (.int .u32 1) ∧ W = W' := fun W => by
    have h := bits_gen h 1 0 W (by omega) (by omega)
    rw [h0] at h
    exact h
  have c1 : ∀ W, Calls Try.prog 31 #[.int .u32 ((h : Nat) : Int)] W fun e W' => e = .returned (.int .u32 (((word1N h) : Nat) : Int)) ∧ W = W' := fun W => word1_any h W
  go_enter Try.func12, Try.ntmps12
  go_wp2_with (first | (go_at_call 29; (with_reducible refine (c0 _).mono ?_); rintro e w' ⟨rfl, rfl⟩) | (go_at_call 31; (with_reducible refine (c1 _).mono ?_); rintro e w' ⟨rfl, rfl⟩) | fail)
  go_ret
  refine ⟨ret_int ?_, rfl⟩
  first | rfl | (simp only [nats]; rfl)
set_option maxHeartbeats 1000000 in
theorem word_2 (h : Nat) (W : World) (h0 : (cutN h 0 2) = 2) : Calls Try.prog 12 #[.int .u32 (h : Nat)] W fun e W' => e = .returned (.int .u32 (((word2N h) : Nat) : Int)) ∧ W = W' := by
  have c0 : ∀ W, Calls Try.prog 29 #[.int .u32 ((h : Nat) : Int), .int .u64 1, .int .u64 0] W fun e W' => e = .returned (.int .u32 2) ∧ W = W' := fun W => by
    have h := bits_gen h 1 0 W (by omega) (by omega)
    rw [h0] at h
    exact h
  have c1 : ∀ W, Calls Try.prog 32 #[.int .u32 ((h : Nat) : Int)] W fun e W' => e = .returned (.int .u32 (((word2N h) : Nat) : Int)) ∧ W = W' := fun W => word2_any h W
  go_enter Try.func12, Try.ntmps12
  go_wp2_with (first | (go_at_call 29; (with_reducible refine (c0 _).mono ?_); rintro e w' ⟨rfl, rfl⟩) | (go_at_call 32; (with_reducible refine (c1 _).mono ?_); rintro e w' ⟨rfl, rfl⟩) | fail)
  go_ret
  refine ⟨ret_int ?_, rfl⟩
  first | rfl | (simp only [nats]; rfl)
set_option maxHeartbeats 1000000 in
theorem word_3 (h : Nat) (W : World) (h0 : (cutN h 0 2) = 3) : Calls Try.prog 12 #[.int .u32 (h : Nat)] W fun e W' => e = .returned (.int .u32 0) ∧ W = W' := by
  have c0 : ∀ W, Calls Try.prog 29 #[.int .u32 ((h : Nat) : Int), .int .u64 1, .int .u64 0] W fun e W' => e = .returned (.int .u32 3) ∧ W = W' := fun W => by
    have h := bits_gen h 1 0 W (by omega) (by omega)
    rw [h0] at h
    exact h
  go_enter Try.func12, Try.ntmps12
  go_wp2_with (first | (go_at_call 29; (with_reducible refine (c0 _).mono ?_); rintro e w' ⟨rfl, rfl⟩) | fail)
  go_ret
  exact ⟨rfl, rfl⟩
theorem word_any (h : Nat) (W : World) : Calls Try.prog 12 #[.int .u32 (h : Nat)] W fun e W' => e = .returned (.int .u32 ((wordN h : Nat) : Int)) ∧ W = W' := by
  have l0 := cutN_lt h 0 2
  have b0 : (cutN h 0 2) = 0 ∨ (cutN h 0 2) = 1 ∨ (cutN h 0 2) = 2 ∨ (cutN h 0 2) = 3 := by omega
  rcases b0 with h0 | h0 | h0 | h0
  · rw [show wordN h = (word0N h) from by unfold wordN; rw [beqT h0, cond_true]]
    exact word_0 h W h0
  · rw [show wordN h = (word1N h) from by unfold wordN; rw [beqF (show (cutN h 0 2) ≠ 0 by omega), cond_false, beqT h0, cond_true]]
    exact word_1 h W h0
  · rw [show wordN h = (word2N h) from by unfold wordN; rw [beqF (show (cutN h 0 2) ≠ 0 by omega), cond_false, beqF (show (cutN h 0 2) ≠ 1 by omega), cond_false, beqT h0, cond_true]]
    exact word_2 h W h0
  · rw [show wordN h = 0 from by unfold wordN; rw [beqF (show (cutN h 0 2) ≠ 0 by omega), cond_false, beqF (show (cutN h 0 2) ≠ 1 by omega), cond_false, beqF (show (cutN h 0 2) ≠ 2 by omega), cond_false]]
    exact word_3 h W h0

end Go.Proofs.Ytdodbfpahmkpbaa
