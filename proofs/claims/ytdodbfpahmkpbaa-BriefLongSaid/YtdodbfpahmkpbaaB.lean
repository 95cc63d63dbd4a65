/- Numbers and forms. -/
import Derived.Test.YtdodbfpahmkpbaaA
namespace Go.Proofs.Ytdodbfpahmkpbaa
open Go.RowKit Go.Deep Go.Joins
def firstRN (h : Nat) : Nat := (cutN h 7 5)
set_option maxHeartbeats 1000000 in
theorem firstR_any (h : Nat) (W : World) : Calls Try.prog 50 #[.int .u32 (h : Nat)] W fun e W' => e = .returned (.int .u32 ((firstRN h : Nat) : Int)) ∧ W = W' := by
  have c0 : ∀ W, Calls Try.prog 29 #[.int .u32 ((h : Nat) : Int), .int .u64 11, .int .u64 7] W fun e W' => e = .returned (.int .u32 (((cutN h 7 5) : Nat) : Int)) ∧ W = W' := fun W => bits_gen h 11 7 W (by omega) (by omega)
  go_enter Try.func50, Try.ntmps50
  go_wp2_with (first | (go_at_call 29; (with_reducible refine (c0 _).mono ?_); rintro e w' ⟨rfl, rfl⟩) | fail)
  go_ret
  refine ⟨ret_int ?_, rfl⟩
  first | rfl | (simp only [nats]; rfl)
def secondRN (h : Nat) : Nat := (cutN h 2 5)
set_option maxHeartbeats 1000000 in
theorem secondR_any (h : Nat) (W : World) : Calls Try.prog 58 #[.int .u32 (h : Nat)] W fun e W' => e = .returned (.int .u32 ((secondRN h : Nat) : Int)) ∧ W = W' := by
  have c0 : ∀ W, Calls Try.prog 29 #[.int .u32 ((h : Nat) : Int), .int .u64 6, .int .u64 2] W fun e W' => e = .returned (.int .u32 (((cutN h 2 5) : Nat) : Int)) ∧ W = W' := fun W => bits_gen h 6 2 W (by omega) (by omega)
  go_enter Try.func58, Try.ntmps58
  go_wp2_with (first | (go_at_call 29; (with_reducible refine (c0 _).mono ?_); rintro e w' ⟨rfl, rfl⟩) | fail)
  go_ret
  refine ⟨ret_int ?_, rfl⟩
  first | rfl | (simp only [nats]; rfl)
def smallFirstN (h : Nat) : Nat := ((8 + (cutN h 7 3)) % 4294967296)
set_option maxHeartbeats 1000000 in
theorem smallFirst_any (h : Nat) (W : World) : Calls Try.prog 43 #[.int .u32 (h : Nat)] W fun e W' => e = .returned (.int .u32 ((smallFirstN h : Nat) : Int)) ∧ W = W' := by
  have c0 : ∀ W, Calls Try.prog 29 #[.int .u32 ((h : Nat) : Int), .int .u64 9, .int .u64 7] W fun e W' => e = .returned (.int .u32 (((cutN h 7 3) : Nat) : Int)) ∧ W = W' := fun W => bits_gen h 9 7 W (by omega) (by omega)
  go_enter Try.func43, Try.ntmps43
  go_wp2_with (first | (go_at_call 29; (with_reducible refine (c0 _).mono ?_); rintro e w' ⟨rfl, rfl⟩) | fail)
  go_ret
  refine ⟨ret_int ?_, rfl⟩
  first | rfl | (simp only [nats]; rfl)
def smallSecondN (h : Nat) : Nat := ((8 + (cutN h 2 3)) % 4294967296)
set_option maxHeartbeats 1000000 in
theorem smallSecond_any (h : Nat) (W : World) : Calls Try.prog 44 #[.int .u32 (h : Nat)] W fun e W' => e = .returned (.int .u32 ((smallSecondN h : Nat) : Int)) ∧ W = W' := by
  have c0 : ∀ W, Calls Try.prog 29 #[.int .u32 ((h : Nat) : Int), .int .u64 4, .int .u64 2] W fun e W' => e = .returned (.int .u32 (((cutN h 2 3) : Nat) : Int)) ∧ W = W' := fun W => bits_gen h 4 2 W (by omega) (by omega)
  go_enter Try.func44, Try.ntmps44
  go_wp2_with (first | (go_at_call 29; (with_reducible refine (c0 _).mono ?_); rintro e w' ⟨rfl, rfl⟩) | fail)
  go_ret
  refine ⟨ret_int ?_, rfl⟩
  first | rfl | (simp only [nats]; rfl)
def numberMN (h : Nat) : Nat := (orN (plN h 12 1 5) (plN h 2 5 0))
set_option maxHeartbeats 1000000 in
theorem numberM_any (h : Nat) (W : World) : Calls Try.prog 59 #[.int .u32 (h : Nat)] W fun e W' => e = .returned (.int .u32 ((numberMN h : Nat) : Int)) ∧ W = W' := by
  have c0 : ∀ W, Calls Try.prog 66 #[.int .u32 ((h : Nat) : Int), .int .u64 12, .int .u64 12, .int .u64 5] W fun e W' => e = .returned (.int .u32 (((plN h 12 1 5) : Nat) : Int)) ∧ W = W' := fun W => place_gen h 12 12 5 W (by omega) (by omega) (by omega)
  have c1 : ∀ W, Calls Try.prog 66 #[.int .u32 ((h : Nat) : Int), .int .u64 6, .int .u64 2, .int .u64 0] W fun e W' => e = .returned (.int .u32 (((plN h 2 5 0) : Nat) : Int)) ∧ W = W' := fun W => place_gen h 6 2 0 W (by omega) (by omega) (by omega)
  go_enter Try.func59, Try.ntmps59
  go_wp2_with (first | (go_at_call 66; (with_reducible refine (c0 _).mono ?_); rintro e w' ⟨rfl, rfl⟩) | (go_at_call 66; (with_reducible refine (c1 _).mono ?_); rintro e w' ⟨rfl, rfl⟩) | fail)
  go_ret
  refine ⟨ret_int ?_, rfl⟩
  first | rfl | (simp only [nats]; rfl)
def numberNN (h : Nat) : Nat := (sgn6N (numberMN h))
set_option maxHeartbeats 1000000 in
theorem numberN_any (h : Nat) (W : World) : Calls Try.prog 51 #[.int .u32 (h : Nat)] W fun e W' => e = .returned (.int .u32 ((numberNN h : Nat) : Int)) ∧ W = W' := by
  have c0 : ∀ W, Calls Try.prog 59 #[.int .u32 ((h : Nat) : Int)] W fun e W' => e = .returned (.int .u32 (((numberMN h) : Nat) : Int)) ∧ W = W' := fun W => numberM_any h W
  have c1 : ∀ W, Calls Try.prog 67 #[.int .u32 (((numberMN h) : Nat) : Int), .int .u64 6] W fun e W' => e = .returned (.int .u32 (((sgn6N (numberMN h)) : Nat) : Int)) ∧ W = W' := fun W => signed6_any (numberMN h) W
  go_enter Try.func51, Try.ntmps51
  go_wp2_with (first | (go_at_call 59; (with_reducible refine (c0 _).mono ?_); rintro e w' ⟨rfl, rfl⟩) | (go_at_call 67; (with_reducible refine (c1 _).mono ?_); rintro e w' ⟨rfl, rfl⟩) | fail)
  go_ret
  refine ⟨ret_int ?_, rfl⟩
  first | rfl | (simp only [nats]; rfl)
def placeOfWordN (h : Nat) : Nat := (orN (orN (plN h 5 1 6) (plN h 10 3 3)) (plN h 6 1 2))
set_option maxHeartbeats 1000000 in
theorem placeOfWord_any (h : Nat) (W : World) : Calls Try.prog 47 #[.int .u32 (h : Nat)] W fun e W' => e = .returned (.int .u32 ((placeOfWordN h : Nat) : Int)) ∧ W = W' := by
  have c0 : ∀ W, Calls Try.prog 66 #[.int .u32 ((h : Nat) : Int), .int .u64 5, .int .u64 5, .int .u64 6] W fun e W' => e = .returned (.int .u32 (((plN h 5 1 6) : Nat) : Int)) ∧ W = W' := fun W => place_gen h 5 5 6 W (by omega) (by omega) (by omega)
  have c1 : ∀ W, Calls Try.prog 66 #[.int .u32 ((h : Nat) : Int), .int .u64 12, .int .u64 10, .int .u64 3] W fun e W' => e = .returned (.int .u32 (((plN h 10 3 3) : Nat) : Int)) ∧ W = W' := fun W => place_gen h 12 10 3 W (by omega) (by omega) (by omega)
  have c2 : ∀ W, Calls Try.prog 66 #[.int .u32 ((h : Nat) : Int), .int .u64 6, .int .u64 6, .int .u64 2] W fun e W' => e = .returned (.int .u32 (((plN h 6 1 2) : Nat) : Int)) ∧ W = W' := fun W => place_gen h 6 6 2 W (by omega) (by omega) (by omega)
  go_enter Try.func47, Try.ntmps47
  go_wp2_with (first | (go_at_call 66; (with_reducible refine (c0 _).mono ?_); rintro e w' ⟨rfl, rfl⟩) | (go_at_call 66; (with_reducible refine (c1 _).mono ?_); rintro e w' ⟨rfl, rfl⟩) | (go_at_call 66; (with_reducible refine (c2 _).mono ?_); rintro e w' ⟨rfl, rfl⟩) | fail)
  go_ret
  refine ⟨ret_int ?_, rfl⟩
  first | rfl | (simp only [nats]; rfl)
def placeOfDoubleN (h : Nat) : Nat := (orN (plN h 5 2 6) (plN h 10 3 3))
set_option maxHeartbeats 1000000 in
theorem placeOfDouble_any (h : Nat) (W : World) : Calls Try.prog 48 #[.int .u32 (h : Nat)] W fun e W' => e = .returned (.int .u32 ((placeOfDoubleN h : Nat) : Int)) ∧ W = W' := by
  have c0 : ∀ W, Calls Try.prog 66 #[.int .u32 ((h : Nat) : Int), .int .u64 6, .int .u64 5, .int .u64 6] W fun e W' => e = .returned (.int .u32 (((plN h 5 2 6) : Nat) : Int)) ∧ W = W' := fun W => place_gen h 6 5 6 W (by omega) (by omega) (by omega)
  have c1 : ∀ W, Calls Try.prog 66 #[.int .u32 ((h : Nat) : Int), .int .u64 12, .int .u64 10, .int .u64 3] W fun e W' => e = .returned (.int .u32 (((plN h 10 3 3) : Nat) : Int)) ∧ W = W' := fun W => place_gen h 12 10 3 W (by omega) (by omega) (by omega)
  go_enter Try.func48, Try.ntmps48
  go_wp2_with (first | (go_at_call 66; (with_reducible refine (c0 _).mono ?_); rintro e w' ⟨rfl, rfl⟩) | (go_at_call 66; (with_reducible refine (c1 _).mono ?_); rintro e w' ⟨rfl, rfl⟩) | fail)
  go_ret
  refine ⟨ret_int ?_, rfl⟩
  first | rfl | (simp only [nats]; rfl)
def stackPlaceN (h : Nat) : Nat := (orN (orN (orN (plN h 7 4 6) (plN h 11 2 4)) (plN h 5 1 3)) (plN h 6 1 2))
set_option maxHeartbeats 1000000 in
theorem stackPlace_any (h : Nat) (W : World) : Calls Try.prog 45 #[.int .u32 (h : Nat)] W fun e W' => e = .returned (.int .u32 ((stackPlaceN h : Nat) : Int)) ∧ W = W' := by
  have c0 : ∀ W, Calls Try.prog 66 #[.int .u32 ((h : Nat) : Int), .int .u64 10, .int .u64 7, .int .u64 6] W fun e W' => e = .returned (.int .u32 (((plN h 7 4 6) : Nat) : Int)) ∧ W = W' := fun W => place_gen h 10 7 6 W (by omega) (by omega) (by omega)
  have c1 : ∀ W, Calls Try.prog 66 #[.int .u32 ((h : Nat) : Int), .int .u64 12, .int .u64 11, .int .u64 4] W fun e W' => e = .returned (.int .u32 (((plN h 11 2 4) : Nat) : Int)) ∧ W = W' := fun W => place_gen h 12 11 4 W (by omega) (by omega) (by omega)
  have c2 : ∀ W, Calls Try.prog 66 #[.int .u32 ((h : Nat) : Int), .int .u64 5, .int .u64 5, .int .u64 3] W fun e W' => e = .returned (.int .u32 (((plN h 5 1 3) : Nat) : Int)) ∧ W = W' := fun W => place_gen h 5 5 3 W (by omega) (by omega) (by omega)
  have c3 : ∀ W, Calls Try.prog 66 #[.int .u32 ((h : Nat) : Int), .int .u64 6, .int .u64 6, .int .u64 2] W fun e W' => e = .returned (.int .u32 (((plN h 6 1 2) : Nat) : Int)) ∧ W = W' := fun W => place_gen h 6 6 2 W (by omega) (by omega) (by omega)
  go_enter Try.func45, Try.ntmps45
  go_wp2_with (first | (go_at_call 66; (with_reducible refine (c0 _).mono ?_); rintro e w' ⟨rfl, rfl⟩) | (go_at_call 66; (with_reducible refine (c1 _).mono ?_); rintro e w' ⟨rfl, rfl⟩) | (go_at_call 66; (with_reducible refine (c2 _).mono ?_); rintro e w' ⟨rfl, rfl⟩) | (go_at_call 66; (with_reducible refine (c3 _).mono ?_); rintro e w' ⟨rfl, rfl⟩) | fail)
  go_ret
  refine ⟨ret_int ?_, rfl⟩
  first | rfl | (simp only [nats]; rfl)
def stackMoveN (h : Nat) : Nat := (sgn10N (orN (orN (orN (orN (plN h 12 1 9) (plN h 3 2 7)) (plN h 5 1 6)) (plN h 2 1 5)) (plN h 6 1 4)))
set_option maxHeartbeats 1000000 in
theorem stackMove_any (h : Nat) (W : World) : Calls Try.prog 68 #[.int .u32 (h : Nat)] W fun e W' => e = .returned (.int .u32 ((stackMoveN h : Nat) : Int)) ∧ W = W' := by
  have c0 : ∀ W, Calls Try.prog 66 #[.int .u32 ((h : Nat) : Int), .int .u64 12, .int .u64 12, .int .u64 9] W fun e W' => e = .returned (.int .u32 (((plN h 12 1 9) : Nat) : Int)) ∧ W = W' := fun W => place_gen h 12 12 9 W (by omega) (by omega) (by omega)
  have c1 : ∀ W, Calls Try.prog 66 #[.int .u32 ((h : Nat) : Int), .int .u64 4, .int .u64 3, .int .u64 7] W fun e W' => e = .returned (.int .u32 (((plN h 3 2 7) : Nat) : Int)) ∧ W = W' := fun W => place_gen h 4 3 7 W (by omega) (by omega) (by omega)
  have c2 : ∀ W, Calls Try.prog 66 #[.int .u32 ((h : Nat) : Int), .int .u64 5, .int .u64 5, .int .u64 6] W fun e W' => e = .returned (.int .u32 (((plN h 5 1 6) : Nat) : Int)) ∧ W = W' := fun W => place_gen h 5 5 6 W (by omega) (by omega) (by omega)
  have c3 : ∀ W, Calls Try.prog 66 #[.int .u32 ((h : Nat) : Int), .int .u64 2, .int .u64 2, .int .u64 5] W fun e W' => e = .returned (.int .u32 (((plN h 2 1 5) : Nat) : Int)) ∧ W = W' := fun W => place_gen h 2 2 5 W (by omega) (by omega) (by omega)
  have c4 : ∀ W, Calls Try.prog 66 #[.int .u32 ((h : Nat) : Int), .int .u64 6, .int .u64 6, .int .u64 4] W fun e W' => e = .returned (.int .u32 (((plN h 6 1 4) : Nat) : Int)) ∧ W = W' := fun W => place_gen h 6 6 4 W (by omega) (by omega) (by omega)
  have c5 : ∀ W, Calls Try.prog 67 #[.int .u32 (bits .or .u32 (bits .or .u32 (bits .or .u32 (bits .or .u32 (((plN h 12 1 9) : Nat) : Int) (((plN h 3 2 7) : Nat) : Int)) (((plN h 5 1 6) : Nat) : Int)) (((plN h 2 1 5) : Nat) : Int)) (((plN h 6 1 4) : Nat) : Int)), .int .u64 10] W fun e W' => e = .returned (.int .u32 (((sgn10N (orN (orN (orN (orN (plN h 12 1 9) (plN h 3 2 7)) (plN h 5 1 6)) (plN h 2 1 5)) (plN h 6 1 4))) : Nat) : Int)) ∧ W = W' := fun W => by
    have h := signed10_any (orN (orN (orN (orN (plN h 12 1 9) (plN h 3 2 7)) (plN h 5 1 6)) (plN h 2 1 5)) (plN h 6 1 4)) W
    simp only [nats]
    exact h
  go_enter Try.func68, Try.ntmps68
  go_wp2_with (first | (go_at_call 66; (with_reducible refine (c0 _).mono ?_); rintro e w' ⟨rfl, rfl⟩) | (go_at_call 66; (with_reducible refine (c1 _).mono ?_); rintro e w' ⟨rfl, rfl⟩) | (go_at_call 66; (with_reducible refine (c2 _).mono ?_); rintro e w' ⟨rfl, rfl⟩) | (go_at_call 66; (with_reducible refine (c3 _).mono ?_); rintro e w' ⟨rfl, rfl⟩) | (go_at_call 66; (with_reducible refine (c4 _).mono ?_); rintro e w' ⟨rfl, rfl⟩) | (go_at_call 67; (with_reducible refine (c5 _).mono ?_); rintro e w' ⟨rfl, rfl⟩) | fail)
  go_ret
  refine ⟨ret_int ?_, rfl⟩
  first | rfl | (simp only [nats]; rfl)
def stackLoadOfWordN (h : Nat) : Nat := (orN (orN (plN h 2 2 6) (plN h 12 1 5)) (plN h 4 3 2))
set_option maxHeartbeats 1000000 in
theorem stackLoadOfWord_any (h : Nat) (W : World) : Calls Try.prog 60 #[.int .u32 (h : Nat)] W fun e W' => e = .returned (.int .u32 ((stackLoadOfWordN h : Nat) : Int)) ∧ W = W' := by
  have c0 : ∀ W, Calls Try.prog 66 #[.int .u32 ((h : Nat) : Int), .int .u64 3, .int .u64 2, .int .u64 6] W fun e W' => e = .returned (.int .u32 (((plN h 2 2 6) : Nat) : Int)) ∧ W = W' := fun W => place_gen h 3 2 6 W (by omega) (by omega) (by omega)
  have c1 : ∀ W, Calls Try.prog 66 #[.int .u32 ((h : Nat) : Int), .int .u64 12, .int .u64 12, .int .u64 5] W fun e W' => e = .returned (.int .u32 (((plN h 12 1 5) : Nat) : Int)) ∧ W = W' := fun W => place_gen h 12 12 5 W (by omega) (by omega) (by omega)
  have c2 : ∀ W, Calls Try.prog 66 #[.int .u32 ((h : Nat) : Int), .int .u64 6, .int .u64 4, .int .u64 2] W fun e W' => e = .returned (.int .u32 (((plN h 4 3 2) : Nat) : Int)) ∧ W = W' := fun W => place_gen h 6 4 2 W (by omega) (by omega) (by omega)
  go_enter Try.func60, Try.ntmps60
  go_wp2_with (first | (go_at_call 66; (with_reducible refine (c0 _).mono ?_); rintro e w' ⟨rfl, rfl⟩) | (go_at_call 66; (with_reducible refine (c1 _).mono ?_); rintro e w' ⟨rfl, rfl⟩) | (go_at_call 66; (with_reducible refine (c2 _).mono ?_); rintro e w' ⟨rfl, rfl⟩) | fail)
  go_ret
  refine ⟨ret_int ?_, rfl⟩
  first | rfl | (simp only [nats]; rfl)
def stackLoadOfDoubleN (h : Nat) : Nat := (orN (orN (plN h 2 3 6) (plN h 12 1 5)) (plN h 5 2 3))
set_option maxHeartbeats 1000000 in
theorem stackLoadOfDouble_any (h : Nat) (W : World) : Calls Try.prog 61 #[.int .u32 (h : Nat)] W fun e W' => e = .returned (.int .u32 ((stackLoadOfDoubleN h : Nat) : Int)) ∧ W = W' := by
  have c0 : ∀ W, Calls Try.prog 66 #[.int .u32 ((h : Nat) : Int), .int .u64 4, .int .u64 2, .int .u64 6] W fun e W' => e = .returned (.int .u32 (((plN h 2 3 6) : Nat) : Int)) ∧ W = W' := fun W => place_gen h 4 2 6 W (by omega) (by omega) (by omega)
  have c1 : ∀ W, Calls Try.prog 66 #[.int .u32 ((h : Nat) : Int), .int .u64 12, .int .u64 12, .int .u64 5] W fun e W' => e = .returned (.int .u32 (((plN h 12 1 5) : Nat) : Int)) ∧ W = W' := fun W => place_gen h 12 12 5 W (by omega) (by omega) (by omega)
  have c2 : ∀ W, Calls Try.prog 66 #[.int .u32 ((h : Nat) : Int), .int .u64 6, .int .u64 5, .int .u64 3] W fun e W' => e = .returned (.int .u32 (((plN h 5 2 3) : Nat) : Int)) ∧ W = W' := fun W => place_gen h 6 5 3 W (by omega) (by omega) (by omega)
  go_enter Try.func61, Try.ntmps61
  go_wp2_with (first | (go_at_call 66; (with_reducible refine (c0 _).mono ?_); rintro e w' ⟨rfl, rfl⟩) | (go_at_call 66; (with_reducible refine (c1 _).mono ?_); rintro e w' ⟨rfl, rfl⟩) | (go_at_call 66; (with_reducible refine (c2 _).mono ?_); rintro e w' ⟨rfl, rfl⟩) | fail)
  go_ret
  refine ⟨ret_int ?_, rfl⟩
  first | rfl | (simp only [nats]; rfl)
def stackStoreOfWordN (h : Nat) : Nat := (orN (plN h 7 2 6) (plN h 9 4 2))
set_option maxHeartbeats 1000000 in
theorem stackStoreOfWord_any (h : Nat) (W : World) : Calls Try.prog 63 #[.int .u32 (h : Nat)] W fun e W' => e = .returned (.int .u32 ((stackStoreOfWordN h : Nat) : Int)) ∧ W = W' := by
  have c0 : ∀ W, Calls Try.prog 66 #[.int .u32 ((h : Nat) : Int), .int .u64 8, .int .u64 7, .int .u64 6] W fun e W' => e = .returned (.int .u32 (((plN h 7 2 6) : Nat) : Int)) ∧ W = W' := fun W => place_gen h 8 7 6 W (by omega) (by omega) (by omega)
  have c1 : ∀ W, Calls Try.prog 66 #[.int .u32 ((h : Nat) : Int), .int .u64 12, .int .u64 9, .int .u64 2] W fun e W' => e = .returned (.int .u32 (((plN h 9 4 2) : Nat) : Int)) ∧ W = W' := fun W => place_gen h 12 9 2 W (by omega) (by omega) (by omega)
  go_enter Try.func63, Try.ntmps63
  go_wp2_with (first | (go_at_call 66; (with_reducible refine (c0 _).mono ?_); rintro e w' ⟨rfl, rfl⟩) | (go_at_call 66; (with_reducible refine (c1 _).mono ?_); rintro e w' ⟨rfl, rfl⟩) | fail)
  go_ret
  refine ⟨ret_int ?_, rfl⟩
  first | rfl | (simp only [nats]; rfl)
def stackStoreOfDoubleN (h : Nat) : Nat := (orN (plN h 7 3 6) (plN h 10 3 3))
set_option maxHeartbeats 1000000 in
theorem stackStoreOfDouble_any (h : Nat) (W : World) : Calls Try.prog 64 #[.int .u32 (h : Nat)] W fun e W' => e = .returned (.int .u32 ((stackStoreOfDoubleN h : Nat) : Int)) ∧ W = W' := by
  have c0 : ∀ W, Calls Try.prog 66 #[.int .u32 ((h : Nat) : Int), .int .u64 9, .int .u64 7, .int .u64 6] W fun e W' => e = .returned (.int .u32 (((plN h 7 3 6) : Nat) : Int)) ∧ W = W' := fun W => place_gen h 9 7 6 W (by omega) (by omega) (by omega)
  have c1 : ∀ W, Calls Try.prog 66 #[.int .u32 ((h : Nat) : Int), .int .u64 12, .int .u64 10, .int .u64 3] W fun e W' => e = .returned (.int .u32 (((plN h 10 3 3) : Nat) : Int)) ∧ W = W' := fun W => place_gen h 12 10 3 W (by omega) (by omega) (by omega)
  go_enter Try.func64, Try.ntmps64
  go_wp2_with (first | (go_at_call 66; (with_reducible refine (c0 _).mono ?_); rintro e w' ⟨rfl, rfl⟩) | (go_at_call 66; (with_reducible refine (c1 _).mono ?_); rintro e w' ⟨rfl, rfl⟩) | fail)
  go_ret
  refine ⟨ret_int ?_, rfl⟩
  first | rfl | (simp only [nats]; rfl)
def jumpWayN (h : Nat) : Nat := (sgn12N (orN (orN (orN (orN (orN (orN (orN (plN h 12 1 11) (plN h 8 1 10)) (plN h 9 2 8)) (plN h 6 1 7)) (plN h 7 1 6)) (plN h 2 1 5)) (plN h 11 1 4)) (plN h 3 3 1)))
set_option maxHeartbeats 1000000 in
theorem jumpWay_any (h : Nat) (W : World) : Calls Try.prog 55 #[.int .u32 (h : Nat)] W fun e W' => e = .returned (.int .u32 ((jumpWayN h : Nat) : Int)) ∧ W = W' := by
  have c0 : ∀ W, Calls Try.prog 66 #[.int .u32 ((h : Nat) : Int), .int .u64 12, .int .u64 12, .int .u64 11] W fun e W' => e = .returned (.int .u32 (((plN h 12 1 11) : Nat) : Int)) ∧ W = W' := fun W => place_gen h 12 12 11 W (by omega) (by omega) (by omega)
  have c1 : ∀ W, Calls Try.prog 66 #[.int .u32 ((h : Nat) : Int), .int .u64 8, .int .u64 8, .int .u64 10] W fun e W' => e = .returned (.int .u32 (((plN h 8 1 10) : Nat) : Int)) ∧ W = W' := fun W => place_gen h 8 8 10 W (by omega) (by omega) (by omega)
  have c2 : ∀ W, Calls Try.prog 66 #[.int .u32 ((h : Nat) : Int), .int .u64 10, .int .u64 9, .int .u64 8] W fun e W' => e = .returned (.int .u32 (((plN h 9 2 8) : Nat) : Int)) ∧ W = W' := fun W => place_gen h 10 9 8 W (by omega) (by omega) (by omega)
  have c3 : ∀ W, Calls Try.prog 66 #[.int .u32 ((h : Nat) : Int), .int .u64 6, .int .u64 6, .int .u64 7] W fun e W' => e = .returned (.int .u32 (((plN h 6 1 7) : Nat) : Int)) ∧ W = W' := fun W => place_gen h 6 6 7 W (by omega) (by omega) (by omega)
  have c4 : ∀ W, Calls Try.prog 66 #[.int .u32 ((h : Nat) : Int), .int .u64 7, .int .u64 7, .int .u64 6] W fun e W' => e = .returned (.int .u32 (((plN h 7 1 6) : Nat) : Int)) ∧ W = W' := fun W => place_gen h 7 7 6 W (by omega) (by omega) (by omega)
  have c5 : ∀ W, Calls Try.prog 66 #[.int .u32 ((h : Nat) : Int), .int .u64 2, .int .u64 2, .int .u64 5] W fun e W' => e = .returned (.int .u32 (((plN h 2 1 5) : Nat) : Int)) ∧ W = W' := fun W => place_gen h 2 2 5 W (by omega) (by omega) (by omega)
  have c6 : ∀ W, Calls Try.prog 66 #[.int .u32 ((h : Nat) : Int), .int .u64 11, .int .u64 11, .int .u64 4] W fun e W' => e = .returned (.int .u32 (((plN h 11 1 4) : Nat) : Int)) ∧ W = W' := fun W => place_gen h 11 11 4 W (by omega) (by omega) (by omega)
  have c7 : ∀ W, Calls Try.prog 66 #[.int .u32 ((h : Nat) : Int), .int .u64 5, .int .u64 3, .int .u64 1] W fun e W' => e = .returned (.int .u32 (((plN h 3 3 1) : Nat) : Int)) ∧ W = W' := fun W => place_gen h 5 3 1 W (by omega) (by omega) (by omega)
  have c8 : ∀ W, Calls Try.prog 67 #[.int .u32 (bits .or .u32 (bits .or .u32 (bits .or .u32 (bits .or .u32 (bits .or .u32 (bits .or .u32 (bits .or .u32 (((plN h 12 1 11) : Nat) : Int) (((plN h 8 1 10) : Nat) : Int)) (((plN h 9 2 8) : Nat) : Int)) (((plN h 6 1 7) : Nat) : Int)) (((plN h 7 1 6) : Nat) : Int)) (((plN h 2 1 5) : Nat) : Int)) (((plN h 11 1 4) : Nat) : Int)) (((plN h 3 3 1) : Nat) : Int)), .int .u64 12] W fun e W' => e = .returned (.int .u32 (((sgn12N (orN (orN (orN (orN (orN (orN (orN (plN h 12 1 11) (plN h 8 1 10)) (plN h 9 2 8)) (plN h 6 1 7)) (plN h 7 1 6)) (plN h 2 1 5)) (plN h 11 1 4)) (plN h 3 3 1))) : Nat) : Int)) ∧ W = W' := fun W => by
    have h := signed12_any (orN (orN (orN (orN (orN (orN (orN (plN h 12 1 11) (plN h 8 1 10)) (plN h 9 2 8)) (plN h 6 1 7)) (plN h 7 1 6)) (plN h 2 1 5)) (plN h 11 1 4)) (plN h 3 3 1)) W
    simp only [nats]
    exact h
  go_enter Try.func55, Try.ntmps55
  go_wp2_with (first | (go_at_call 66; (with_reducible refine (c0 _).mono ?_); rintro e w' ⟨rfl, rfl⟩) | (go_at_call 66; (with_reducible refine (c1 _).mono ?_); rintro e w' ⟨rfl, rfl⟩) | (go_at_call 66; (with_reducible refine (c2 _).mono ?_); rintro e w' ⟨rfl, rfl⟩) | (go_at_call 66; (with_reducible refine (c3 _).mono ?_); rintro e w' ⟨rfl, rfl⟩) | (go_at_call 66; (with_reducible refine (c4 _).mono ?_); rintro e w' ⟨rfl, rfl⟩) | (go_at_call 66; (with_reducible refine (c5 _).mono ?_); rintro e w' ⟨rfl, rfl⟩) | (go_at_call 66; (with_reducible refine (c6 _).mono ?_); rintro e w' ⟨rfl, rfl⟩) | (go_at_call 66; (with_reducible refine (c7 _).mono ?_); rintro e w' ⟨rfl, rfl⟩) | (go_at_call 67; (with_reducible refine (c8 _).mono ?_); rintro e w' ⟨rfl, rfl⟩) | fail)
  go_ret
  refine ⟨ret_int ?_, rfl⟩
  first | rfl | (simp only [nats]; rfl)
def branchWayN (h : Nat) : Nat := (sgn9N (orN (orN (orN (orN (plN h 12 1 8) (plN h 5 2 6)) (plN h 2 1 5)) (plN h 10 2 3)) (plN h 3 2 1)))
set_option maxHeartbeats 1000000 in
theorem branchWay_any (h : Nat) (W : World) : Calls Try.prog 57 #[.int .u32 (h : Nat)] W fun e W' => e = .returned (.int .u32 ((branchWayN h : Nat) : Int)) ∧ W = W' := by
  have c0 : ∀ W, Calls Try.prog 66 #[.int .u32 ((h : Nat) : Int), .int .u64 12, .int .u64 12, .int .u64 8] W fun e W' => e = .returned (.int .u32 (((plN h 12 1 8) : Nat) : Int)) ∧ W = W' := fun W => place_gen h 12 12 8 W (by omega) (by omega) (by omega)
  have c1 : ∀ W, Calls Try.prog 66 #[.int .u32 ((h : Nat) : Int), .int .u64 6, .int .u64 5, .int .u64 6] W fun e W' => e = .returned (.int .u32 (((plN h 5 2 6) : Nat) : Int)) ∧ W = W' := fun W => place_gen h 6 5 6 W (by omega) (by omega) (by omega)
  have c2 : ∀ W, Calls Try.prog 66 #[.int .u32 ((h : Nat) : Int), .int .u64 2, .int .u64 2, .int .u64 5] W fun e W' => e = .returned (.int .u32 (((plN h 2 1 5) : Nat) : Int)) ∧ W = W' := fun W => place_gen h 2 2 5 W (by omega) (by omega) (by omega)
  have c3 : ∀ W, Calls Try.prog 66 #[.int .u32 ((h : Nat) : Int), .int .u64 11, .int .u64 10, .int .u64 3] W fun e W' => e = .returned (.int .u32 (((plN h 10 2 3) : Nat) : Int)) ∧ W = W' := fun W => place_gen h 11 10 3 W (by omega) (by omega) (by omega)
  have c4 : ∀ W, Calls Try.prog 66 #[.int .u32 ((h : Nat) : Int), .int .u64 4, .int .u64 3, .int .u64 1] W fun e W' => e = .returned (.int .u32 (((plN h 3 2 1) : Nat) : Int)) ∧ W = W' := fun W => place_gen h 4 3 1 W (by omega) (by omega) (by omega)
  have c5 : ∀ W, Calls Try.prog 67 #[.int .u32 (bits .or .u32 (bits .or .u32 (bits .or .u32 (bits .or .u32 (((plN h 12 1 8) : Nat) : Int) (((plN h 5 2 6) : Nat) : Int)) (((plN h 2 1 5) : Nat) : Int)) (((plN h 10 2 3) : Nat) : Int)) (((plN h 3 2 1) : Nat) : Int)), .int .u64 9] W fun e W' => e = .returned (.int .u32 (((sgn9N (orN (orN (orN (orN (plN h 12 1 8) (plN h 5 2 6)) (plN h 2 1 5)) (plN h 10 2 3)) (plN h 3 2 1))) : Nat) : Int)) ∧ W = W' := fun W => by
    have h := signed9_any (orN (orN (orN (orN (plN h 12 1 8) (plN h 5 2 6)) (plN h 2 1 5)) (plN h 10 2 3)) (plN h 3 2 1)) W
    simp only [nats]
    exact h
  go_enter Try.func57, Try.ntmps57
  go_wp2_with (first | (go_at_call 66; (with_reducible refine (c0 _).mono ?_); rintro e w' ⟨rfl, rfl⟩) | (go_at_call 66; (with_reducible refine (c1 _).mono ?_); rintro e w' ⟨rfl, rfl⟩) | (go_at_call 66; (with_reducible refine (c2 _).mono ?_); rintro e w' ⟨rfl, rfl⟩) | (go_at_call 66; (with_reducible refine (c3 _).mono ?_); rintro e w' ⟨rfl, rfl⟩) | (go_at_call 66; (with_reducible refine (c4 _).mono ?_); rintro e w' ⟨rfl, rfl⟩) | (go_at_call 67; (with_reducible refine (c5 _).mono ?_); rintro e w' ⟨rfl, rfl⟩) | fail)
  go_ret
  refine ⟨ret_int ?_, rfl⟩
  first | rfl | (simp only [nats]; rfl)
def formIN (imm rs1 f3 rd op : Nat) : Nat := (orN (orN (orN (orN (plN imm 0 12 20) (rs1 * 32768 % 4294967296)) (f3 * 4096 % 4294967296)) (rd * 128 % 4294967296)) op)
set_option maxHeartbeats 1000000 in
theorem formI_any (imm rs1 f3 rd op : Nat) (W : World) : Calls Try.prog 46 #[.int .u32 (imm : Nat), .int .u32 (rs1 : Nat), .int .u32 (f3 : Nat), .int .u32 (rd : Nat), .int .u32 (op : Nat)] W fun e W' => e = .returned (.int .u32 ((formIN imm rs1 f3 rd op : Nat) : Int)) ∧ W = W' := by
  have c0 : ∀ W, Calls Try.prog 66 #[.int .u32 ((imm : Nat) : Int), .int .u64 11, .int .u64 0, .int .u64 20] W fun e W' => e = .returned (.int .u32 (((plN imm 0 12 20) : Nat) : Int)) ∧ W = W' := fun W => place_gen imm 11 0 20 W (by omega) (by omega) (by omega)
  go_enter Try.func46, Try.ntmps46
  go_wp2_with (first | (go_at_call 66; (with_reducible refine (c0 _).mono ?_); rintro e w' ⟨rfl, rfl⟩) | fail)
  go_ret
  refine ⟨ret_int ?_, rfl⟩
  first | rfl | (simp only [nats]; rfl)
def formRN (f7 rs2 rs1 f3 rd op : Nat) : Nat := (orN (orN (orN (orN (orN (f7 * 33554432 % 4294967296) (rs2 * 1048576 % 4294967296)) (rs1 * 32768 % 4294967296)) (f3 * 4096 % 4294967296)) (rd * 128 % 4294967296)) op)
set_option maxHeartbeats 1000000 in
theorem formR_any (f7 rs2 rs1 f3 rd op : Nat) (W : World) : Calls Try.prog 71 #[.int .u32 (f7 : Nat), .int .u32 (rs2 : Nat), .int .u32 (rs1 : Nat), .int .u32 (f3 : Nat), .int .u32 (rd : Nat), .int .u32 (op : Nat)] W fun e W' => e = .returned (.int .u32 ((formRN f7 rs2 rs1 f3 rd op : Nat) : Int)) ∧ W = W' := by
  go_enter Try.func71, Try.ntmps71
  go_wp2
  go_ret
  refine ⟨ret_int ?_, rfl⟩
  first | rfl | (simp only [nats]; rfl)
def formSN (imm rs2 rs1 f3 op : Nat) : Nat := (orN (orN (orN (orN (orN (plN imm 5 7 25) (rs2 * 1048576 % 4294967296)) (rs1 * 32768 % 4294967296)) (f3 * 4096 % 4294967296)) (plN imm 0 5 7)) op)
set_option maxHeartbeats 1000000 in
theorem formS_any (imm rs2 rs1 f3 op : Nat) (W : World) : Calls Try.prog 49 #[.int .u32 (imm : Nat), .int .u32 (rs2 : Nat), .int .u32 (rs1 : Nat), .int .u32 (f3 : Nat), .int .u32 (op : Nat)] W fun e W' => e = .returned (.int .u32 ((formSN imm rs2 rs1 f3 op : Nat) : Int)) ∧ W = W' := by
  have c0 : ∀ W, Calls Try.prog 66 #[.int .u32 ((imm : Nat) : Int), .int .u64 11, .int .u64 5, .int .u64 25] W fun e W' => e = .returned (.int .u32 (((plN imm 5 7 25) : Nat) : Int)) ∧ W = W' := fun W => place_gen imm 11 5 25 W (by omega) (by omega) (by omega)
  have c1 : ∀ W, Calls Try.prog 66 #[.int .u32 ((imm : Nat) : Int), .int .u64 4, .int .u64 0, .int .u64 7] W fun e W' => e = .returned (.int .u32 (((plN imm 0 5 7) : Nat) : Int)) ∧ W = W' := fun W => place_gen imm 4 0 7 W (by omega) (by omega) (by omega)
  go_enter Try.func49, Try.ntmps49
  go_wp2_with (first | (go_at_call 66; (with_reducible refine (c0 _).mono ?_); rintro e w' ⟨rfl, rfl⟩) | (go_at_call 66; (with_reducible refine (c1 _).mono ?_); rintro e w' ⟨rfl, rfl⟩) | fail)
  go_ret
  refine ⟨ret_int ?_, rfl⟩
  first | rfl | (simp only [nats]; rfl)
def formBN (imm rs2 rs1 f3 : Nat) : Nat := (orN (orN (orN (orN (orN (orN (plN imm 12 1 31) (plN imm 5 6 25)) (rs2 * 1048576 % 4294967296)) (rs1 * 32768 % 4294967296)) (f3 * 4096 % 4294967296)) (orN (plN imm 1 4 8) (plN imm 11 1 7))) 99)
set_option maxHeartbeats 1000000 in
theorem formB_any (imm rs2 rs1 f3 : Nat) (W : World) : Calls Try.prog 56 #[.int .u32 (imm : Nat), .int .u32 (rs2 : Nat), .int .u32 (rs1 : Nat), .int .u32 (f3 : Nat)] W fun e W' => e = .returned (.int .u32 ((formBN imm rs2 rs1 f3 : Nat) : Int)) ∧ W = W' := by
  have c0 : ∀ W, Calls Try.prog 66 #[.int .u32 ((imm : Nat) : Int), .int .u64 12, .int .u64 12, .int .u64 31] W fun e W' => e = .returned (.int .u32 (((plN imm 12 1 31) : Nat) : Int)) ∧ W = W' := fun W => place_gen imm 12 12 31 W (by omega) (by omega) (by omega)
  have c1 : ∀ W, Calls Try.prog 66 #[.int .u32 ((imm : Nat) : Int), .int .u64 10, .int .u64 5, .int .u64 25] W fun e W' => e = .returned (.int .u32 (((plN imm 5 6 25) : Nat) : Int)) ∧ W = W' := fun W => place_gen imm 10 5 25 W (by omega) (by omega) (by omega)
  have c2 : ∀ W, Calls Try.prog 66 #[.int .u32 ((imm : Nat) : Int), .int .u64 4, .int .u64 1, .int .u64 8] W fun e W' => e = .returned (.int .u32 (((plN imm 1 4 8) : Nat) : Int)) ∧ W = W' := fun W => place_gen imm 4 1 8 W (by omega) (by omega) (by omega)
  have c3 : ∀ W, Calls Try.prog 66 #[.int .u32 ((imm : Nat) : Int), .int .u64 11, .int .u64 11, .int .u64 7] W fun e W' => e = .returned (.int .u32 (((plN imm 11 1 7) : Nat) : Int)) ∧ W = W' := fun W => place_gen imm 11 11 7 W (by omega) (by omega) (by omega)
  go_enter Try.func56, Try.ntmps56
  go_wp2_with (first | (go_at_call 66; (with_reducible refine (c0 _).mono ?_); rintro e w' ⟨rfl, rfl⟩) | (go_at_call 66; (with_reducible refine (c1 _).mono ?_); rintro e w' ⟨rfl, rfl⟩) | (go_at_call 66; (with_reducible refine (c2 _).mono ?_); rintro e w' ⟨rfl, rfl⟩) | (go_at_call 66; (with_reducible refine (c3 _).mono ?_); rintro e w' ⟨rfl, rfl⟩) | fail)
  go_ret
  refine ⟨ret_int ?_, rfl⟩
  first | rfl | (simp only [nats]; rfl)
def formUN (imm rd : Nat) : Nat := (orN (orN (plN imm 0 20 12) (rd * 128 % 4294967296)) 55)
set_option maxHeartbeats 1000000 in
theorem formU_any (imm rd : Nat) (W : World) : Calls Try.prog 69 #[.int .u32 (imm : Nat), .int .u32 (rd : Nat)] W fun e W' => e = .returned (.int .u32 ((formUN imm rd : Nat) : Int)) ∧ W = W' := by
  have c0 : ∀ W, Calls Try.prog 66 #[.int .u32 ((imm : Nat) : Int), .int .u64 19, .int .u64 0, .int .u64 12] W fun e W' => e = .returned (.int .u32 (((plN imm 0 20 12) : Nat) : Int)) ∧ W = W' := fun W => place_gen imm 19 0 12 W (by omega) (by omega) (by omega)
  go_enter Try.func69, Try.ntmps69
  go_wp2_with (first | (go_at_call 66; (with_reducible refine (c0 _).mono ?_); rintro e w' ⟨rfl, rfl⟩) | fail)
  go_ret
  refine ⟨ret_int ?_, rfl⟩
  first | rfl | (simp only [nats]; rfl)
def formJN (imm rd : Nat) : Nat := (orN (orN (orN (orN (plN imm 20 1 31) (plN imm 1 10 21)) (orN (plN imm 11 1 20) (plN imm 12 8 12))) (rd * 128 % 4294967296)) 111)
set_option maxHeartbeats 1000000 in
theorem formJ_any (imm rd : Nat) (W : World) : Calls Try.prog 54 #[.int .u32 (imm : Nat), .int .u32 (rd : Nat)] W fun e W' => e = .returned (.int .u32 ((formJN imm rd : Nat) : Int)) ∧ W = W' := by
  have c0 : ∀ W, Calls Try.prog 66 #[.int .u32 ((imm : Nat) : Int), .int .u64 20, .int .u64 20, .int .u64 31] W fun e W' => e = .returned (.int .u32 (((plN imm 20 1 31) : Nat) : Int)) ∧ W = W' := fun W => place_gen imm 20 20 31 W (by omega) (by omega) (by omega)
  have c1 : ∀ W, Calls Try.prog 66 #[.int .u32 ((imm : Nat) : Int), .int .u64 10, .int .u64 1, .int .u64 21] W fun e W' => e = .returned (.int .u32 (((plN imm 1 10 21) : Nat) : Int)) ∧ W = W' := fun W => place_gen imm 10 1 21 W (by omega) (by omega) (by omega)
  have c2 : ∀ W, Calls Try.prog 66 #[.int .u32 ((imm : Nat) : Int), .int .u64 11, .int .u64 11, .int .u64 20] W fun e W' => e = .returned (.int .u32 (((plN imm 11 1 20) : Nat) : Int)) ∧ W = W' := fun W => place_gen imm 11 11 20 W (by omega) (by omega) (by omega)
  have c3 : ∀ W, Calls Try.prog 66 #[.int .u32 ((imm : Nat) : Int), .int .u64 19, .int .u64 12, .int .u64 12] W fun e W' => e = .returned (.int .u32 (((plN imm 12 8 12) : Nat) : Int)) ∧ W = W' := fun W => place_gen imm 19 12 12 W (by omega) (by omega) (by omega)
  go_enter Try.func54, Try.ntmps54
  go_wp2_with (first | (go_at_call 66; (with_reducible refine (c0 _).mono ?_); rintro e w' ⟨rfl, rfl⟩) | (go_at_call 66; (with_reducible refine (c1 _).mono ?_); rintro e w' ⟨rfl, rfl⟩) | (go_at_call 66; (with_reducible refine (c2 _).mono ?_); rintro e w' ⟨rfl, rfl⟩) | (go_at_call 66; (with_reducible refine (c3 _).mono ?_); rintro e w' ⟨rfl, rfl⟩) | fail)
  go_ret
  refine ⟨ret_int ?_, rfl⟩
  first | rfl | (simp only [nats]; rfl)
def rformIN (imm rs1 f3 rd op : Nat) : Nat := (orN (orN (orN (orN (imm * 1048576 % 4294967296) (rs1 * 32768 % 4294967296)) (f3 * 4096 % 4294967296)) (rd * 128 % 4294967296)) op)
set_option maxHeartbeats 1000000 in
theorem rformI_any (imm rs1 f3 rd op : Nat) (W : World) : Calls Try.prog 34 #[.int .u32 (imm : Nat), .int .u32 (rs1 : Nat), .int .u32 (f3 : Nat), .int .u32 (rd : Nat), .int .u32 (op : Nat)] W fun e W' => e = .returned (.int .u32 ((rformIN imm rs1 f3 rd op : Nat) : Int)) ∧ W = W' := by
  go_enter Try.func34, Try.ntmps34
  go_wp2
  go_ret
  refine ⟨ret_int ?_, rfl⟩
  first | rfl | (simp only [nats]; rfl)
def rformRN (f7 rs2 rs1 f3 rd op : Nat) : Nat := (orN (orN (orN (orN (orN (f7 * 33554432 % 4294967296) (rs2 * 1048576 % 4294967296)) (rs1 * 32768 % 4294967296)) (f3 * 4096 % 4294967296)) (rd * 128 % 4294967296)) op)
set_option maxHeartbeats 1000000 in
theorem rformR_any (f7 rs2 rs1 f3 rd op : Nat) (W : World) : Calls Try.prog 65 #[.int .u32 (f7 : Nat), .int .u32 (rs2 : Nat), .int .u32 (rs1 : Nat), .int .u32 (f3 : Nat), .int .u32 (rd : Nat), .int .u32 (op : Nat)] W fun e W' => e = .returned (.int .u32 ((rformRN f7 rs2 rs1 f3 rd op : Nat) : Int)) ∧ W = W' := by
  go_enter Try.func65, Try.ntmps65
  go_wp2
  go_ret
  refine ⟨ret_int ?_, rfl⟩
  first | rfl | (simp only [nats]; rfl)
def rformSN (imm rs2 rs1 f3 op : Nat) : Nat := (orN (orN (orN (orN (orN ((cutN imm 5 7) * 33554432 % 4294967296) (rs2 * 1048576 % 4294967296)) (rs1 * 32768 % 4294967296)) (f3 * 4096 % 4294967296)) ((cutN imm 0 5) * 128 % 4294967296)) op)
set_option maxHeartbeats 1000000 in
theorem rformS_any (imm rs2 rs1 f3 op : Nat) (W : World) : Calls Try.prog 35 #[.int .u32 (imm : Nat), .int .u32 (rs2 : Nat), .int .u32 (rs1 : Nat), .int .u32 (f3 : Nat), .int .u32 (op : Nat)] W fun e W' => e = .returned (.int .u32 ((rformSN imm rs2 rs1 f3 op : Nat) : Int)) ∧ W = W' := by
  have c0 : ∀ W, Calls Try.prog 13 #[.int .u32 ((imm : Nat) : Int), .int .u64 5, .int .u64 7] W fun e W' => e = .returned (.int .u32 (((cutN imm 5 7) : Nat) : Int)) ∧ W = W' := fun W => cut_gen imm 5 7 W (by omega) (by omega)
  have c1 : ∀ W, Calls Try.prog 13 #[.int .u32 ((imm : Nat) : Int), .int .u64 0, .int .u64 5] W fun e W' => e = .returned (.int .u32 (((cutN imm 0 5) : Nat) : Int)) ∧ W = W' := fun W => cut_gen imm 0 5 W (by omega) (by omega)
  go_enter Try.func35, Try.ntmps35
  go_wp2_with (first | (go_at_call 13; (with_reducible refine (c0 _).mono ?_); rintro e w' ⟨rfl, rfl⟩) | (go_at_call 13; (with_reducible refine (c1 _).mono ?_); rintro e w' ⟨rfl, rfl⟩) | fail)
  go_ret
  refine ⟨ret_int ?_, rfl⟩
  first | rfl | (simp only [nats]; rfl)
def rformBN (imm rs2 rs1 f3 : Nat) : Nat := (orN (orN (orN (orN (orN (orN (orN ((cutN imm 12 1) * 2147483648 % 4294967296) ((cutN imm 5 6) * 33554432 % 4294967296)) (rs2 * 1048576 % 4294967296)) (rs1 * 32768 % 4294967296)) (f3 * 4096 % 4294967296)) ((cutN imm 1 4) * 256 % 4294967296)) ((cutN imm 11 1) * 128 % 4294967296)) 99)
set_option maxHeartbeats 1000000 in
theorem rformB_any (imm rs2 rs1 f3 : Nat) (W : World) : Calls Try.prog 40 #[.int .u32 (imm : Nat), .int .u32 (rs2 : Nat), .int .u32 (rs1 : Nat), .int .u32 (f3 : Nat)] W fun e W' => e = .returned (.int .u32 ((rformBN imm rs2 rs1 f3 : Nat) : Int)) ∧ W = W' := by
  have c0 : ∀ W, Calls Try.prog 13 #[.int .u32 ((imm : Nat) : Int), .int .u64 12, .int .u64 1] W fun e W' => e = .returned (.int .u32 (((cutN imm 12 1) : Nat) : Int)) ∧ W = W' := fun W => cut_gen imm 12 1 W (by omega) (by omega)
  have c1 : ∀ W, Calls Try.prog 13 #[.int .u32 ((imm : Nat) : Int), .int .u64 5, .int .u64 6] W fun e W' => e = .returned (.int .u32 (((cutN imm 5 6) : Nat) : Int)) ∧ W = W' := fun W => cut_gen imm 5 6 W (by omega) (by omega)
  have c2 : ∀ W, Calls Try.prog 13 #[.int .u32 ((imm : Nat) : Int), .int .u64 1, .int .u64 4] W fun e W' => e = .returned (.int .u32 (((cutN imm 1 4) : Nat) : Int)) ∧ W = W' := fun W => cut_gen imm 1 4 W (by omega) (by omega)
  have c3 : ∀ W, Calls Try.prog 13 #[.int .u32 ((imm : Nat) : Int), .int .u64 11, .int .u64 1] W fun e W' => e = .returned (.int .u32 (((cutN imm 11 1) : Nat) : Int)) ∧ W = W' := fun W => cut_gen imm 11 1 W (by omega) (by omega)
  go_enter Try.func40, Try.ntmps40
  go_wp2_with (first | (go_at_call 13; (with_reducible refine (c0 _).mono ?_); rintro e w' ⟨rfl, rfl⟩) | (go_at_call 13; (with_reducible refine (c1 _).mono ?_); rintro e w' ⟨rfl, rfl⟩) | (go_at_call 13; (with_reducible refine (c2 _).mono ?_); rintro e w' ⟨rfl, rfl⟩) | (go_at_call 13; (with_reducible refine (c3 _).mono ?_); rintro e w' ⟨rfl, rfl⟩) | fail)
  go_ret
  refine ⟨ret_int ?_, rfl⟩
  first | rfl | (simp only [nats]; rfl)
def rformJN (imm rd : Nat) : Nat := (orN (orN (orN (orN (orN ((cutN imm 20 1) * 2147483648 % 4294967296) ((cutN imm 1 10) * 2097152 % 4294967296)) ((cutN imm 11 1) * 1048576 % 4294967296)) ((cutN imm 12 8) * 4096 % 4294967296)) (rd * 128 % 4294967296)) 111)
set_option maxHeartbeats 1000000 in
theorem rformJ_any (imm rd : Nat) (W : World) : Calls Try.prog 39 #[.int .u32 (imm : Nat), .int .u32 (rd : Nat)] W fun e W' => e = .returned (.int .u32 ((rformJN imm rd : Nat) : Int)) ∧ W = W' := by
  have c0 : ∀ W, Calls Try.prog 13 #[.int .u32 ((imm : Nat) : Int), .int .u64 20, .int .u64 1] W fun e W' => e = .returned (.int .u32 (((cutN imm 20 1) : Nat) : Int)) ∧ W = W' := fun W => cut_gen imm 20 1 W (by omega) (by omega)
  have c1 : ∀ W, Calls Try.prog 13 #[.int .u32 ((imm : Nat) : Int), .int .u64 1, .int .u64 10] W fun e W' => e = .returned (.int .u32 (((cutN imm 1 10) : Nat) : Int)) ∧ W = W' := fun W => cut_gen imm 1 10 W (by omega) (by omega)
  have c2 : ∀ W, Calls Try.prog 13 #[.int .u32 ((imm : Nat) : Int), .int .u64 11, .int .u64 1] W fun e W' => e = .returned (.int .u32 (((cutN imm 11 1) : Nat) : Int)) ∧ W = W' := fun W => cut_gen imm 11 1 W (by omega) (by omega)
  have c3 : ∀ W, Calls Try.prog 13 #[.int .u32 ((imm : Nat) : Int), .int .u64 12, .int .u64 8] W fun e W' => e = .returned (.int .u32 (((cutN imm 12 8) : Nat) : Int)) ∧ W = W' := fun W => cut_gen imm 12 8 W (by omega) (by omega)
  go_enter Try.func39, Try.ntmps39
  go_wp2_with (first | (go_at_call 13; (with_reducible refine (c0 _).mono ?_); rintro e w' ⟨rfl, rfl⟩) | (go_at_call 13; (with_reducible refine (c1 _).mono ?_); rintro e w' ⟨rfl, rfl⟩) | (go_at_call 13; (with_reducible refine (c2 _).mono ?_); rintro e w' ⟨rfl, rfl⟩) | (go_at_call 13; (with_reducible refine (c3 _).mono ?_); rintro e w' ⟨rfl, rfl⟩) | fail)
  go_ret
  refine ⟨ret_int ?_, rfl⟩
  first | rfl | (simp only [nats]; rfl)
def sixN (h : Nat) : Nat := (spr6N (orN (plN h 12 1 5) (cutN h 2 5)))
set_option maxHeartbeats 1000000 in
theorem six_any (h : Nat) (W : World) : Calls Try.prog 36 #[.int .u32 (h : Nat)] W fun e W' => e = .returned (.int .u32 ((sixN h : Nat) : Int)) ∧ W = W' := by
  have c0 : ∀ W, Calls Try.prog 33 #[.int .u32 ((h : Nat) : Int), .int .u64 12, .int .u64 5] W fun e W' => e = .returned (.int .u32 (((plN h 12 1 5) : Nat) : Int)) ∧ W = W' := fun W => at_gen h 12 5 W (by omega) (by omega)
  have c1 : ∀ W, Calls Try.prog 13 #[.int .u32 ((h : Nat) : Int), .int .u64 2, .int .u64 5] W fun e W' => e = .returned (.int .u32 (((cutN h 2 5) : Nat) : Int)) ∧ W = W' := fun W => cut_gen h 2 5 W (by omega) (by omega)
  have c2 : ∀ W, Calls Try.prog 37 #[.int .u32 (bits .or .u32 (((plN h 12 1 5) : Nat) : Int) (((cutN h 2 5) : Nat) : Int)), .int .u64 6] W fun e W' => e = .returned (.int .u32 (((spr6N (orN (plN h 12 1 5) (cutN h 2 5))) : Nat) : Int)) ∧ W = W' := fun W => by
    have h := spread6_any (orN (plN h 12 1 5) (cutN h 2 5)) W
    simp only [nats]
    exact h
  go_enter Try.func36, Try.ntmps36
  go_wp2_with (first | (go_at_call 33; (with_reducible refine (c0 _).mono ?_); rintro e w' ⟨rfl, rfl⟩) | (go_at_call 13; (with_reducible refine (c1 _).mono ?_); rintro e w' ⟨rfl, rfl⟩) | (go_at_call 37; (with_reducible refine (c2 _).mono ?_); rintro e w' ⟨rfl, rfl⟩) | fail)
  go_ret
  refine ⟨ret_int ?_, rfl⟩
  first | rfl | (simp only [nats]; rfl)
def shiftN (h : Nat) : Nat := (orN (plN h 12 1 5) (cutN h 2 5))
set_option maxHeartbeats 1000000 in
theorem shift_any (h : Nat) (W : World) : Calls Try.prog 41 #[.int .u32 (h : Nat)] W fun e W' => e = .returned (.int .u32 ((shiftN h : Nat) : Int)) ∧ W = W' := by
  have c0 : ∀ W, Calls Try.prog 33 #[.int .u32 ((h : Nat) : Int), .int .u64 12, .int .u64 5] W fun e W' => e = .returned (.int .u32 (((plN h 12 1 5) : Nat) : Int)) ∧ W = W' := fun W => at_gen h 12 5 W (by omega) (by omega)
  have c1 : ∀ W, Calls Try.prog 13 #[.int .u32 ((h : Nat) : Int), .int .u64 2, .int .u64 5] W fun e W' => e = .returned (.int .u32 (((cutN h 2 5) : Nat) : Int)) ∧ W = W' := fun W => cut_gen h 2 5 W (by omega) (by omega)
  go_enter Try.func41, Try.ntmps41
  go_wp2_with (first | (go_at_call 33; (with_reducible refine (c0 _).mono ?_); rintro e w' ⟨rfl, rfl⟩) | (go_at_call 13; (with_reducible refine (c1 _).mono ?_); rintro e w' ⟨rfl, rfl⟩) | fail)
  go_ret
  refine ⟨ret_int ?_, rfl⟩
  first | rfl | (simp only [nats]; rfl)

end Go.Proofs.Ytdodbfpahmkpbaa
