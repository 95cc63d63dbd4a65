/- The reference: the word of a short one, by quadrant. -/
import Derived.Test.YtdodbfpahmkpbaaB
namespace Go.Proofs.Ytdodbfpahmkpbaa
open Go.RowKit Go.Deep Go.Joins
def firstN (h f3 : Nat) : Nat := (bif Nat.beq f3 0 then (bif Nat.beq (orN (orN (orN ((cutN h 7 4) * 64 % 4294967296) ((cutN h 11 2) * 16 % 4294967296)) (plN h 5 1 3)) (plN h 6 1 2)) 0 then 0 else (rformIN (orN (orN (orN ((cutN h 7 4) * 64 % 4294967296) ((cutN h 11 2) * 16 % 4294967296)) (plN h 5 1 3)) (plN h 6 1 2)) 2 0 ((8 + (cutN h 2 3)) % 4294967296) 19)) else (bif Nat.beq f3 2 then (rformIN (orN (orN ((cutN h 10 3) * 8 % 4294967296) (plN h 6 1 2)) (plN h 5 1 6)) ((8 + (cutN h 7 3)) % 4294967296) 2 ((8 + (cutN h 2 3)) % 4294967296) 3) else (bif Nat.beq f3 3 then (rformIN (orN ((cutN h 10 3) * 8 % 4294967296) ((cutN h 5 2) * 64 % 4294967296)) ((8 + (cutN h 7 3)) % 4294967296) 3 ((8 + (cutN h 2 3)) % 4294967296) 3) else (bif Nat.beq f3 6 then (rformSN (orN (orN ((cutN h 10 3) * 8 % 4294967296) (plN h 6 1 2)) (plN h 5 1 6)) ((8 + (cutN h 2 3)) % 4294967296) ((8 + (cutN h 7 3)) % 4294967296) 2 35) else (bif Nat.beq f3 7 then (rformSN (orN ((cutN h 10 3) * 8 % 4294967296) ((cutN h 5 2) * 64 % 4294967296)) ((8 + (cutN h 2 3)) % 4294967296) ((8 + (cutN h 7 3)) % 4294967296) 3 35) else 0)))))
set_option maxHeartbeats 1000000 in
theorem first_0_y (h : Nat) (W : World) (h0 : (orN (orN (orN ((cutN h 7 4) * 64 % 4294967296) ((cutN h 11 2) * 16 % 4294967296)) (plN h 5 1 3)) (plN h 6 1 2)) = 0) : Calls Try.prog 14 #[.int .u32 (h : Nat), .int .u32 0] W fun e W' => e = .returned (.int .u32 0) ∧ W = W' := by
  have c0 : ∀ W, Calls Try.prog 13 #[.int .u32 ((h : Nat) : Int), .int .u64 2, .int .u64 3] W fun e W' => e = .returned (.int .u32 (((cutN h 2 3) : Nat) : Int)) ∧ W = W' := fun W => cut_gen h 2 3 W (by omega) (by omega)
  have c1 : ∀ W, Calls Try.prog 13 #[.int .u32 ((h : Nat) : Int), .int .u64 7, .int .u64 3] W fun e W' => e = .returned (.int .u32 (((cutN h 7 3) : Nat) : Int)) ∧ W = W' := fun W => cut_gen h 7 3 W (by omega) (by omega)
  have c2 : ∀ W, Calls Try.prog 13 #[.int .u32 ((h : Nat) : Int), .int .u64 10, .int .u64 3] W fun e W' => e = .returned (.int .u32 (((cutN h 10 3) : Nat) : Int)) ∧ W = W' := fun W => cut_gen h 10 3 W (by omega) (by omega)
  have c3 : ∀ W, Calls Try.prog 33 #[.int .u32 ((h : Nat) : Int), .int .u64 6, .int .u64 2] W fun e W' => e = .returned (.int .u32 (((plN h 6 1 2) : Nat) : Int)) ∧ W = W' := fun W => at_gen h 6 2 W (by omega) (by omega)
  have c4 : ∀ W, Calls Try.prog 33 #[.int .u32 ((h : Nat) : Int), .int .u64 5, .int .u64 6] W fun e W' => e = .returned (.int .u32 (((plN h 5 1 6) : Nat) : Int)) ∧ W = W' := fun W => at_gen h 5 6 W (by omega) (by omega)
  have c5 : ∀ W, Calls Try.prog 13 #[.int .u32 ((h : Nat) : Int), .int .u64 5, .int .u64 2] W fun e W' => e = .returned (.int .u32 (((cutN h 5 2) : Nat) : Int)) ∧ W = W' := fun W => cut_gen h 5 2 W (by omega) (by omega)
  have c6 : ∀ W, Calls Try.prog 13 #[.int .u32 ((h : Nat) : Int), .int .u64 7, .int .u64 4] W fun e W' => e = .returned (.int .u32 (((cutN h 7 4) : Nat) : Int)) ∧ W = W' := fun W => cut_gen h 7 4 W (by omega) (by omega)
  have c7 : ∀ W, Calls Try.prog 13 #[.int .u32 ((h : Nat) : Int), .int .u64 11, .int .u64 2] W fun e W' => e = .returned (.int .u32 (((cutN h 11 2) : Nat) : Int)) ∧ W = W' := fun W => cut_gen h 11 2 W (by omega) (by omega)
  have c8 : ∀ W, Calls Try.prog 33 #[.int .u32 ((h : Nat) : Int), .int .u64 5, .int .u64 3] W fun e W' => e = .returned (.int .u32 (((plN h 5 1 3) : Nat) : Int)) ∧ W = W' := fun W => at_gen h 5 3 W (by omega) (by omega)
  have p0 : (((bits .or .u32 (bits .or .u32 (bits .or .u32 ((((cutN h 7 4) : Nat) : Int) * 64 % 4294967296) ((((cutN h 11 2) : Nat) : Int) * 16 % 4294967296)) (((plN h 5 1 3) : Nat) : Int)) (((plN h 6 1 2) : Nat) : Int)) : Int) == 0) = true := by rw [beq_iff_eq]; simp only [nats]; rw [h0]; rfl
  have q0 : (((bits .or .u32 (bits .or .u32 (bits .or .u32 ((((cutN h 7 4) : Nat) : Int) * 64 % 4294967296) ((((cutN h 11 2) : Nat) : Int) * 16 % 4294967296)) (((plN h 5 1 3) : Nat) : Int)) (((plN h 6 1 2) : Nat) : Int)) : Int) != 0) = false := by rw [bne, p0]; rfl
  go_enter Try.func14, Try.ntmps14
  go_wp2_with (first | (go_at_call 13; (with_reducible refine (c0 _).mono ?_); rintro e w' ⟨rfl, rfl⟩) | (go_at_call 13; (with_reducible refine (c1 _).mono ?_); rintro e w' ⟨rfl, rfl⟩) | (go_at_call 13; (with_reducible refine (c2 _).mono ?_); rintro e w' ⟨rfl, rfl⟩) | (go_at_call 33; (with_reducible refine (c3 _).mono ?_); rintro e w' ⟨rfl, rfl⟩) | (go_at_call 33; (with_reducible refine (c4 _).mono ?_); rintro e w' ⟨rfl, rfl⟩) | (go_at_call 13; (with_reducible refine (c5 _).mono ?_); rintro e w' ⟨rfl, rfl⟩) | (go_at_call 13; (with_reducible refine (c6 _).mono ?_); rintro e w' ⟨rfl, rfl⟩) | (go_at_call 13; (with_reducible refine (c7 _).mono ?_); rintro e w' ⟨rfl, rfl⟩) | (go_at_call 33; (with_reducible refine (c8 _).mono ?_); rintro e w' ⟨rfl, rfl⟩) | fail)
  go_ret
  exact ⟨rfl, rfl⟩
set_option maxHeartbeats 1000000 in
theorem first_0_n (h : Nat) (W : World) (h0 : (orN (orN (orN ((cutN h 7 4) * 64 % 4294967296) ((cutN h 11 2) * 16 % 4294967296)) (plN h 5 1 3)) (plN h 6 1 2)) ≠ 0) : Calls Try.prog 14 #[.int .u32 (h : Nat), .int .u32 0] W fun e W' => e = .returned (.int .u32 (((rformIN (orN (orN (orN ((cutN h 7 4) * 64 % 4294967296) ((cutN h 11 2) * 16 % 4294967296)) (plN h 5 1 3)) (plN h 6 1 2)) 2 0 ((8 + (cutN h 2 3)) % 4294967296) 19) : Nat) : Int)) ∧ W = W' := by
  have c0 : ∀ W, Calls Try.prog 13 #[.int .u32 ((h : Nat) : Int), .int .u64 2, .int .u64 3] W fun e W' => e = .returned (.int .u32 (((cutN h 2 3) : Nat) : Int)) ∧ W = W' := fun W => cut_gen h 2 3 W (by omega) (by omega)
  have c1 : ∀ W, Calls Try.prog 13 #[.int .u32 ((h : Nat) : Int), .int .u64 7, .int .u64 3] W fun e W' => e = .returned (.int .u32 (((cutN h 7 3) : Nat) : Int)) ∧ W = W' := fun W => cut_gen h 7 3 W (by omega) (by omega)
  have c2 : ∀ W, Calls Try.prog 13 #[.int .u32 ((h : Nat) : Int), .int .u64 10, .int .u64 3] W fun e W' => e = .returned (.int .u32 (((cutN h 10 3) : Nat) : Int)) ∧ W = W' := fun W => cut_gen h 10 3 W (by omega) (by omega)
  have c3 : ∀ W, Calls Try.prog 33 #[.int .u32 ((h : Nat) : Int), .int .u64 6, .int .u64 2] W fun e W' => e = .returned (.int .u32 (((plN h 6 1 2) : Nat) : Int)) ∧ W = W' := fun W => at_gen h 6 2 W (by omega) (by omega)
  have c4 : ∀ W, Calls Try.prog 33 #[.int .u32 ((h : Nat) : Int), .int .u64 5, .int .u64 6] W fun e W' => e = .returned (.int .u32 (((plN h 5 1 6) : Nat) : Int)) ∧ W = W' := fun W => at_gen h 5 6 W (by omega) (by omega)
  have c5 : ∀ W, Calls Try.prog 13 #[.int .u32 ((h : Nat) : Int), .int .u64 5, .int .u64 2] W fun e W' => e = .returned (.int .u32 (((cutN h 5 2) : Nat) : Int)) ∧ W = W' := fun W => cut_gen h 5 2 W (by omega) (by omega)
  have c6 : ∀ W, Calls Try.prog 13 #[.int .u32 ((h : Nat) : Int), .int .u64 7, .int .u64 4] W fun e W' => e = .returned (.int .u32 (((cutN h 7 4) : Nat) : Int)) ∧ W = W' := fun W => cut_gen h 7 4 W (by omega) (by omega)
  have c7 : ∀ W, Calls Try.prog 13 #[.int .u32 ((h : Nat) : Int), .int .u64 11, .int .u64 2] W fun e W' => e = .returned (.int .u32 (((cutN h 11 2) : Nat) : Int)) ∧ W = W' := fun W => cut_gen h 11 2 W (by omega) (by omega)
  have c8 : ∀ W, Calls Try.prog 33 #[.int .u32 ((h : Nat) : Int), .int .u64 5, .int .u64 3] W fun e W' => e = .returned (.int .u32 (((plN h 5 1 3) : Nat) : Int)) ∧ W = W' := fun W => at_gen h 5 3 W (by omega) (by omega)
  have c9 : ∀ W, Calls Try.prog 34 #[.int .u32 (bits .or .u32 (bits .or .u32 (bits .or .u32 ((((cutN h 7 4) : Nat) : Int) * 64 % 4294967296) ((((cutN h 11 2) : Nat) : Int) * 16 % 4294967296)) (((plN h 5 1 3) : Nat) : Int)) (((plN h 6 1 2) : Nat) : Int)), .int .u32 2, .int .u32 0, .int .u32 ((8 + (((cutN h 2 3) : Nat) : Int)) % 4294967296), .int .u32 19] W fun e W' => e = .returned (.int .u32 (((rformIN (orN (orN (orN ((cutN h 7 4) * 64 % 4294967296) ((cutN h 11 2) * 16 % 4294967296)) (plN h 5 1 3)) (plN h 6 1 2)) 2 0 ((8 + (cutN h 2 3)) % 4294967296) 19) : Nat) : Int)) ∧ W = W' := fun W => by
    have h := rformI_any (orN (orN (orN ((cutN h 7 4) * 64 % 4294967296) ((cutN h 11 2) * 16 % 4294967296)) (plN h 5 1 3)) (plN h 6 1 2)) 2 0 ((8 + (cutN h 2 3)) % 4294967296) 19 W
    first | (simp only [nats]; exact h) | exact h
  have p0 : (((bits .or .u32 (bits .or .u32 (bits .or .u32 ((((cutN h 7 4) : Nat) : Int) * 64 % 4294967296) ((((cutN h 11 2) : Nat) : Int) * 16 % 4294967296)) (((plN h 5 1 3) : Nat) : Int)) (((plN h 6 1 2) : Nat) : Int)) : Int) == 0) = false := by rw [beq_eq_false_iff_ne]; simp only [nats]; omega
  have q0 : (((bits .or .u32 (bits .or .u32 (bits .or .u32 ((((cutN h 7 4) : Nat) : Int) * 64 % 4294967296) ((((cutN h 11 2) : Nat) : Int) * 16 % 4294967296)) (((plN h 5 1 3) : Nat) : Int)) (((plN h 6 1 2) : Nat) : Int)) : Int) != 0) = true := by rw [bne, p0]; rfl
  go_enter Try.func14, Try.ntmps14
  go_wp2_with (first | (go_at_call 13; (with_reducible refine (c0 _).mono ?_); rintro e w' ⟨rfl, rfl⟩) | (go_at_call 13; (with_reducible refine (c1 _).mono ?_); rintro e w' ⟨rfl, rfl⟩) | (go_at_call 13; (with_reducible refine (c2 _).mono ?_); rintro e w' ⟨rfl, rfl⟩) | (go_at_call 33; (with_reducible refine (c3 _).mono ?_); rintro e w' ⟨rfl, rfl⟩) | (go_at_call 33; (with_reducible refine (c4 _).mono ?_); rintro e w' ⟨rfl, rfl⟩) | (go_at_call 13; (with_reducible refine (c5 _).mono ?_); rintro e w' ⟨rfl, rfl⟩) | (go_at_call 13; (with_reducible refine (c6 _).mono ?_); rintro e w' ⟨rfl, rfl⟩) | (go_at_call 13; (with_reducible refine (c7 _).mono ?_); rintro e w' ⟨rfl, rfl⟩) | (go_at_call 33; (with_reducible refine (c8 _).mono ?_); rintro e w' ⟨rfl, rfl⟩) | (go_at_call 34; (with_reducible refine (c9 _).mono ?_); rintro e w' ⟨rfl, rfl⟩) | fail)
  go_ret
  refine ⟨ret_int ?_, rfl⟩
  first | rfl | (simp only [nats]; done) | (simp only [nats]; rfl)
set_option maxHeartbeats 1000000 in
theorem first_1 (h : Nat) (W : World) : Calls Try.prog 14 #[.int .u32 (h : Nat), .int .u32 1] W fun e W' => e = .returned (.int .u32 0) ∧ W = W' := by
  have c0 : ∀ W, Calls Try.prog 13 #[.int .u32 ((h : Nat) : Int), .int .u64 2, .int .u64 3] W fun e W' => e = .returned (.int .u32 (((cutN h 2 3) : Nat) : Int)) ∧ W = W' := fun W => cut_gen h 2 3 W (by omega) (by omega)
  have c1 : ∀ W, Calls Try.prog 13 #[.int .u32 ((h : Nat) : Int), .int .u64 7, .int .u64 3] W fun e W' => e = .returned (.int .u32 (((cutN h 7 3) : Nat) : Int)) ∧ W = W' := fun W => cut_gen h 7 3 W (by omega) (by omega)
  have c2 : ∀ W, Calls Try.prog 13 #[.int .u32 ((h : Nat) : Int), .int .u64 10, .int .u64 3] W fun e W' => e = .returned (.int .u32 (((cutN h 10 3) : Nat) : Int)) ∧ W = W' := fun W => cut_gen h 10 3 W (by omega) (by omega)
  have c3 : ∀ W, Calls Try.prog 33 #[.int .u32 ((h : Nat) : Int), .int .u64 6, .int .u64 2] W fun e W' => e = .returned (.int .u32 (((plN h 6 1 2) : Nat) : Int)) ∧ W = W' := fun W => at_gen h 6 2 W (by omega) (by omega)
  have c4 : ∀ W, Calls Try.prog 33 #[.int .u32 ((h : Nat) : Int), .int .u64 5, .int .u64 6] W fun e W' => e = .returned (.int .u32 (((plN h 5 1 6) : Nat) : Int)) ∧ W = W' := fun W => at_gen h 5 6 W (by omega) (by omega)
  have c5 : ∀ W, Calls Try.prog 13 #[.int .u32 ((h : Nat) : Int), .int .u64 5, .int .u64 2] W fun e W' => e = .returned (.int .u32 (((cutN h 5 2) : Nat) : Int)) ∧ W = W' := fun W => cut_gen h 5 2 W (by omega) (by omega)
  go_enter Try.func14, Try.ntmps14
  go_wp2_with (first | (go_at_call 13; (with_reducible refine (c0 _).mono ?_); rintro e w' ⟨rfl, rfl⟩) | (go_at_call 13; (with_reducible refine (c1 _).mono ?_); rintro e w' ⟨rfl, rfl⟩) | (go_at_call 13; (with_reducible refine (c2 _).mono ?_); rintro e w' ⟨rfl, rfl⟩) | (go_at_call 33; (with_reducible refine (c3 _).mono ?_); rintro e w' ⟨rfl, rfl⟩) | (go_at_call 33; (with_reducible refine (c4 _).mono ?_); rintro e w' ⟨rfl, rfl⟩) | (go_at_call 13; (with_reducible refine (c5 _).mono ?_); rintro e w' ⟨rfl, rfl⟩) | fail)
  go_ret
  exact ⟨rfl, rfl⟩
set_option maxHeartbeats 1000000 in
theorem first_2 (h : Nat) (W : World) : Calls Try.prog 14 #[.int .u32 (h : Nat), .int .u32 2] W fun e W' => e = .returned (.int .u32 (((rformIN (orN (orN ((cutN h 10 3) * 8 % 4294967296) (plN h 6 1 2)) (plN h 5 1 6)) ((8 + (cutN h 7 3)) % 4294967296) 2 ((8 + (cutN h 2 3)) % 4294967296) 3) : Nat) : Int)) ∧ W = W' := by
  have c0 : ∀ W, Calls Try.prog 13 #[.int .u32 ((h : Nat) : Int), .int .u64 2, .int .u64 3] W fun e W' => e = .returned (.int .u32 (((cutN h 2 3) : Nat) : Int)) ∧ W = W' := fun W => cut_gen h 2 3 W (by omega) (by omega)
  have c1 : ∀ W, Calls Try.prog 13 #[.int .u32 ((h : Nat) : Int), .int .u64 7, .int .u64 3] W fun e W' => e = .returned (.int .u32 (((cutN h 7 3) : Nat) : Int)) ∧ W = W' := fun W => cut_gen h 7 3 W (by omega) (by omega)
  have c2 : ∀ W, Calls Try.prog 13 #[.int .u32 ((h : Nat) : Int), .int .u64 10, .int .u64 3] W fun e W' => e = .returned (.int .u32 (((cutN h 10 3) : Nat) : Int)) ∧ W = W' := fun W => cut_gen h 10 3 W (by omega) (by omega)
  have c3 : ∀ W, Calls Try.prog 33 #[.int .u32 ((h : Nat) : Int), .int .u64 6, .int .u64 2] W fun e W' => e = .returned (.int .u32 (((plN h 6 1 2) : Nat) : Int)) ∧ W = W' := fun W => at_gen h 6 2 W (by omega) (by omega)
  have c4 : ∀ W, Calls Try.prog 33 #[.int .u32 ((h : Nat) : Int), .int .u64 5, .int .u64 6] W fun e W' => e = .returned (.int .u32 (((plN h 5 1 6) : Nat) : Int)) ∧ W = W' := fun W => at_gen h 5 6 W (by omega) (by omega)
  have c5 : ∀ W, Calls Try.prog 13 #[.int .u32 ((h : Nat) : Int), .int .u64 5, .int .u64 2] W fun e W' => e = .returned (.int .u32 (((cutN h 5 2) : Nat) : Int)) ∧ W = W' := fun W => cut_gen h 5 2 W (by omega) (by omega)
  have c6 : ∀ W, Calls Try.prog 34 #[.int .u32 (bits .or .u32 (bits .or .u32 ((((cutN h 10 3) : Nat) : Int) * 8 % 4294967296) (((plN h 6 1 2) : Nat) : Int)) (((plN h 5 1 6) : Nat) : Int)), .int .u32 ((8 + (((cutN h 7 3) : Nat) : Int)) % 4294967296), .int .u32 2, .int .u32 ((8 + (((cutN h 2 3) : Nat) : Int)) % 4294967296), .int .u32 3] W fun e W' => e = .returned (.int .u32 (((rformIN (orN (orN ((cutN h 10 3) * 8 % 4294967296) (plN h 6 1 2)) (plN h 5 1 6)) ((8 + (cutN h 7 3)) % 4294967296) 2 ((8 + (cutN h 2 3)) % 4294967296) 3) : Nat) : Int)) ∧ W = W' := fun W => by
    have h := rformI_any (orN (orN ((cutN h 10 3) * 8 % 4294967296) (plN h 6 1 2)) (plN h 5 1 6)) ((8 + (cutN h 7 3)) % 4294967296) 2 ((8 + (cutN h 2 3)) % 4294967296) 3 W
    first | (simp only [nats]; exact h) | exact h
  go_enter Try.func14, Try.ntmps14
  go_wp2_with (first | (go_at_call 13; (with_reducible refine (c0 _).mono ?_); rintro e w' ⟨rfl, rfl⟩) | (go_at_call 13; (with_reducible refine (c1 _).mono ?_); rintro e w' ⟨rfl, rfl⟩) | (go_at_call 13; (with_reducible refine (c2 _).mono ?_); rintro e w' ⟨rfl, rfl⟩) | (go_at_call 33; (with_reducible refine (c3 _).mono ?_); rintro e w' ⟨rfl, rfl⟩) | (go_at_call 33; (with_reducible refine (c4 _).mono ?_); rintro e w' ⟨rfl, rfl⟩) | (go_at_call 13; (with_reducible refine (c5 _).mono ?_); rintro e w' ⟨rfl, rfl⟩) | (go_at_call 34; (with_reducible refine (c6 _).mono ?_); rintro e w' ⟨rfl, rfl⟩) | fail)
  go_ret
  refine ⟨ret_int ?_, rfl⟩
  first | rfl | (simp only [nats]; done) | (simp only [nats]; rfl)
set_option maxHeartbeats 1000000 in
theorem first_3 (h : Nat) (W : World) : Calls Try.prog 14 #[.int .u32 (h : Nat), .int .u32 3] W fun e W' => e = .returned (.int .u32 (((rformIN (orN ((cutN h 10 3) * 8 % 4294967296) ((cutN h 5 2) * 64 % 4294967296)) ((8 + (cutN h 7 3)) % 4294967296) 3 ((8 + (cutN h 2 3)) % 4294967296) 3) : Nat) : Int)) ∧ W = W' := by
  have c0 : ∀ W, Calls Try.prog 13 #[.int .u32 ((h : Nat) : Int), .int .u64 2, .int .u64 3] W fun e W' => e = .returned (.int .u32 (((cutN h 2 3) : Nat) : Int)) ∧ W = W' := fun W => cut_gen h 2 3 W (by omega) (by omega)
  have c1 : ∀ W, Calls Try.prog 13 #[.int .u32 ((h : Nat) : Int), .int .u64 7, .int .u64 3] W fun e W' => e = .returned (.int .u32 (((cutN h 7 3) : Nat) : Int)) ∧ W = W' := fun W => cut_gen h 7 3 W (by omega) (by omega)
  have c2 : ∀ W, Calls Try.prog 13 #[.int .u32 ((h : Nat) : Int), .int .u64 10, .int .u64 3] W fun e W' => e = .returned (.int .u32 (((cutN h 10 3) : Nat) : Int)) ∧ W = W' := fun W => cut_gen h 10 3 W (by omega) (by omega)
  have c3 : ∀ W, Calls Try.prog 33 #[.int .u32 ((h : Nat) : Int), .int .u64 6, .int .u64 2] W fun e W' => e = .returned (.int .u32 (((plN h 6 1 2) : Nat) : Int)) ∧ W = W' := fun W => at_gen h 6 2 W (by omega) (by omega)
  have c4 : ∀ W, Calls Try.prog 33 #[.int .u32 ((h : Nat) : Int), .int .u64 5, .int .u64 6] W fun e W' => e = .returned (.int .u32 (((plN h 5 1 6) : Nat) : Int)) ∧ W = W' := fun W => at_gen h 5 6 W (by omega) (by omega)
  have c5 : ∀ W, Calls Try.prog 13 #[.int .u32 ((h : Nat) : Int), .int .u64 5, .int .u64 2] W fun e W' => e = .returned (.int .u32 (((cutN h 5 2) : Nat) : Int)) ∧ W = W' := fun W => cut_gen h 5 2 W (by omega) (by omega)
  have c6 : ∀ W, Calls Try.prog 34 #[.int .u32 (bits .or .u32 ((((cutN h 10 3) : Nat) : Int) * 8 % 4294967296) ((((cutN h 5 2) : Nat) : Int) * 64 % 4294967296)), .int .u32 ((8 + (((cutN h 7 3) : Nat) : Int)) % 4294967296), .int .u32 3, .int .u32 ((8 + (((cutN h 2 3) : Nat) : Int)) % 4294967296), .int .u32 3] W fun e W' => e = .returned (.int .u32 (((rformIN (orN ((cutN h 10 3) * 8 % 4294967296) ((cutN h 5 2) * 64 % 4294967296)) ((8 + (cutN h 7 3)) % 4294967296) 3 ((8 + (cutN h 2 3)) % 4294967296) 3) : Nat) : Int)) ∧ W = W' := fun W => by
    have h := rformI_any (orN ((cutN h 10 3) * 8 % 4294967296) ((cutN h 5 2) * 64 % 4294967296)) ((8 + (cutN h 7 3)) % 4294967296) 3 ((8 + (cutN h 2 3)) % 4294967296) 3 W
    first | (simp only [nats]; exact h) | exact h
  go_enter Try.func14, Try.ntmps14
  go_wp2_with (first | (go_at_call 13; (with_reducible refine (c0 _).mono ?_); rintro e w' ⟨rfl, rfl⟩) | (go_at_call 13; (with_reducible refine (c1 _).mono ?_); rintro e w' ⟨rfl, rfl⟩) | (go_at_call 13; (with_reducible refine (c2 _).mono ?_); rintro e w' ⟨rfl, rfl⟩) | (go_at_call 33; (with_reducible refine (c3 _).mono ?_); rintro e w' ⟨rfl, rfl⟩) | (go_at_call 33; (with_reducible refine (c4 _).mono ?_); rintro e w' ⟨rfl, rfl⟩) | (go_at_call 13; (with_reducible refine (c5 _).mono ?_); rintro e w' ⟨rfl, rfl⟩) | (go_at_call 34; (with_reducible refine (c6 _).mono ?_); rintro e w' ⟨rfl, rfl⟩) | fail)
  go_ret
  refine ⟨ret_int ?_, rfl⟩
  first | rfl | (simp only [nats]; done) | (simp only [nats]; rfl)
set_option maxHeartbeats 1000000 in
theorem first_4 (h : Nat) (W : World) : Calls Try.prog 14 #[.int .u32 (h : Nat), .int .u32 4] W fun e W' => e = .returned (.int .u32 0) ∧ W = W' := by
  have c0 : ∀ W, Calls Try.prog 13 #[.int .u32 ((h : Nat) : Int), .int .u64 2, .int .u64 3] W fun e W' => e = .returned (.int .u32 (((cutN h 2 3) : Nat) : Int)) ∧ W = W' := fun W => cut_gen h 2 3 W (by omega) (by omega)
  have c1 : ∀ W, Calls Try.prog 13 #[.int .u32 ((h : Nat) : Int), .int .u64 7, .int .u64 3] W fun e W' => e = .returned (.int .u32 (((cutN h 7 3) : Nat) : Int)) ∧ W = W' := fun W => cut_gen h 7 3 W (by omega) (by omega)
  have c2 : ∀ W, Calls Try.prog 13 #[.int .u32 ((h : Nat) : Int), .int .u64 10, .int .u64 3] W fun e W' => e = .returned (.int .u32 (((cutN h 10 3) : Nat) : Int)) ∧ W = W' := fun W => cut_gen h 10 3 W (by omega) (by omega)
  have c3 : ∀ W, Calls Try.prog 33 #[.int .u32 ((h : Nat) : Int), .int .u64 6, .int .u64 2] W fun e W' => e = .returned (.int .u32 (((plN h 6 1 2) : Nat) : Int)) ∧ W = W' := fun W => at_gen h 6 2 W (by omega) (by omega)
  have c4 : ∀ W, Calls Try.prog 33 #[.int .u32 ((h : Nat) : Int), .int .u64 5, .int .u64 6] W fun e W' => e = .returned (.int .u32 (((plN h 5 1 6) : Nat) : Int)) ∧ W = W' := fun W => at_gen h 5 6 W (by omega) (by omega)
  have c5 : ∀ W, Calls Try.prog 13 #[.int .u32 ((h : Nat) : Int), .int .u64 5, .int .u64 2] W fun e W' => e = .returned (.int .u32 (((cutN h 5 2) : Nat) : Int)) ∧ W = W' := fun W => cut_gen h 5 2 W (by omega) (by omega)
  go_enter Try.func14, Try.ntmps14
  go_wp2_with (first | (go_at_call 13; (with_reducible refine (c0 _).mono ?_); rintro e w' ⟨rfl, rfl⟩) | (go_at_call 13; (with_reducible refine (c1 _).mono ?_); rintro e w' ⟨rfl, rfl⟩) | (go_at_call 13; (with_reducible refine (c2 _).mono ?_); rintro e w' ⟨rfl, rfl⟩) | (go_at_call 33; (with_reducible refine (c3 _).mono ?_); rintro e w' ⟨rfl, rfl⟩) | (go_at_call 33; (with_reducible refine (c4 _).mono ?_); rintro e w' ⟨rfl, rfl⟩) | (go_at_call 13; (with_reducible refine (c5 _).mono ?_); rintro e w' ⟨rfl, rfl⟩) | fail)
  go_ret
  exact ⟨rfl, rfl⟩
set_option maxHeartbeats 1000000 in
theorem first_5 (h : Nat) (W : World) : Calls Try.prog 14 #[.int .u32 (h : Nat), .int .u32 5] W fun e W' => e = .returned (.int .u32 0) ∧ W = W' := by
  have c0 : ∀ W, Calls Try.prog 13 #[.int .u32 ((h : Nat) : Int), .int .u64 2, .int .u64 3] W fun e W' => e = .returned (.int .u32 (((cutN h 2 3) : Nat) : Int)) ∧ W = W' := fun W => cut_gen h 2 3 W (by omega) (by omega)
  have c1 : ∀ W, Calls Try.prog 13 #[.int .u32 ((h : Nat) : Int), .int .u64 7, .int .u64 3] W fun e W' => e = .returned (.int .u32 (((cutN h 7 3) : Nat) : Int)) ∧ W = W' := fun W => cut_gen h 7 3 W (by omega) (by omega)
  have c2 : ∀ W, Calls Try.prog 13 #[.int .u32 ((h : Nat) : Int), .int .u64 10, .int .u64 3] W fun e W' => e = .returned (.int .u32 (((cutN h 10 3) : Nat) : Int)) ∧ W = W' := fun W => cut_gen h 10 3 W (by omega) (by omega)
  have c3 : ∀ W, Calls Try.prog 33 #[.int .u32 ((h : Nat) : Int), .int .u64 6, .int .u64 2] W fun e W' => e = .returned (.int .u32 (((plN h 6 1 2) : Nat) : Int)) ∧ W = W' := fun W => at_gen h 6 2 W (by omega) (by omega)
  have c4 : ∀ W, Calls Try.prog 33 #[.int .u32 ((h : Nat) : Int), .int .u64 5, .int .u64 6] W fun e W' => e = .returned (.int .u32 (((plN h 5 1 6) : Nat) : Int)) ∧ W = W' := fun W => at_gen h 5 6 W (by omega) (by omega)
  have c5 : ∀ W, Calls Try.prog 13 #[.int .u32 ((h : Nat) : Int), .int .u64 5, .int .u64 2] W fun e W' => e = .returned (.int .u32 (((cutN h 5 2) : Nat) : Int)) ∧ W = W' := fun W => cut_gen h 5 2 W (by omega) (by omega)
  go_enter Try.func14, Try.ntmps14
  go_wp2_with (first | (go_at_call 13; (with_reducible refine (c0 _).mono ?_); rintro e w' ⟨rfl, rfl⟩) | (go_at_call 13; (with_reducible refine (c1 _).mono ?_); rintro e w' ⟨rfl, rfl⟩) | (go_at_call 13; (with_reducible refine (c2 _).mono ?_); rintro e w' ⟨rfl, rfl⟩) | (go_at_call 33; (with_reducible refine (c3 _).mono ?_); rintro e w' ⟨rfl, rfl⟩) | (go_at_call 33; (with_reducible refine (c4 _).mono ?_); rintro e w' ⟨rfl, rfl⟩) | (go_at_call 13; (with_reducible refine (c5 _).mono ?_); rintro e w' ⟨rfl, rfl⟩) | fail)
  go_ret
  exact ⟨rfl, rfl⟩
set_option maxHeartbeats 1000000 in
theorem first_6 (h : Nat) (W : World) : Calls Try.prog 14 #[.int .u32 (h : Nat), .int .u32 6] W fun e W' => e = .returned (.int .u32 (((rformSN (orN (orN ((cutN h 10 3) * 8 % 4294967296) (plN h 6 1 2)) (plN h 5 1 6)) ((8 + (cutN h 2 3)) % 4294967296) ((8 + (cutN h 7 3)) % 4294967296) 2 35) : Nat) : Int)) ∧ W = W' := by
  have c0 : ∀ W, Calls Try.prog 13 #[.int .u32 ((h : Nat) : Int), .int .u64 2, .int .u64 3] W fun e W' => e = .returned (.int .u32 (((cutN h 2 3) : Nat) : Int)) ∧ W = W' := fun W => cut_gen h 2 3 W (by omega) (by omega)
  have c1 : ∀ W, Calls Try.prog 13 #[.int .u32 ((h : Nat) : Int), .int .u64 7, .int .u64 3] W fun e W' => e = .returned (.int .u32 (((cutN h 7 3) : Nat) : Int)) ∧ W = W' := fun W => cut_gen h 7 3 W (by omega) (by omega)
  have c2 : ∀ W, Calls Try.prog 13 #[.int .u32 ((h : Nat) : Int), .int .u64 10, .int .u64 3] W fun e W' => e = .returned (.int .u32 (((cutN h 10 3) : Nat) : Int)) ∧ W = W' := fun W => cut_gen h 10 3 W (by omega) (by omega)
  have c3 : ∀ W, Calls Try.prog 33 #[.int .u32 ((h : Nat) : Int), .int .u64 6, .int .u64 2] W fun e W' => e = .returned (.int .u32 (((plN h 6 1 2) : Nat) : Int)) ∧ W = W' := fun W => at_gen h 6 2 W (by omega) (by omega)
  have c4 : ∀ W, Calls Try.prog 33 #[.int .u32 ((h : Nat) : Int), .int .u64 5, .int .u64 6] W fun e W' => e = .returned (.int .u32 (((plN h 5 1 6) : Nat) : Int)) ∧ W = W' := fun W => at_gen h 5 6 W (by omega) (by omega)
  have c5 : ∀ W, Calls Try.prog 13 #[.int .u32 ((h : Nat) : Int), .int .u64 5, .int .u64 2] W fun e W' => e = .returned (.int .u32 (((cutN h 5 2) : Nat) : Int)) ∧ W = W' := fun W => cut_gen h 5 2 W (by omega) (by omega)
  have c6 : ∀ W, Calls Try.prog 35 #[.int .u32 (bits .or .u32 (bits .or .u32 ((((cutN h 10 3) : Nat) : Int) * 8 % 4294967296) (((plN h 6 1 2) : Nat) : Int)) (((plN h 5 1 6) : Nat) : Int)), .int .u32 ((8 + (((cutN h 2 3) : Nat) : Int)) % 4294967296), .int .u32 ((8 + (((cutN h 7 3) : Nat) : Int)) % 4294967296), .int .u32 2, .int .u32 35] W fun e W' => e = .returned (.int .u32 (((rformSN (orN (orN ((cutN h 10 3) * 8 % 4294967296) (plN h 6 1 2)) (plN h 5 1 6)) ((8 + (cutN h 2 3)) % 4294967296) ((8 + (cutN h 7 3)) % 4294967296) 2 35) : Nat) : Int)) ∧ W = W' := fun W => by
    have h := rformS_any (orN (orN ((cutN h 10 3) * 8 % 4294967296) (plN h 6 1 2)) (plN h 5 1 6)) ((8 + (cutN h 2 3)) % 4294967296) ((8 + (cutN h 7 3)) % 4294967296) 2 35 W
    first | (simp only [nats]; exact h) | exact h
  go_enter Try.func14, Try.ntmps14
  go_wp2_with (first | (go_at_call 13; (with_reducible refine (c0 _).mono ?_); rintro e w' ⟨rfl, rfl⟩) | (go_at_call 13; (with_reducible refine (c1 _).mono ?_); rintro e w' ⟨rfl, rfl⟩) | (go_at_call 13; (with_reducible refine (c2 _).mono ?_); rintro e w' ⟨rfl, rfl⟩) | (go_at_call 33; (with_reducible refine (c3 _).mono ?_); rintro e w' ⟨rfl, rfl⟩) | (go_at_call 33; (with_reducible refine (c4 _).mono ?_); rintro e w' ⟨rfl, rfl⟩) | (go_at_call 13; (with_reducible refine (c5 _).mono ?_); rintro e w' ⟨rfl, rfl⟩) | (go_at_call 35; (with_reducible refine (c6 _).mono ?_); rintro e w' ⟨rfl, rfl⟩) | fail)
  go_ret
  refine ⟨ret_int ?_, rfl⟩
  first | rfl | (simp only [nats]; done) | (simp only [nats]; rfl)
set_option maxHeartbeats 1000000 in
theorem first_7 (h : Nat) (W : World) : Calls Try.prog 14 #[.int .u32 (h : Nat), .int .u32 7] W fun e W' => e = .returned (.int .u32 (((rformSN (orN ((cutN h 10 3) * 8 % 4294967296) ((cutN h 5 2) * 64 % 4294967296)) ((8 + (cutN h 2 3)) % 4294967296) ((8 + (cutN h 7 3)) % 4294967296) 3 35) : Nat) : Int)) ∧ W = W' := by
  have c0 : ∀ W, Calls Try.prog 13 #[.int .u32 ((h : Nat) : Int), .int .u64 2, .int .u64 3] W fun e W' => e = .returned (.int .u32 (((cutN h 2 3) : Nat) : Int)) ∧ W = W' := fun W => cut_gen h 2 3 W (by omega) (by omega)
  have c1 : ∀ W, Calls Try.prog 13 #[.int .u32 ((h : Nat) : Int), .int .u64 7, .int .u64 3] W fun e W' => e = .returned (.int .u32 (((cutN h 7 3) : Nat) : Int)) ∧ W = W' := fun W => cut_gen h 7 3 W (by omega) (by omega)
  have c2 : ∀ W, Calls Try.prog 13 #[.int .u32 ((h : Nat) : Int), .int .u64 10, .int .u64 3] W fun e W' => e = .returned (.int .u32 (((cutN h 10 3) : Nat) : Int)) ∧ W = W' := fun W => cut_gen h 10 3 W (by omega) (by omega)
  have c3 : ∀ W, Calls Try.prog 33 #[.int .u32 ((h : Nat) : Int), .int .u64 6, .int .u64 2] W fun e W' => e = .returned (.int .u32 (((plN h 6 1 2) : Nat) : Int)) ∧ W = W' := fun W => at_gen h 6 2 W (by omega) (by omega)
  have c4 : ∀ W, Calls Try.prog 33 #[.int .u32 ((h : Nat) : Int), .int .u64 5, .int .u64 6] W fun e W' => e = .returned (.int .u32 (((plN h 5 1 6) : Nat) : Int)) ∧ W = W' := fun W => at_gen h 5 6 W (by omega) (by omega)
  have c5 : ∀ W, Calls Try.prog 13 #[.int .u32 ((h : Nat) : Int), .int .u64 5, .int .u64 2] W fun e W' => e = .returned (.int .u32 (((cutN h 5 2) : Nat) : Int)) ∧ W = W' := fun W => cut_gen h 5 2 W (by omega) (by omega)
  have c6 : ∀ W, Calls Try.prog 35 #[.int .u32 (bits .or .u32 ((((cutN h 10 3) : Nat) : Int) * 8 % 4294967296) ((((cutN h 5 2) : Nat) : Int) * 64 % 4294967296)), .int .u32 ((8 + (((cutN h 2 3) : Nat) : Int)) % 4294967296), .int .u32 ((8 + (((cutN h 7 3) : Nat) : Int)) % 4294967296), .int .u32 3, .int .u32 35] W fun e W' => e = .returned (.int .u32 (((rformSN (orN ((cutN h 10 3) * 8 % 4294967296) ((cutN h 5 2) * 64 % 4294967296)) ((8 + (cutN h 2 3)) % 4294967296) ((8 + (cutN h 7 3)) % 4294967296) 3 35) : Nat) : Int)) ∧ W = W' := fun W => by
    have h := rformS_any (orN ((cutN h 10 3) * 8 % 4294967296) ((cutN h 5 2) * 64 % 4294967296)) ((8 + (cutN h 2 3)) % 4294967296) ((8 + (cutN h 7 3)) % 4294967296) 3 35 W
    first | (simp only [nats]; exact h) | exact h
  go_enter Try.func14, Try.ntmps14
  go_wp2_with (first | (go_at_call 13; (with_reducible refine (c0 _).mono ?_); rintro e w' ⟨rfl, rfl⟩) | (go_at_call 13; (with_reducible refine (c1 _).mono ?_); rintro e w' ⟨rfl, rfl⟩) | (go_at_call 13; (with_reducible refine (c2 _).mono ?_); rintro e w' ⟨rfl, rfl⟩) | (go_at_call 33; (with_reducible refine (c3 _).mono ?_); rintro e w' ⟨rfl, rfl⟩) | (go_at_call 33; (with_reducible refine (c4 _).mono ?_); rintro e w' ⟨rfl, rfl⟩) | (go_at_call 13; (with_reducible refine (c5 _).mono ?_); rintro e w' ⟨rfl, rfl⟩) | (go_at_call 35; (with_reducible refine (c6 _).mono ?_); rintro e w' ⟨rfl, rfl⟩) | fail)
  go_ret
  refine ⟨ret_int ?_, rfl⟩
  first | rfl | (simp only [nats]; done) | (simp only [nats]; rfl)
theorem first_any (h f3 : Nat) (W : World) (lf3 : f3 < 8) : Calls Try.prog 14 #[.int .u32 (h : Nat), .int .u32 (f3 : Nat)] W fun e W' => e = .returned (.int .u32 ((firstN h f3 : Nat) : Int)) ∧ W = W' := by
  have b0 : f3 = 0 ∨ f3 = 1 ∨ f3 = 2 ∨ f3 = 3 ∨ f3 = 4 ∨ f3 = 5 ∨ f3 = 6 ∨ f3 = 7 := by omega
  rcases b0 with rfl | rfl | rfl | rfl | rfl | rfl | rfl | rfl
  · by_cases h0 : (orN (orN (orN ((cutN h 7 4) * 64 % 4294967296) ((cutN h 11 2) * 16 % 4294967296)) (plN h 5 1 3)) (plN h 6 1 2)) = 0
    · rw [show firstN h 0 = 0 from by unfold firstN; rw [show Nat.beq 0 0 = true from rfl, cond_true, beqT h0, cond_true]]
      exact first_0_y h W h0
    · rw [show firstN h 0 = (rformIN (orN (orN (orN ((cutN h 7 4) * 64 % 4294967296) ((cutN h 11 2) * 16 % 4294967296)) (plN h 5 1 3)) (plN h 6 1 2)) 2 0 ((8 + (cutN h 2 3)) % 4294967296) 19) from by unfold firstN; rw [show Nat.beq 0 0 = true from rfl, cond_true, beqF h0, cond_false]]
      exact first_0_n h W h0
  · rw [show firstN h 1 = 0 from by unfold firstN; rw [show Nat.beq 1 0 = false from rfl, cond_false, show Nat.beq 1 2 = false from rfl, cond_false, show Nat.beq 1 3 = false from rfl, cond_false, show Nat.beq 1 6 = false from rfl, cond_false, show Nat.beq 1 7 = false from rfl, cond_false]]
    exact first_1 h W 
  · rw [show firstN h 2 = (rformIN (orN (orN ((cutN h 10 3) * 8 % 4294967296) (plN h 6 1 2)) (plN h 5 1 6)) ((8 + (cutN h 7 3)) % 4294967296) 2 ((8 + (cutN h 2 3)) % 4294967296) 3) from by unfold firstN; rw [show Nat.beq 2 0 = false from rfl, cond_false, show Nat.beq 2 2 = true from rfl, cond_true]]
    exact first_2 h W 
  · rw [show firstN h 3 = (rformIN (orN ((cutN h 10 3) * 8 % 4294967296) ((cutN h 5 2) * 64 % 4294967296)) ((8 + (cutN h 7 3)) % 4294967296) 3 ((8 + (cutN h 2 3)) % 4294967296) 3) from by unfold firstN; rw [show Nat.beq 3 0 = false from rfl, cond_false, show Nat.beq 3 2 = false from rfl, cond_false, show Nat.beq 3 3 = true from rfl, cond_true]]
    exact first_3 h W 
  · rw [show firstN h 4 = 0 from by unfold firstN; rw [show Nat.beq 4 0 = false from rfl, cond_false, show Nat.beq 4 2 = false from rfl, cond_false, show Nat.beq 4 3 = false from rfl, cond_false, show Nat.beq 4 6 = false from rfl, cond_false, show Nat.beq 4 7 = false from rfl, cond_false]]
    exact first_4 h W 
  · rw [show firstN h 5 = 0 from by unfold firstN; rw [show Nat.beq 5 0 = false from rfl, cond_false, show Nat.beq 5 2 = false from rfl, cond_false, show Nat.beq 5 3 = false from rfl, cond_false, show Nat.beq 5 6 = false from rfl, cond_false, show Nat.beq 5 7 = false from rfl, cond_false]]
    exact first_5 h W 
  · rw [show firstN h 6 = (rformSN (orN (orN ((cutN h 10 3) * 8 % 4294967296) (plN h 6 1 2)) (plN h 5 1 6)) ((8 + (cutN h 2 3)) % 4294967296) ((8 + (cutN h 7 3)) % 4294967296) 2 35) from by unfold firstN; rw [show Nat.beq 6 0 = false from rfl, cond_false, show Nat.beq 6 2 = false from rfl, cond_false, show Nat.beq 6 3 = false from rfl, cond_false, show Nat.beq 6 6 = true from rfl, cond_true]]
    exact first_6 h W 
  · rw [show firstN h 7 = (rformSN (orN ((cutN h 10 3) * 8 % 4294967296) ((cutN h 5 2) * 64 % 4294967296)) ((8 + (cutN h 2 3)) % 4294967296) ((8 + (cutN h 7 3)) % 4294967296) 3 35) from by unfold firstN; rw [show Nat.beq 7 0 = false from rfl, cond_false, show Nat.beq 7 2 = false from rfl, cond_false, show Nat.beq 7 3 = false from rfl, cond_false, show Nat.beq 7 6 = false from rfl, cond_false, show Nat.beq 7 7 = true from rfl, cond_true]]
    exact first_7 h W 
def sumsN (h : Nat) : Nat := (bif Nat.beq (cutN h 10 2) 0 then (rformIN (shiftN h) ((8 + (cutN h 7 3)) % 4294967296) 5 ((8 + (cutN h 7 3)) % 4294967296) 19) else (bif Nat.beq (cutN h 10 2) 1 then (rformIN (orN (shiftN h) 1024) ((8 + (cutN h 7 3)) % 4294967296) 5 ((8 + (cutN h 7 3)) % 4294967296) 19) else (bif Nat.beq (cutN h 10 2) 2 then (rformIN ((sixN h) % 4096) ((8 + (cutN h 7 3)) % 4294967296) 7 ((8 + (cutN h 7 3)) % 4294967296) 19) else (bif Nat.beq (cutN h 10 2) 3 then (bif Nat.beq (cutN h 12 1) 0 then (bif Nat.beq (cutN h 5 2) 0 then (rformRN 32 ((8 + (cutN h 2 3)) % 4294967296) ((8 + (cutN h 7 3)) % 4294967296) 0 ((8 + (cutN h 7 3)) % 4294967296) 51) else (bif Nat.beq (cutN h 5 2) 1 then (rformRN 0 ((8 + (cutN h 2 3)) % 4294967296) ((8 + (cutN h 7 3)) % 4294967296) 4 ((8 + (cutN h 7 3)) % 4294967296) 51) else (bif Nat.beq (cutN h 5 2) 2 then (rformRN 0 ((8 + (cutN h 2 3)) % 4294967296) ((8 + (cutN h 7 3)) % 4294967296) 6 ((8 + (cutN h 7 3)) % 4294967296) 51) else (bif Nat.beq (cutN h 5 2) 3 then (rformRN 0 ((8 + (cutN h 2 3)) % 4294967296) ((8 + (cutN h 7 3)) % 4294967296) 7 ((8 + (cutN h 7 3)) % 4294967296) 51) else 0)))) else (bif Nat.beq (cutN h 12 1) 1 then (bif Nat.beq (cutN h 5 2) 0 then (rformRN 32 ((8 + (cutN h 2 3)) % 4294967296) ((8 + (cutN h 7 3)) % 4294967296) 0 ((8 + (cutN h 7 3)) % 4294967296) 59) else (bif Nat.beq (cutN h 5 2) 1 then (rformRN 0 ((8 + (cutN h 2 3)) % 4294967296) ((8 + (cutN h 7 3)) % 4294967296) 0 ((8 + (cutN h 7 3)) % 4294967296) 59) else 0)) else 0)) else 0))))
set_option maxHeartbeats 1000000 in
theorem sums_0 (h : Nat) (W : World) (h0 : (cutN h 10 2) = 0) : Calls Try.prog 38 #[.int .u32 (h : Nat)] W fun e W' => e = .returned (.int .u32 (((rformIN (shiftN h) ((8 + (cutN h 7 3)) % 4294967296) 5 ((8 + (cutN h 7 3)) % 4294967296) 19) : Nat) : Int)) ∧ W = W' := by
  have c0 : ∀ W, Calls Try.prog 13 #[.int .u32 ((h : Nat) : Int), .int .u64 7, .int .u64 3] W fun e W' => e = .returned (.int .u32 (((cutN h 7 3) : Nat) : Int)) ∧ W = W' := fun W => cut_gen h 7 3 W (by omega) (by omega)
  have c1 : ∀ W, Calls Try.prog 13 #[.int .u32 ((h : Nat) : Int), .int .u64 2, .int .u64 3] W fun e W' => e = .returned (.int .u32 (((cutN h 2 3) : Nat) : Int)) ∧ W = W' := fun W => cut_gen h 2 3 W (by omega) (by omega)
  have c2 : ∀ W, Calls Try.prog 13 #[.int .u32 ((h : Nat) : Int), .int .u64 10, .int .u64 2] W fun e W' => e = .returned (.int .u32 0) ∧ W = W' := fun W => by
    have h := cut_gen h 10 2 W (by omega) (by omega)
    rw [h0] at h
    exact h
  have c3 : ∀ W, Calls Try.prog 41 #[.int .u32 ((h : Nat) : Int)] W fun e W' => e = .returned (.int .u32 (((shiftN h) : Nat) : Int)) ∧ W = W' := fun W => shift_any h W
  have c4 : ∀ W, Calls Try.prog 34 #[.int .u32 (((shiftN h) : Nat) : Int), .int .u32 ((8 + (((cutN h 7 3) : Nat) : Int)) % 4294967296), .int .u32 5, .int .u32 ((8 + (((cutN h 7 3) : Nat) : Int)) % 4294967296), .int .u32 19] W fun e W' => e = .returned (.int .u32 (((rformIN (shiftN h) ((8 + (cutN h 7 3)) % 4294967296) 5 ((8 + (cutN h 7 3)) % 4294967296) 19) : Nat) : Int)) ∧ W = W' := fun W => by
    have h := rformI_any (shiftN h) ((8 + (cutN h 7 3)) % 4294967296) 5 ((8 + (cutN h 7 3)) % 4294967296) 19 W
    first | (simp only [nats]; exact h) | exact h
  go_enter Try.func38, Try.ntmps38
  go_wp2_with (first | (go_at_call 13; (with_reducible refine (c0 _).mono ?_); rintro e w' ⟨rfl, rfl⟩) | (go_at_call 13; (with_reducible refine (c1 _).mono ?_); rintro e w' ⟨rfl, rfl⟩) | (go_at_call 13; (with_reducible refine (c2 _).mono ?_); rintro e w' ⟨rfl, rfl⟩) | (go_at_call 41; (with_reducible refine (c3 _).mono ?_); rintro e w' ⟨rfl, rfl⟩) | (go_at_call 34; (with_reducible refine (c4 _).mono ?_); rintro e w' ⟨rfl, rfl⟩) | fail)
  go_ret
  refine ⟨ret_int ?_, rfl⟩
  first | rfl | (simp only [nats]; done) | (simp only [nats]; rfl)
set_option maxHeartbeats 1000000 in
theorem sums_1 (h : Nat) (W : World) (h0 : (cutN h 10 2) = 1) : Calls Try.prog 38 #[.int .u32 (h : Nat)] W fun e W' => e = .returned (.int .u32 (((rformIN (orN (shiftN h) 1024) ((8 + (cutN h 7 3)) % 4294967296) 5 ((8 + (cutN h 7 3)) % 4294967296) 19) : Nat) : Int)) ∧ W = W' := by
  have c0 : ∀ W, Calls Try.prog 13 #[.int .u32 ((h : Nat) : Int), .int .u64 7, .int .u64 3] W fun e W' => e = .returned (.int .u32 (((cutN h 7 3) : Nat) : Int)) ∧ W = W' := fun W => cut_gen h 7 3 W (by omega) (by omega)
  have c1 : ∀ W, Calls Try.prog 13 #[.int .u32 ((h : Nat) : Int), .int .u64 2, .int .u64 3] W fun e W' => e = .returned (.int .u32 (((cutN h 2 3) : Nat) : Int)) ∧ W = W' := fun W => cut_gen h 2 3 W (by omega) (by omega)
  have c2 : ∀ W, Calls Try.prog 13 #[.int .u32 ((h : Nat) : Int), .int .u64 10, .int .u64 2] W fun e W' => e = .returned (.int .u32 1) ∧ W = W' := fun W => by
    have h := cut_gen h 10 2 W (by omega) (by omega)
    rw [h0] at h
    exact h
  have c3 : ∀ W, Calls Try.prog 41 #[.int .u32 ((h : Nat) : Int)] W fun e W' => e = .returned (.int .u32 (((shiftN h) : Nat) : Int)) ∧ W = W' := fun W => shift_any h W
  have c4 : ∀ W, Calls Try.prog 34 #[.int .u32 (bits .or .u32 (((shiftN h) : Nat) : Int) 1024), .int .u32 ((8 + (((cutN h 7 3) : Nat) : Int)) % 4294967296), .int .u32 5, .int .u32 ((8 + (((cutN h 7 3) : Nat) : Int)) % 4294967296), .int .u32 19] W fun e W' => e = .returned (.int .u32 (((rformIN (orN (shiftN h) 1024) ((8 + (cutN h 7 3)) % 4294967296) 5 ((8 + (cutN h 7 3)) % 4294967296) 19) : Nat) : Int)) ∧ W = W' := fun W => by
    have h := rformI_any (orN (shiftN h) 1024) ((8 + (cutN h 7 3)) % 4294967296) 5 ((8 + (cutN h 7 3)) % 4294967296) 19 W
    first | (simp only [nats]; exact h) | exact h
  go_enter Try.func38, Try.ntmps38
  go_wp2_with (first | (go_at_call 13; (with_reducible refine (c0 _).mono ?_); rintro e w' ⟨rfl, rfl⟩) | (go_at_call 13; (with_reducible refine (c1 _).mono ?_); rintro e w' ⟨rfl, rfl⟩) | (go_at_call 13; (with_reducible refine (c2 _).mono ?_); rintro e w' ⟨rfl, rfl⟩) | (go_at_call 41; (with_reducible refine (c3 _).mono ?_); rintro e w' ⟨rfl, rfl⟩) | (go_at_call 34; (with_reducible refine (c4 _).mono ?_); rintro e w' ⟨rfl, rfl⟩) | fail)
  go_ret
  refine ⟨ret_int ?_, rfl⟩
  first | rfl | (simp only [nats]; done) | (simp only [nats]; rfl)
set_option maxHeartbeats 1000000 in
theorem sums_2 (h : Nat) (W : World) (h0 : (cutN h 10 2) = 2) : Calls Try.prog 38 #[.int .u32 (h : Nat)] W fun e W' => e = .returned (.int .u32 (((rformIN ((sixN h) % 4096) ((8 + (cutN h 7 3)) % 4294967296) 7 ((8 + (cutN h 7 3)) % 4294967296) 19) : Nat) : Int)) ∧ W = W' := by
  have c0 : ∀ W, Calls Try.prog 13 #[.int .u32 ((h : Nat) : Int), .int .u64 7, .int .u64 3] W fun e W' => e = .returned (.int .u32 (((cutN h 7 3) : Nat) : Int)) ∧ W = W' := fun W => cut_gen h 7 3 W (by omega) (by omega)
  have c1 : ∀ W, Calls Try.prog 13 #[.int .u32 ((h : Nat) : Int), .int .u64 2, .int .u64 3] W fun e W' => e = .returned (.int .u32 (((cutN h 2 3) : Nat) : Int)) ∧ W = W' := fun W => cut_gen h 2 3 W (by omega) (by omega)
  have c2 : ∀ W, Calls Try.prog 13 #[.int .u32 ((h : Nat) : Int), .int .u64 10, .int .u64 2] W fun e W' => e = .returned (.int .u32 2) ∧ W = W' := fun W => by
    have h := cut_gen h 10 2 W (by omega) (by omega)
    rw [h0] at h
    exact h
  have c3 : ∀ W, Calls Try.prog 36 #[.int .u32 ((h : Nat) : Int)] W fun e W' => e = .returned (.int .u32 (((sixN h) : Nat) : Int)) ∧ W = W' := fun W => six_any h W
  have c4 : ∀ W, Calls Try.prog 34 #[.int .u32 (bits .and .u32 (((sixN h) : Nat) : Int) 4095), .int .u32 ((8 + (((cutN h 7 3) : Nat) : Int)) % 4294967296), .int .u32 7, .int .u32 ((8 + (((cutN h 7 3) : Nat) : Int)) % 4294967296), .int .u32 19] W fun e W' => e = .returned (.int .u32 (((rformIN ((sixN h) % 4096) ((8 + (cutN h 7 3)) % 4294967296) 7 ((8 + (cutN h 7 3)) % 4294967296) 19) : Nat) : Int)) ∧ W = W' := fun W => by
    have h := rformI_any ((sixN h) % 4096) ((8 + (cutN h 7 3)) % 4294967296) 7 ((8 + (cutN h 7 3)) % 4294967296) 19 W
    first | (simp only [nats]; exact h) | exact h
  go_enter Try.func38, Try.ntmps38
  go_wp2_with (first | (go_at_call 13; (with_reducible refine (c0 _).mono ?_); rintro e w' ⟨rfl, rfl⟩) | (go_at_call 13; (with_reducible refine (c1 _).mono ?_); rintro e w' ⟨rfl, rfl⟩) | (go_at_call 13; (with_reducible refine (c2 _).mono ?_); rintro e w' ⟨rfl, rfl⟩) | (go_at_call 36; (with_reducible refine (c3 _).mono ?_); rintro e w' ⟨rfl, rfl⟩) | (go_at_call 34; (with_reducible refine (c4 _).mono ?_); rintro e w' ⟨rfl, rfl⟩) | fail)
  go_ret
  refine ⟨ret_int ?_, rfl⟩
  first | rfl | (simp only [nats]; done) | (simp only [nats]; rfl)
set_option maxHeartbeats 1000000 in
theorem sums_3_0_0 (h : Nat) (W : World) (h0 : (cutN h 10 2) = 3) (h1 : (cutN h 12 1) = 0) (h2 : (cutN h 5 2) = 0) : Calls Try.prog 38 #[.int .u32 (h : Nat)] W fun e W' => e = .returned (.int .u32 (((rformRN 32 ((8 + (cutN h 2 3)) % 4294967296) ((8 + (cutN h 7 3)) % 4294967296) 0 ((8 + (cutN h 7 3)) % 4294967296) 51) : Nat) : Int)) ∧ W = W' := by
  have c0 : ∀ W, Calls Try.prog 13 #[.int .u32 ((h : Nat) : Int), .int .u64 7, .int .u64 3] W fun e W' => e = .returned (.int .u32 (((cutN h 7 3) : Nat) : Int)) ∧ W = W' := fun W => cut_gen h 7 3 W (by omega) (by omega)
  have c1 : ∀ W, Calls Try.prog 13 #[.int .u32 ((h : Nat) : Int), .int .u64 2, .int .u64 3] W fun e W' => e = .returned (.int .u32 (((cutN h 2 3) : Nat) : Int)) ∧ W = W' := fun W => cut_gen h 2 3 W (by omega) (by omega)
  have c2 : ∀ W, Calls Try.prog 13 #[.int .u32 ((h : Nat) : Int), .int .u64 10, .int .u64 2] W fun e W' => e = .returned (.int .u32 3) ∧ W = W' := fun W => by
    have h := cut_gen h 10 2 W (by omega) (by omega)
    rw [h0] at h
    exact h
  have c3 : ∀ W, Calls Try.prog 13 #[.int .u32 ((h : Nat) : Int), .int .u64 12, .int .u64 1] W fun e W' => e = .returned (.int .u32 0) ∧ W = W' := fun W => by
    have h := cut_gen h 12 1 W (by omega) (by omega)
    rw [h1] at h
    exact h
  have c4 : ∀ W, Calls Try.prog 13 #[.int .u32 ((h : Nat) : Int), .int .u64 5, .int .u64 2] W fun e W' => e = .returned (.int .u32 0) ∧ W = W' := fun W => by
    have h := cut_gen h 5 2 W (by omega) (by omega)
    rw [h2] at h
    exact h
  have c5 : ∀ W, Calls Try.prog 65 #[.int .u32 32, .int .u32 ((8 + (((cutN h 2 3) : Nat) : Int)) % 4294967296), .int .u32 ((8 + (((cutN h 7 3) : Nat) : Int)) % 4294967296), .int .u32 0, .int .u32 ((8 + (((cutN h 7 3) : Nat) : Int)) % 4294967296), .int .u32 51] W fun e W' => e = .returned (.int .u32 (((rformRN 32 ((8 + (cutN h 2 3)) % 4294967296) ((8 + (cutN h 7 3)) % 4294967296) 0 ((8 + (cutN h 7 3)) % 4294967296) 51) : Nat) : Int)) ∧ W = W' := fun W => by
    have h := rformR_any 32 ((8 + (cutN h 2 3)) % 4294967296) ((8 + (cutN h 7 3)) % 4294967296) 0 ((8 + (cutN h 7 3)) % 4294967296) 51 W
    first | (simp only [nats]; exact h) | exact h
  go_enter Try.func38, Try.ntmps38
  go_wp2_with (first | (go_at_call 13; (with_reducible refine (c0 _).mono ?_); rintro e w' ⟨rfl, rfl⟩) | (go_at_call 13; (with_reducible refine (c1 _).mono ?_); rintro e w' ⟨rfl, rfl⟩) | (go_at_call 13; (with_reducible refine (c2 _).mono ?_); rintro e w' ⟨rfl, rfl⟩) | (go_at_call 13; (with_reducible refine (c3 _).mono ?_); rintro e w' ⟨rfl, rfl⟩) | (go_at_call 13; (with_reducible refine (c4 _).mono ?_); rintro e w' ⟨rfl, rfl⟩) | (go_at_call 65; (with_reducible refine (c5 _).mono ?_); rintro e w' ⟨rfl, rfl⟩) | fail)
  go_ret
  refine ⟨ret_int ?_, rfl⟩
  first | rfl | (simp only [nats]; done) | (simp only [nats]; rfl)
set_option maxHeartbeats 1000000 in
theorem sums_3_0_1 (h : Nat) (W : World) (h0 : (cutN h 10 2) = 3) (h1 : (cutN h 12 1) = 0) (h2 : (cutN h 5 2) = 1) : Calls Try.prog 38 #[.int .u32 (h : Nat)] W fun e W' => e = .returned (.int .u32 (((rformRN 0 ((8 + (cutN h 2 3)) % 4294967296) ((8 + (cutN h 7 3)) % 4294967296) 4 ((8 + (cutN h 7 3)) % 4294967296) 51) : Nat) : Int)) ∧ W = W' := by
  have c0 : ∀ W, Calls Try.prog 13 #[.int .u32 ((h : Nat) : Int), .int .u64 7, .int .u64 3] W fun e W' => e = .returned (.int .u32 (((cutN h 7 3) : Nat) : Int)) ∧ W = W' := fun W => cut_gen h 7 3 W (by omega) (by omega)
  have c1 : ∀ W, Calls Try.prog 13 #[.int .u32 ((h : Nat) : Int), .int .u64 2, .int .u64 3] W fun e W' => e = .returned (.int .u32 (((cutN h 2 3) : Nat) : Int)) ∧ W = W' := fun W => cut_gen h 2 3 W (by omega) (by omega)
  have c2 : ∀ W, Calls Try.prog 13 #[.int .u32 ((h : Nat) : Int), .int .u64 10, .int .u64 2] W fun e W' => e = .returned (.int .u32 3) ∧ W = W' := fun W => by
    have h := cut_gen h 10 2 W (by omega) (by omega)
    rw [h0] at h
    exact h
  have c3 : ∀ W, Calls Try.prog 13 #[.int .u32 ((h : Nat) : Int), .int .u64 12, .int .u64 1] W fun e W' => e = .returned (.int .u32 0) ∧ W = W' := fun W => by
    have h := cut_gen h 12 1 W (by omega) (by omega)
    rw [h1] at h
    exact h
  have c4 : ∀ W, Calls Try.prog 13 #[.int .u32 ((h : Nat) : Int), .int .u64 5, .int .u64 2] W fun e W' => e = .returned (.int .u32 1) ∧ W = W' := fun W => by
    have h := cut_gen h 5 2 W (by omega) (by omega)
    rw [h2] at h
    exact h
  have c5 : ∀ W, Calls Try.prog 65 #[.int .u32 0, .int .u32 ((8 + (((cutN h 2 3) : Nat) : Int)) % 4294967296), .int .u32 ((8 + (((cutN h 7 3) : Nat) : Int)) % 4294967296), .int .u32 4, .int .u32 ((8 + (((cutN h 7 3) : Nat) : Int)) % 4294967296), .int .u32 51] W fun e W' => e = .returned (.int .u32 (((rformRN 0 ((8 + (cutN h 2 3)) % 4294967296) ((8 + (cutN h 7 3)) % 4294967296) 4 ((8 + (cutN h 7 3)) % 4294967296) 51) : Nat) : Int)) ∧ W = W' := fun W => by
    have h := rformR_any 0 ((8 + (cutN h 2 3)) % 4294967296) ((8 + (cutN h 7 3)) % 4294967296) 4 ((8 + (cutN h 7 3)) % 4294967296) 51 W
    first | (simp only [nats]; exact h) | exact h
  go_enter Try.func38, Try.ntmps38
  go_wp2_with (first | (go_at_call 13; (with_reducible refine (c0 _).mono ?_); rintro e w' ⟨rfl, rfl⟩) | (go_at_call 13; (with_reducible refine (c1 _).mono ?_); rintro e w' ⟨rfl, rfl⟩) | (go_at_call 13; (with_reducible refine (c2 _).mono ?_); rintro e w' ⟨rfl, rfl⟩) | (go_at_call 13; (with_reducible refine (c3 _).mono ?_); rintro e w' ⟨rfl, rfl⟩) | (go_at_call 13; (with_reducible refine (c4 _).mono ?_); rintro e w' ⟨rfl, rfl⟩) | (go_at_call 65; (with_reducible refine (c5 _).mono ?_); rintro e w' ⟨rfl, rfl⟩) | fail)
  go_ret
  refine ⟨ret_int ?_, rfl⟩
  first | rfl | (simp only [nats]; done) | (simp only [nats]; rfl)
set_option maxHeartbeats 1000000 in
theorem sums_3_0_2 (h : Nat) (W : World) (h0 : (cutN h 10 2) = 3) (h1 : (cutN h 12 1) = 0) (h2 : (cutN h 5 2) = 2) : Calls Try.prog 38 #[.int .u32 (h : Nat)] W fun e W' => e = .returned (.int .u32 (((rformRN 0 ((8 + (cutN h 2 3)) % 4294967296) ((8 + (cutN h 7 3)) % 4294967296) 6 ((8 + (cutN h 7 3)) % 4294967296) 51) : Nat) : Int)) ∧ W = W' := by
  have c0 : ∀ W, Calls Try.prog 13 #[.int .u32 ((h : Nat) : Int), .int .u64 7, .int .u64 3] W fun e W' => e = .returned (.int .u32 (((cutN h 7 3) : Nat) : Int)) ∧ W = W' := fun W => cut_gen h 7 3 W (by omega) (by omega)
  have c1 : ∀ W, Calls Try.prog 13 #[.int .u32 ((h : Nat) : Int), .int .u64 2, .int .u64 3] W fun e W' => e = .returned (.int .u32 (((cutN h 2 3) : Nat) : Int)) ∧ W = W' := fun W => cut_gen h 2 3 W (by omega) (by omega)
  have c2 : ∀ W, Calls Try.prog 13 #[.int .u32 ((h : Nat) : Int), .int .u64 10, .int .u64 2] W fun e W' => e = .returned (.int .u32 3) ∧ W = W' := fun W => by
    have h := cut_gen h 10 2 W (by omega) (by omega)
    rw [h0] at h
    exact h
  have c3 : ∀ W, Calls Try.prog 13 #[.int .u32 ((h : Nat) : Int), .int .u64 12, .int .u64 1] W fun e W' => e = .returned (.int .u32 0) ∧ W = W' := fun W => by
    have h := cut_gen h 12 1 W (by omega) (by omega)
    rw [h1] at h
    exact h
  have c4 : ∀ W, Calls Try.prog 13 #[.int .u32 ((h : Nat) : Int), .int .u64 5, .int .u64 2] W fun e W' => e = .returned (.int .u32 2) ∧ W = W' := fun W => by
    have h := cut_gen h 5 2 W (by omega) (by omega)
    rw [h2] at h
    exact h
  have c5 : ∀ W, Calls Try.prog 65 #[.int .u32 0, .int .u32 ((8 + (((cutN h 2 3) : Nat) : Int)) % 4294967296), .int .u32 ((8 + (((cutN h 7 3) : Nat) : Int)) % 4294967296), .int .u32 6, .int .u32 ((8 + (((cutN h 7 3) : Nat) : Int)) % 4294967296), .int .u32 51] W fun e W' => e = .returned (.int .u32 (((rformRN 0 ((8 + (cutN h 2 3)) % 4294967296) ((8 + (cutN h 7 3)) % 4294967296) 6 ((8 + (cutN h 7 3)) % 4294967296) 51) : Nat) : Int)) ∧ W = W' := fun W => by
    have h := rformR_any 0 ((8 + (cutN h 2 3)) % 4294967296) ((8 + (cutN h 7 3)) % 4294967296) 6 ((8 + (cutN h 7 3)) % 4294967296) 51 W
    first | (simp only [nats]; exact h) | exact h
  go_enter Try.func38, Try.ntmps38
  go_wp2_with (first | (go_at_call 13; (with_reducible refine (c0 _).mono ?_); rintro e w' ⟨rfl, rfl⟩) | (go_at_call 13; (with_reducible refine (c1 _).mono ?_); rintro e w' ⟨rfl, rfl⟩) | (go_at_call 13; (with_reducible refine (c2 _).mono ?_); rintro e w' ⟨rfl, rfl⟩) | (go_at_call 13; (with_reducible refine (c3 _).mono ?_); rintro e w' ⟨rfl, rfl⟩) | (go_at_call 13; (with_reducible refine (c4 _).mono ?_); rintro e w' ⟨rfl, rfl⟩) | (go_at_call 65; (with_reducible refine (c5 _).mono ?_); rintro e w' ⟨rfl, rfl⟩) | fail)
  go_ret
  refine ⟨ret_int ?_, rfl⟩
  first | rfl | (simp only [nats]; done) | (simp only [nats]; rfl)
set_option maxHeartbeats 1000000 in
theorem sums_3_0_3 (h : Nat) (W : World) (h0 : (cutN h 10 2) = 3) (h1 : (cutN h 12 1) = 0) (h2 : (cutN h 5 2) = 3) : Calls Try.prog 38 #[.int .u32 (h : Nat)] W fun e W' => e = .returned (.int .u32 (((rformRN 0 ((8 + (cutN h 2 3)) % 4294967296) ((8 + (cutN h 7 3)) % 4294967296) 7 ((8 + (cutN h 7 3)) % 4294967296) 51) : Nat) : Int)) ∧ W = W' := by
  have c0 : ∀ W, Calls Try.prog 13 #[.int .u32 ((h : Nat) : Int), .int .u64 7, .int .u64 3] W fun e W' => e = .returned (.int .u32 (((cutN h 7 3) : Nat) : Int)) ∧ W = W' := fun W => cut_gen h 7 3 W (by omega) (by omega)
  have c1 : ∀ W, Calls Try.prog 13 #[.int .u32 ((h : Nat) : Int), .int .u64 2, .int .u64 3] W fun e W' => e = .returned (.int .u32 (((cutN h 2 3) : Nat) : Int)) ∧ W = W' := fun W => cut_gen h 2 3 W (by omega) (by omega)
  have c2 : ∀ W, Calls Try.prog 13 #[.int .u32 ((h : Nat) : Int), .int .u64 10, .int .u64 2] W fun e W' => e = .returned (.int .u32 3) ∧ W = W' := fun W => by
    have h := cut_gen h 10 2 W (by omega) (by omega)
    rw [h0] at h
    exact h
  have c3 : ∀ W, Calls Try.prog 13 #[.int .u32 ((h : Nat) : Int), .int .u64 12, .int .u64 1] W fun e W' => e = .returned (.int .u32 0) ∧ W = W' := fun W => by
    have h := cut_gen h 12 1 W (by omega) (by omega)
    rw [h1] at h
    exact h
  have c4 : ∀ W, Calls Try.prog 13 #[.int .u32 ((h : Nat) : Int), .int .u64 5, .int .u64 2] W fun e W' => e = .returned (.int .u32 3) ∧ W = W' := fun W => by
    have h := cut_gen h 5 2 W (by omega) (by omega)
    rw [h2] at h
    exact h
  have c5 : ∀ W, Calls Try.prog 65 #[.int .u32 0, .int .u32 ((8 + (((cutN h 2 3) : Nat) : Int)) % 4294967296), .int .u32 ((8 + (((cutN h 7 3) : Nat) : Int)) % 4294967296), .int .u32 7, .int .u32 ((8 + (((cutN h 7 3) : Nat) : Int)) % 4294967296), .int .u32 51] W fun e W' => e = .returned (.int .u32 (((rformRN 0 ((8 + (cutN h 2 3)) % 4294967296) ((8 + (cutN h 7 3)) % 4294967296) 7 ((8 + (cutN h 7 3)) % 4294967296) 51) : Nat) : Int)) ∧ W = W' := fun W => by
    have h := rformR_any 0 ((8 + (cutN h 2 3)) % 4294967296) ((8 + (cutN h 7 3)) % 4294967296) 7 ((8 + (cutN h 7 3)) % 4294967296) 51 W
    first | (simp only [nats]; exact h) | exact h
  go_enter Try.func38, Try.ntmps38
  go_wp2_with (first | (go_at_call 13; (with_reducible refine (c0 _).mono ?_); rintro e w' ⟨rfl, rfl⟩) | (go_at_call 13; (with_reducible refine (c1 _).mono ?_); rintro e w' ⟨rfl, rfl⟩) | (go_at_call 13; (with_reducible refine (c2 _).mono ?_); rintro e w' ⟨rfl, rfl⟩) | (go_at_call 13; (with_reducible refine (c3 _).mono ?_); rintro e w' ⟨rfl, rfl⟩) | (go_at_call 13; (with_reducible refine (c4 _).mono ?_); rintro e w' ⟨rfl, rfl⟩) | (go_at_call 65; (with_reducible refine (c5 _).mono ?_); rintro e w' ⟨rfl, rfl⟩) | fail)
  go_ret
  refine ⟨ret_int ?_, rfl⟩
  first | rfl | (simp only [nats]; done) | (simp only [nats]; rfl)
set_option maxHeartbeats 1000000 in
theorem sums_3_1_0 (h : Nat) (W : World) (h0 : (cutN h 10 2) = 3) (h1 : (cutN h 12 1) = 1) (h2 : (cutN h 5 2) = 0) : Calls Try.prog 38 #[.int .u32 (h : Nat)] W fun e W' => e = .returned (.int .u32 (((rformRN 32 ((8 + (cutN h 2 3)) % 4294967296) ((8 + (cutN h 7 3)) % 4294967296) 0 ((8 + (cutN h 7 3)) % 4294967296) 59) : Nat) : Int)) ∧ W = W' := by
  have c0 : ∀ W, Calls Try.prog 13 #[.int .u32 ((h : Nat) : Int), .int .u64 7, .int .u64 3] W fun e W' => e = .returned (.int .u32 (((cutN h 7 3) : Nat) : Int)) ∧ W = W' := fun W => cut_gen h 7 3 W (by omega) (by omega)
  have c1 : ∀ W, Calls Try.prog 13 #[.int .u32 ((h : Nat) : Int), .int .u64 2, .int .u64 3] W fun e W' => e = .returned (.int .u32 (((cutN h 2 3) : Nat) : Int)) ∧ W = W' := fun W => cut_gen h 2 3 W (by omega) (by omega)
  have c2 : ∀ W, Calls Try.prog 13 #[.int .u32 ((h : Nat) : Int), .int .u64 10, .int .u64 2] W fun e W' => e = .returned (.int .u32 3) ∧ W = W' := fun W => by
    have h := cut_gen h 10 2 W (by omega) (by omega)
    rw [h0] at h
    exact h
  have c3 : ∀ W, Calls Try.prog 13 #[.int .u32 ((h : Nat) : Int), .int .u64 12, .int .u64 1] W fun e W' => e = .returned (.int .u32 1) ∧ W = W' := fun W => by
    have h := cut_gen h 12 1 W (by omega) (by omega)
    rw [h1] at h
    exact h
  have c4 : ∀ W, Calls Try.prog 13 #[.int .u32 ((h : Nat) : Int), .int .u64 5, .int .u64 2] W fun e W' => e = .returned (.int .u32 0) ∧ W = W' := fun W => by
    have h := cut_gen h 5 2 W (by omega) (by omega)
    rw [h2] at h
    exact h
  have c5 : ∀ W, Calls Try.prog 65 #[.int .u32 32, .int .u32 ((8 + (((cutN h 2 3) : Nat) : Int)) % 4294967296), .int .u32 ((8 + (((cutN h 7 3) : Nat) : Int)) % 4294967296), .int .u32 0, .int .u32 ((8 + (((cutN h 7 3) : Nat) : Int)) % 4294967296), .int .u32 59] W fun e W' => e = .returned (.int .u32 (((rformRN 32 ((8 + (cutN h 2 3)) % 4294967296) ((8 + (cutN h 7 3)) % 4294967296) 0 ((8 + (cutN h 7 3)) % 4294967296) 59) : Nat) : Int)) ∧ W = W' := fun W => by
    have h := rformR_any 32 ((8 + (cutN h 2 3)) % 4294967296) ((8 + (cutN h 7 3)) % 4294967296) 0 ((8 + (cutN h 7 3)) % 4294967296) 59 W
    first | (simp only [nats]; exact h) | exact h
  go_enter Try.func38, Try.ntmps38
  go_wp2_with (first | (go_at_call 13; (with_reducible refine (c0 _).mono ?_); rintro e w' ⟨rfl, rfl⟩) | (go_at_call 13; (with_reducible refine (c1 _).mono ?_); rintro e w' ⟨rfl, rfl⟩) | (go_at_call 13; (with_reducible refine (c2 _).mono ?_); rintro e w' ⟨rfl, rfl⟩) | (go_at_call 13; (with_reducible refine (c3 _).mono ?_); rintro e w' ⟨rfl, rfl⟩) | (go_at_call 13; (with_reducible refine (c4 _).mono ?_); rintro e w' ⟨rfl, rfl⟩) | (go_at_call 65; (with_reducible refine (c5 _).mono ?_); rintro e w' ⟨rfl, rfl⟩) | fail)
  go_ret
  refine ⟨ret_int ?_, rfl⟩
  first | rfl | (simp only [nats]; done) | (simp only [nats]; rfl)
set_option maxHeartbeats 1000000 in
theorem sums_3_1_1 (h : Nat) (W : World) (h0 : (cutN h 10 2) = 3) (h1 : (cutN h 12 1) = 1) (h2 : (cutN h 5 2) = 1) : Calls Try.prog 38 #[.int .u32 (h : Nat)] W fun e W' => e = .returned (.int .u32 (((rformRN 0 ((8 + (cutN h 2 3)) % 4294967296) ((8 + (cutN h 7 3)) % 4294967296) 0 ((8 + (cutN h 7 3)) % 4294967296) 59) : Nat) : Int)) ∧ W = W' := by
  have c0 : ∀ W, Calls Try.prog 13 #[.int .u32 ((h : Nat) : Int), .int .u64 7, .int .u64 3] W fun e W' => e = .returned (.int .u32 (((cutN h 7 3) : Nat) : Int)) ∧ W = W' := fun W => cut_gen h 7 3 W (by omega) (by omega)
  have c1 : ∀ W, Calls Try.prog 13 #[.int .u32 ((h : Nat) : Int), .int .u64 2, .int .u64 3] W fun e W' => e = .returned (.int .u32 (((cutN h 2 3) : Nat) : Int)) ∧ W = W' := fun W => cut_gen h 2 3 W (by omega) (by omega)
  have c2 : ∀ W, Calls Try.prog 13 #[.int .u32 ((h : Nat) : Int), .int .u64 10, .int .u64 2] W fun e W' => e = .returned (.int .u32 3) ∧ W = W' := fun W => by
    have h := cut_gen h 10 2 W (by omega) (by omega)
    rw [h0] at h
    exact h
  have c3 : ∀ W, Calls Try.prog 13 #[.int .u32 ((h : Nat) : Int), .int .u64 12, .int .u64 1] W fun e W' => e = .returned (.int .u32 1) ∧ W = W' := fun W => by
    have h := cut_gen h 12 1 W (by omega) (by omega)
    rw [h1] at h
    exact h
  have c4 : ∀ W, Calls Try.prog 13 #[.int .u32 ((h : Nat) : Int), .int .u64 5, .int .u64 2] W fun e W' => e = .returned (.int .u32 1) ∧ W = W' := fun W => by
    have h := cut_gen h 5 2 W (by omega) (by omega)
    rw [h2] at h
    exact h
  have c5 : ∀ W, Calls Try.prog 65 #[.int .u32 0, .int .u32 ((8 + (((cutN h 2 3) : Nat) : Int)) % 4294967296), .int .u32 ((8 + (((cutN h 7 3) : Nat) : Int)) % 4294967296), .int .u32 0, .int .u32 ((8 + (((cutN h 7 3) : Nat) : Int)) % 4294967296), .int .u32 59] W fun e W' => e = .returned (.int .u32 (((rformRN 0 ((8 + (cutN h 2 3)) % 4294967296) ((8 + (cutN h 7 3)) % 4294967296) 0 ((8 + (cutN h 7 3)) % 4294967296) 59) : Nat) : Int)) ∧ W = W' := fun W => by
    have h := rformR_any 0 ((8 + (cutN h 2 3)) % 4294967296) ((8 + (cutN h 7 3)) % 4294967296) 0 ((8 + (cutN h 7 3)) % 4294967296) 59 W
    first | (simp only [nats]; exact h) | exact h
  go_enter Try.func38, Try.ntmps38
  go_wp2_with (first | (go_at_call 13; (with_reducible refine (c0 _).mono ?_); rintro e w' ⟨rfl, rfl⟩) | (go_at_call 13; (with_reducible refine (c1 _).mono ?_); rintro e w' ⟨rfl, rfl⟩) | (go_at_call 13; (with_reducible refine (c2 _).mono ?_); rintro e w' ⟨rfl, rfl⟩) | (go_at_call 13; (with_reducible refine (c3 _).mono ?_); rintro e w' ⟨rfl, rfl⟩) | (go_at_call 13; (with_reducible refine (c4 _).mono ?_); rintro e w' ⟨rfl, rfl⟩) | (go_at_call 65; (with_reducible refine (c5 _).mono ?_); rintro e w' ⟨rfl, rfl⟩) | fail)
  go_ret
  refine ⟨ret_int ?_, rfl⟩
  first | rfl | (simp only [nats]; done) | (simp only [nats]; rfl)
set_option maxHeartbeats 1000000 in
theorem sums_3_1_2 (h : Nat) (W : World) (h0 : (cutN h 10 2) = 3) (h1 : (cutN h 12 1) = 1) (h2 : (cutN h 5 2) = 2) : Calls Try.prog 38 #[.int .u32 (h : Nat)] W fun e W' => e = .returned (.int .u32 0) ∧ W = W' := by
  have c0 : ∀ W, Calls Try.prog 13 #[.int .u32 ((h : Nat) : Int), .int .u64 7, .int .u64 3] W fun e W' => e = .returned (.int .u32 (((cutN h 7 3) : Nat) : Int)) ∧ W = W' := fun W => cut_gen h 7 3 W (by omega) (by omega)
  have c1 : ∀ W, Calls Try.prog 13 #[.int .u32 ((h : Nat) : Int), .int .u64 2, .int .u64 3] W fun e W' => e = .returned (.int .u32 (((cutN h 2 3) : Nat) : Int)) ∧ W = W' := fun W => cut_gen h 2 3 W (by omega) (by omega)
  have c2 : ∀ W, Calls Try.prog 13 #[.int .u32 ((h : Nat) : Int), .int .u64 10, .int .u64 2] W fun e W' => e = .returned (.int .u32 3) ∧ W = W' := fun W => by
    have h := cut_gen h 10 2 W (by omega) (by omega)
    rw [h0] at h
    exact h
  have c3 : ∀ W, Calls Try.prog 13 #[.int .u32 ((h : Nat) : Int), .int .u64 12, .int .u64 1] W fun e W' => e = .returned (.int .u32 1) ∧ W = W' := fun W => by
    have h := cut_gen h 12 1 W (by omega) (by omega)
    rw [h1] at h
    exact h
  have c4 : ∀ W, Calls Try.prog 13 #[.int .u32 ((h : Nat) : Int), .int .u64 5, .int .u64 2] W fun e W' => e = .returned (.int .u32 2) ∧ W = W' := fun W => by
    have h := cut_gen h 5 2 W (by omega) (by omega)
    rw [h2] at h
    exact h
  go_enter Try.func38, Try.ntmps38
  go_wp2_with (first | (go_at_call 13; (with_reducible refine (c0 _).mono ?_); rintro e w' ⟨rfl, rfl⟩) | (go_at_call 13; (with_reducible refine (c1 _).mono ?_); rintro e w' ⟨rfl, rfl⟩) | (go_at_call 13; (with_reducible refine (c2 _).mono ?_); rintro e w' ⟨rfl, rfl⟩) | (go_at_call 13; (with_reducible refine (c3 _).mono ?_); rintro e w' ⟨rfl, rfl⟩) | (go_at_call 13; (with_reducible refine (c4 _).mono ?_); rintro e w' ⟨rfl, rfl⟩) | fail)
  go_ret
  exact ⟨rfl, rfl⟩
set_option maxHeartbeats 1000000 in
theorem sums_3_1_3 (h : Nat) (W : World) (h0 : (cutN h 10 2) = 3) (h1 : (cutN h 12 1) = 1) (h2 : (cutN h 5 2) = 3) : Calls Try.prog 38 #[.int .u32 (h : Nat)] W fun e W' => e = .returned (.int .u32 0) ∧ W = W' := by
  have c0 : ∀ W, Calls Try.prog 13 #[.int .u32 ((h : Nat) : Int), .int .u64 7, .int .u64 3] W fun e W' => e = .returned (.int .u32 (((cutN h 7 3) : Nat) : Int)) ∧ W = W' := fun W => cut_gen h 7 3 W (by omega) (by omega)
  have c1 : ∀ W, Calls Try.prog 13 #[.int .u32 ((h : Nat) : Int), .int .u64 2, .int .u64 3] W fun e W' => e = .returned (.int .u32 (((cutN h 2 3) : Nat) : Int)) ∧ W = W' := fun W => cut_gen h 2 3 W (by omega) (by omega)
  have c2 : ∀ W, Calls Try.prog 13 #[.int .u32 ((h : Nat) : Int), .int .u64 10, .int .u64 2] W fun e W' => e = .returned (.int .u32 3) ∧ W = W' := fun W => by
    have h := cut_gen h 10 2 W (by omega) (by omega)
    rw [h0] at h
    exact h
  have c3 : ∀ W, Calls Try.prog 13 #[.int .u32 ((h : Nat) : Int), .int .u64 12, .int .u64 1] W fun e W' => e = .returned (.int .u32 1) ∧ W = W' := fun W => by
    have h := cut_gen h 12 1 W (by omega) (by omega)
    rw [h1] at h
    exact h
  have c4 : ∀ W, Calls Try.prog 13 #[.int .u32 ((h : Nat) : Int), .int .u64 5, .int .u64 2] W fun e W' => e = .returned (.int .u32 3) ∧ W = W' := fun W => by
    have h := cut_gen h 5 2 W (by omega) (by omega)
    rw [h2] at h
    exact h
  go_enter Try.func38, Try.ntmps38
  go_wp2_with (first | (go_at_call 13; (with_reducible refine (c0 _).mono ?_); rintro e w' ⟨rfl, rfl⟩) | (go_at_call 13; (with_reducible refine (c1 _).mono ?_); rintro e w' ⟨rfl, rfl⟩) | (go_at_call 13; (with_reducible refine (c2 _).mono ?_); rintro e w' ⟨rfl, rfl⟩) | (go_at_call 13; (with_reducible refine (c3 _).mono ?_); rintro e w' ⟨rfl, rfl⟩) | (go_at_call 13; (with_reducible refine (c4 _).mono ?_); rintro e w' ⟨rfl, rfl⟩) | fail)
  go_ret
  exact ⟨rfl, rfl⟩
theorem sums_any (h : Nat) (W : World) : Calls Try.prog 38 #[.int .u32 (h : Nat)] W fun e W' => e = .returned (.int .u32 ((sumsN h : Nat) : Int)) ∧ W = W' := by
  have l0 := cutN_lt h 10 2
  have b0 : (cutN h 10 2) = 0 ∨ (cutN h 10 2) = 1 ∨ (cutN h 10 2) = 2 ∨ (cutN h 10 2) = 3 := by omega
  rcases b0 with h0 | h0 | h0 | h0
  · rw [show sumsN h = (rformIN (shiftN h) ((8 + (cutN h 7 3)) % 4294967296) 5 ((8 + (cutN h 7 3)) % 4294967296) 19) from by unfold sumsN; rw [beqT h0, cond_true]]
    exact sums_0 h W h0
  · rw [show sumsN h = (rformIN (orN (shiftN h) 1024) ((8 + (cutN h 7 3)) % 4294967296) 5 ((8 + (cutN h 7 3)) % 4294967296) 19) from by unfold sumsN; rw [beqF (show (cutN h 10 2) ≠ 0 by omega), cond_false, beqT h0, cond_true]]
    exact sums_1 h W h0
  · rw [show sumsN h = (rformIN ((sixN h) % 4096) ((8 + (cutN h 7 3)) % 4294967296) 7 ((8 + (cutN h 7 3)) % 4294967296) 19) from by unfold sumsN; rw [beqF (show (cutN h 10 2) ≠ 0 by omega), cond_false, beqF (show (cutN h 10 2) ≠ 1 by omega), cond_false, beqT h0, cond_true]]
    exact sums_2 h W h0
  · have l1 := cutN_lt h 12 1
    have b1 : (cutN h 12 1) = 0 ∨ (cutN h 12 1) = 1 := by omega
    rcases b1 with h1 | h1
    · have l2 := cutN_lt h 5 2
      have b2 : (cutN h 5 2) = 0 ∨ (cutN h 5 2) = 1 ∨ (cutN h 5 2) = 2 ∨ (cutN h 5 2) = 3 := by omega
      rcases b2 with h2 | h2 | h2 | h2
      · rw [show sumsN h = (rformRN 32 ((8 + (cutN h 2 3)) % 4294967296) ((8 + (cutN h 7 3)) % 4294967296) 0 ((8 + (cutN h 7 3)) % 4294967296) 51) from by unfold sumsN; rw [beqF (show (cutN h 10 2) ≠ 0 by omega), cond_false, beqF (show (cutN h 10 2) ≠ 1 by omega), cond_false, beqF (show (cutN h 10 2) ≠ 2 by omega), cond_false, beqT h0, cond_true, beqT h1, cond_true, beqT h2, cond_true]]
        exact sums_3_0_0 h W h0 h1 h2
      · rw [show sumsN h = (rformRN 0 ((8 + (cutN h 2 3)) % 4294967296) ((8 + (cutN h 7 3)) % 4294967296) 4 ((8 + (cutN h 7 3)) % 4294967296) 51) from by unfold sumsN; rw [beqF (show (cutN h 10 2) ≠ 0 by omega), cond_false, beqF (show (cutN h 10 2) ≠ 1 by omega), cond_false, beqF (show (cutN h 10 2) ≠ 2 by omega), cond_false, beqT h0, cond_true, beqT h1, cond_true, beqF (show (cutN h 5 2) ≠ 0 by omega), cond_false, beqT h2, cond_true]]
        exact sums_3_0_1 h W h0 h1 h2
      · rw [show sumsN h = (rformRN 0 ((8 + (cutN h 2 3)) % 4294967296) ((8 + (cutN h 7 3)) % 4294967296) 6 ((8 + (cutN h 7 3)) % 4294967296) 51) from by unfold sumsN; rw [beqF (show (cutN h 10 2) ≠ 0 by omega), cond_false, beqF (show (cutN h 10 2) ≠ 1 by omega), cond_false, beqF (show (cutN h 10 2) ≠ 2 by omega), cond_false, beqT h0, cond_true, beqT h1, cond_true, beqF (show (cutN h 5 2) ≠ 0 by omega), cond_false, beqF (show (cutN h 5 2) ≠ 1 by omega), cond_false, beqT h2, cond_true]]
        exact sums_3_0_2 h W h0 h1 h2
      · rw [show sumsN h = (rformRN 0 ((8 + (cutN h 2 3)) % 4294967296) ((8 + (cutN h 7 3)) % 4294967296) 7 ((8 + (cutN h 7 3)) % 4294967296) 51) from by unfold sumsN; rw [beqF (show (cutN h 10 2) ≠ 0 by omega), cond_false, beqF (show (cutN h 10 2) ≠ 1 by omega), cond_false, beqF (show (cutN h 10 2) ≠ 2 by omega), cond_false, beqT h0, cond_true, beqT h1, cond_true, beqF (show (cutN h 5 2) ≠ 0 by omega), cond_false, beqF (show (cutN h 5 2) ≠ 1 by omega), cond_false, beqF (show (cutN h 5 2) ≠ 2 by omega), cond_false, beqT h2, cond_true]]
        exact sums_3_0_3 h W h0 h1 h2
    · have l2 := cutN_lt h 5 2
      have b2 : (cutN h 5 2) = 0 ∨ (cutN h 5 2) = 1 ∨ (cutN h 5 2) = 2 ∨ (cutN h 5 2) = 3 := by omega
      rcases b2 with h2 | h2 | h2 | h2
      · rw [show sumsN h = (rformRN 32 ((8 + (cutN h 2 3)) % 4294967296) ((8 + (cutN h 7 3)) % 4294967296) 0 ((8 + (cutN h 7 3)) % 4294967296) 59) from by unfold sumsN; rw [beqF (show (cutN h 10 2) ≠ 0 by omega), cond_false, beqF (show (cutN h 10 2) ≠ 1 by omega), cond_false, beqF (show (cutN h 10 2) ≠ 2 by omega), cond_false, beqT h0, cond_true, beqF (show (cutN h 12 1) ≠ 0 by omega), cond_false, beqT h1, cond_true, beqT h2, cond_true]]
        exact sums_3_1_0 h W h0 h1 h2
      · rw [show sumsN h = (rformRN 0 ((8 + (cutN h 2 3)) % 4294967296) ((8 + (cutN h 7 3)) % 4294967296) 0 ((8 + (cutN h 7 3)) % 4294967296) 59) from by unfold sumsN; rw [beqF (show (cutN h 10 2) ≠ 0 by omega), cond_false, beqF (show (cutN h 10 2) ≠ 1 by omega), cond_false, beqF (show (cutN h 10 2) ≠ 2 by omega), cond_false, beqT h0, cond_true, beqF (show (cutN h 12 1) ≠ 0 by omega), cond_false, beqT h1, cond_true, beqF (show (cutN h 5 2) ≠ 0 by omega), cond_false, beqT h2, cond_true]]
        exact sums_3_1_1 h W h0 h1 h2
      · rw [show sumsN h = 0 from by unfold sumsN; rw [beqF (show (cutN h 10 2) ≠ 0 by omega), cond_false, beqF (show (cutN h 10 2) ≠ 1 by omega), cond_false, beqF (show (cutN h 10 2) ≠ 2 by omega), cond_false, beqT h0, cond_true, beqF (show (cutN h 12 1) ≠ 0 by omega), cond_false, beqT h1, cond_true, beqF (show (cutN h 5 2) ≠ 0 by omega), cond_false, beqF (show (cutN h 5 2) ≠ 1 by omega), cond_false]]
        exact sums_3_1_2 h W h0 h1 h2
      · rw [show sumsN h = 0 from by unfold sumsN; rw [beqF (show (cutN h 10 2) ≠ 0 by omega), cond_false, beqF (show (cutN h 10 2) ≠ 1 by omega), cond_false, beqF (show (cutN h 10 2) ≠ 2 by omega), cond_false, beqT h0, cond_true, beqF (show (cutN h 12 1) ≠ 0 by omega), cond_false, beqT h1, cond_true, beqF (show (cutN h 5 2) ≠ 0 by omega), cond_false, beqF (show (cutN h 5 2) ≠ 1 by omega), cond_false]]
        exact sums_3_1_3 h W h0 h1 h2
def secondN (h f3 : Nat) : Nat := (bif Nat.beq f3 0 then (rformIN ((sixN h) % 4096) (cutN h 7 5) 0 (cutN h 7 5) 19) else (bif Nat.beq f3 1 then (bif Nat.beq (cutN h 7 5) 0 then 0 else (rformIN ((sixN h) % 4096) (cutN h 7 5) 0 (cutN h 7 5) 27)) else (bif Nat.beq f3 2 then (rformIN ((sixN h) % 4096) 0 0 (cutN h 7 5) 19) else (bif Nat.beq f3 3 then (bif Nat.beq (sixN h) 0 then 0 else (bif Nat.beq (cutN h 7 5) 2 then (rformIN ((spr10N (orN (orN (orN (orN (plN h 12 1 9) (plN h 6 1 4)) (plN h 5 1 6)) ((cutN h 3 2) * 128 % 4294967296)) (plN h 2 1 5))) % 4096) 2 0 2 19) else (orN (orN ((sixN h) * 4096 % 4294967296) ((cutN h 7 5) * 128 % 4294967296)) 55))) else (bif Nat.beq f3 4 then (sumsN h) else (bif Nat.beq f3 5 then (rformJN (spr12N (orN (orN (orN (orN (orN (orN (orN (plN h 12 1 11) (plN h 11 1 4)) ((cutN h 9 2) * 256 % 4294967296)) (plN h 8 1 10)) (plN h 7 1 6)) (plN h 6 1 7)) ((cutN h 3 3) * 2 % 4294967296)) (plN h 2 1 5))) 0) else (bif Nat.beq f3 6 then (rformBN (spr9N (orN (orN (orN (orN (plN h 12 1 8) ((cutN h 10 2) * 8 % 4294967296)) ((cutN h 5 2) * 64 % 4294967296)) ((cutN h 3 2) * 2 % 4294967296)) (plN h 2 1 5))) 0 ((8 + (cutN h 7 3)) % 4294967296) 0) else (bif Nat.beq f3 7 then (rformBN (spr9N (orN (orN (orN (orN (plN h 12 1 8) ((cutN h 10 2) * 8 % 4294967296)) ((cutN h 5 2) * 64 % 4294967296)) ((cutN h 3 2) * 2 % 4294967296)) (plN h 2 1 5))) 0 ((8 + (cutN h 7 3)) % 4294967296) 1) else 0))))))))
set_option maxHeartbeats 1000000 in
theorem second_0 (h : Nat) (W : World) : Calls Try.prog 15 #[.int .u32 (h : Nat), .int .u32 0] W fun e W' => e = .returned (.int .u32 (((rformIN ((sixN h) % 4096) (cutN h 7 5) 0 (cutN h 7 5) 19) : Nat) : Int)) ∧ W = W' := by
  have c0 : ∀ W, Calls Try.prog 13 #[.int .u32 ((h : Nat) : Int), .int .u64 7, .int .u64 5] W fun e W' => e = .returned (.int .u32 (((cutN h 7 5) : Nat) : Int)) ∧ W = W' := fun W => cut_gen h 7 5 W (by omega) (by omega)
  have c1 : ∀ W, Calls Try.prog 36 #[.int .u32 ((h : Nat) : Int)] W fun e W' => e = .returned (.int .u32 (((sixN h) : Nat) : Int)) ∧ W = W' := fun W => six_any h W
  have c2 : ∀ W, Calls Try.prog 34 #[.int .u32 (bits .and .u32 (((sixN h) : Nat) : Int) 4095), .int .u32 (((cutN h 7 5) : Nat) : Int), .int .u32 0, .int .u32 (((cutN h 7 5) : Nat) : Int), .int .u32 19] W fun e W' => e = .returned (.int .u32 (((rformIN ((sixN h) % 4096) (cutN h 7 5) 0 (cutN h 7 5) 19) : Nat) : Int)) ∧ W = W' := fun W => by
    have h := rformI_any ((sixN h) % 4096) (cutN h 7 5) 0 (cutN h 7 5) 19 W
    first | (simp only [nats]; exact h) | exact h
  go_enter Try.func15, Try.ntmps15
  go_wp2_with (first | (go_at_call 13; (with_reducible refine (c0 _).mono ?_); rintro e w' ⟨rfl, rfl⟩) | (go_at_call 36; (with_reducible refine (c1 _).mono ?_); rintro e w' ⟨rfl, rfl⟩) | (go_at_call 34; (with_reducible refine (c2 _).mono ?_); rintro e w' ⟨rfl, rfl⟩) | fail)
  go_ret
  refine ⟨ret_int ?_, rfl⟩
  first | rfl | (simp only [nats]; done) | (simp only [nats]; rfl)
set_option maxHeartbeats 1000000 in
theorem second_1_y (h : Nat) (W : World) (h0 : (cutN h 7 5) = 0) : Calls Try.prog 15 #[.int .u32 (h : Nat), .int .u32 1] W fun e W' => e = .returned (.int .u32 0) ∧ W = W' := by
  have c0 : ∀ W, Calls Try.prog 13 #[.int .u32 ((h : Nat) : Int), .int .u64 7, .int .u64 5] W fun e W' => e = .returned (.int .u32 (((cutN h 7 5) : Nat) : Int)) ∧ W = W' := fun W => cut_gen h 7 5 W (by omega) (by omega)
  have p0 : (((((cutN h 7 5) : Nat) : Int) : Int) == 0) = true := by rw [beq_iff_eq]; rw [h0]; rfl
  have q0 : (((((cutN h 7 5) : Nat) : Int) : Int) != 0) = false := by rw [bne, p0]; rfl
  go_enter Try.func15, Try.ntmps15
  go_wp2_with (first | (go_at_call 13; (with_reducible refine (c0 _).mono ?_); rintro e w' ⟨rfl, rfl⟩) | fail)
  go_ret
  exact ⟨rfl, rfl⟩
set_option maxHeartbeats 1000000 in
theorem second_1_n (h : Nat) (W : World) (h0 : (cutN h 7 5) ≠ 0) : Calls Try.prog 15 #[.int .u32 (h : Nat), .int .u32 1] W fun e W' => e = .returned (.int .u32 (((rformIN ((sixN h) % 4096) (cutN h 7 5) 0 (cutN h 7 5) 27) : Nat) : Int)) ∧ W = W' := by
  have c0 : ∀ W, Calls Try.prog 13 #[.int .u32 ((h : Nat) : Int), .int .u64 7, .int .u64 5] W fun e W' => e = .returned (.int .u32 (((cutN h 7 5) : Nat) : Int)) ∧ W = W' := fun W => cut_gen h 7 5 W (by omega) (by omega)
  have c1 : ∀ W, Calls Try.prog 36 #[.int .u32 ((h : Nat) : Int)] W fun e W' => e = .returned (.int .u32 (((sixN h) : Nat) : Int)) ∧ W = W' := fun W => six_any h W
  have c2 : ∀ W, Calls Try.prog 34 #[.int .u32 (bits .and .u32 (((sixN h) : Nat) : Int) 4095), .int .u32 (((cutN h 7 5) : Nat) : Int), .int .u32 0, .int .u32 (((cutN h 7 5) : Nat) : Int), .int .u32 27] W fun e W' => e = .returned (.int .u32 (((rformIN ((sixN h) % 4096) (cutN h 7 5) 0 (cutN h 7 5) 27) : Nat) : Int)) ∧ W = W' := fun W => by
    have h := rformI_any ((sixN h) % 4096) (cutN h 7 5) 0 (cutN h 7 5) 27 W
    first | (simp only [nats]; exact h) | exact h
  have p0 : (((((cutN h 7 5) : Nat) : Int) : Int) == 0) = false := by rw [beq_eq_false_iff_ne]; omega
  have q0 : (((((cutN h 7 5) : Nat) : Int) : Int) != 0) = true := by rw [bne, p0]; rfl
  go_enter Try.func15, Try.ntmps15
  go_wp2_with (first | (go_at_call 13; (with_reducible refine (c0 _).mono ?_); rintro e w' ⟨rfl, rfl⟩) | (go_at_call 36; (with_reducible refine (c1 _).mono ?_); rintro e w' ⟨rfl, rfl⟩) | (go_at_call 34; (with_reducible refine (c2 _).mono ?_); rintro e w' ⟨rfl, rfl⟩) | fail)
  go_ret
  refine ⟨ret_int ?_, rfl⟩
  first | rfl | (simp only [nats]; done) | (simp only [nats]; rfl)
set_option maxHeartbeats 1000000 in
theorem second_2 (h : Nat) (W : World) : Calls Try.prog 15 #[.int .u32 (h : Nat), .int .u32 2] W fun e W' => e = .returned (.int .u32 (((rformIN ((sixN h) % 4096) 0 0 (cutN h 7 5) 19) : Nat) : Int)) ∧ W = W' := by
  have c0 : ∀ W, Calls Try.prog 13 #[.int .u32 ((h : Nat) : Int), .int .u64 7, .int .u64 5] W fun e W' => e = .returned (.int .u32 (((cutN h 7 5) : Nat) : Int)) ∧ W = W' := fun W => cut_gen h 7 5 W (by omega) (by omega)
  have c1 : ∀ W, Calls Try.prog 36 #[.int .u32 ((h : Nat) : Int)] W fun e W' => e = .returned (.int .u32 (((sixN h) : Nat) : Int)) ∧ W = W' := fun W => six_any h W
  have c2 : ∀ W, Calls Try.prog 34 #[.int .u32 (bits .and .u32 (((sixN h) : Nat) : Int) 4095), .int .u32 0, .int .u32 0, .int .u32 (((cutN h 7 5) : Nat) : Int), .int .u32 19] W fun e W' => e = .returned (.int .u32 (((rformIN ((sixN h) % 4096) 0 0 (cutN h 7 5) 19) : Nat) : Int)) ∧ W = W' := fun W => by
    have h := rformI_any ((sixN h) % 4096) 0 0 (cutN h 7 5) 19 W
    first | (simp only [nats]; exact h) | exact h
  go_enter Try.func15, Try.ntmps15
  go_wp2_with (first | (go_at_call 13; (with_reducible refine (c0 _).mono ?_); rintro e w' ⟨rfl, rfl⟩) | (go_at_call 36; (with_reducible refine (c1 _).mono ?_); rintro e w' ⟨rfl, rfl⟩) | (go_at_call 34; (with_reducible refine (c2 _).mono ?_); rintro e w' ⟨rfl, rfl⟩) | fail)
  go_ret
  refine ⟨ret_int ?_, rfl⟩
  first | rfl | (simp only [nats]; done) | (simp only [nats]; rfl)
set_option maxHeartbeats 1000000 in
theorem second_3_y (h : Nat) (W : World) (h0 : (sixN h) = 0) : Calls Try.prog 15 #[.int .u32 (h : Nat), .int .u32 3] W fun e W' => e = .returned (.int .u32 0) ∧ W = W' := by
  have c0 : ∀ W, Calls Try.prog 13 #[.int .u32 ((h : Nat) : Int), .int .u64 7, .int .u64 5] W fun e W' => e = .returned (.int .u32 (((cutN h 7 5) : Nat) : Int)) ∧ W = W' := fun W => cut_gen h 7 5 W (by omega) (by omega)
  have c1 : ∀ W, Calls Try.prog 36 #[.int .u32 ((h : Nat) : Int)] W fun e W' => e = .returned (.int .u32 (((sixN h) : Nat) : Int)) ∧ W = W' := fun W => six_any h W
  have p0 : (((((sixN h) : Nat) : Int) : Int) == 0) = true := by rw [beq_iff_eq]; rw [h0]; rfl
  have q0 : (((((sixN h) : Nat) : Int) : Int) != 0) = false := by rw [bne, p0]; rfl
  go_enter Try.func15, Try.ntmps15
  go_wp2_with (first | (go_at_call 13; (with_reducible refine (c0 _).mono ?_); rintro e w' ⟨rfl, rfl⟩) | (go_at_call 36; (with_reducible refine (c1 _).mono ?_); rintro e w' ⟨rfl, rfl⟩) | fail)
  go_ret
  exact ⟨rfl, rfl⟩
set_option maxHeartbeats 1000000 in
theorem second_3_n_y (h : Nat) (W : World) (h0 : (sixN h) ≠ 0) (h1 : (cutN h 7 5) = 2) : Calls Try.prog 15 #[.int .u32 (h : Nat), .int .u32 3] W fun e W' => e = .returned (.int .u32 (((rformIN ((spr10N (orN (orN (orN (orN (plN h 12 1 9) (plN h 6 1 4)) (plN h 5 1 6)) ((cutN h 3 2) * 128 % 4294967296)) (plN h 2 1 5))) % 4096) 2 0 2 19) : Nat) : Int)) ∧ W = W' := by
  have c0 : ∀ W, Calls Try.prog 13 #[.int .u32 ((h : Nat) : Int), .int .u64 7, .int .u64 5] W fun e W' => e = .returned (.int .u32 (((cutN h 7 5) : Nat) : Int)) ∧ W = W' := fun W => cut_gen h 7 5 W (by omega) (by omega)
  have c1 : ∀ W, Calls Try.prog 36 #[.int .u32 ((h : Nat) : Int)] W fun e W' => e = .returned (.int .u32 (((sixN h) : Nat) : Int)) ∧ W = W' := fun W => six_any h W
  have c2 : ∀ W, Calls Try.prog 33 #[.int .u32 ((h : Nat) : Int), .int .u64 12, .int .u64 9] W fun e W' => e = .returned (.int .u32 (((plN h 12 1 9) : Nat) : Int)) ∧ W = W' := fun W => at_gen h 12 9 W (by omega) (by omega)
  have c3 : ∀ W, Calls Try.prog 33 #[.int .u32 ((h : Nat) : Int), .int .u64 6, .int .u64 4] W fun e W' => e = .returned (.int .u32 (((plN h 6 1 4) : Nat) : Int)) ∧ W = W' := fun W => at_gen h 6 4 W (by omega) (by omega)
  have c4 : ∀ W, Calls Try.prog 33 #[.int .u32 ((h : Nat) : Int), .int .u64 5, .int .u64 6] W fun e W' => e = .returned (.int .u32 (((plN h 5 1 6) : Nat) : Int)) ∧ W = W' := fun W => at_gen h 5 6 W (by omega) (by omega)
  have c5 : ∀ W, Calls Try.prog 13 #[.int .u32 ((h : Nat) : Int), .int .u64 3, .int .u64 2] W fun e W' => e = .returned (.int .u32 (((cutN h 3 2) : Nat) : Int)) ∧ W = W' := fun W => cut_gen h 3 2 W (by omega) (by omega)
  have c6 : ∀ W, Calls Try.prog 33 #[.int .u32 ((h : Nat) : Int), .int .u64 2, .int .u64 5] W fun e W' => e = .returned (.int .u32 (((plN h 2 1 5) : Nat) : Int)) ∧ W = W' := fun W => at_gen h 2 5 W (by omega) (by omega)
  have c7 : ∀ W, Calls Try.prog 37 #[.int .u32 (bits .or .u32 (bits .or .u32 (bits .or .u32 (bits .or .u32 (((plN h 12 1 9) : Nat) : Int) (((plN h 6 1 4) : Nat) : Int)) (((plN h 5 1 6) : Nat) : Int)) ((((cutN h 3 2) : Nat) : Int) * 128 % 4294967296)) (((plN h 2 1 5) : Nat) : Int)), .int .u64 10] W fun e W' => e = .returned (.int .u32 (((spr10N (orN (orN (orN (orN (plN h 12 1 9) (plN h 6 1 4)) (plN h 5 1 6)) ((cutN h 3 2) * 128 % 4294967296)) (plN h 2 1 5))) : Nat) : Int)) ∧ W = W' := fun W => by
    have h := spread10_any (orN (orN (orN (orN (plN h 12 1 9) (plN h 6 1 4)) (plN h 5 1 6)) ((cutN h 3 2) * 128 % 4294967296)) (plN h 2 1 5)) W
    first | (simp only [nats]; exact h) | exact h
  have c8 : ∀ W, Calls Try.prog 34 #[.int .u32 (bits .and .u32 (((spr10N (orN (orN (orN (orN (plN h 12 1 9) (plN h 6 1 4)) (plN h 5 1 6)) ((cutN h 3 2) * 128 % 4294967296)) (plN h 2 1 5))) : Nat) : Int) 4095), .int .u32 2, .int .u32 0, .int .u32 2, .int .u32 19] W fun e W' => e = .returned (.int .u32 (((rformIN ((spr10N (orN (orN (orN (orN (plN h 12 1 9) (plN h 6 1 4)) (plN h 5 1 6)) ((cutN h 3 2) * 128 % 4294967296)) (plN h 2 1 5))) % 4096) 2 0 2 19) : Nat) : Int)) ∧ W = W' := fun W => by
    have h := rformI_any ((spr10N (orN (orN (orN (orN (plN h 12 1 9) (plN h 6 1 4)) (plN h 5 1 6)) ((cutN h 3 2) * 128 % 4294967296)) (plN h 2 1 5))) % 4096) 2 0 2 19 W
    first | (simp only [nats]; exact h) | exact h
  have p0 : (((((sixN h) : Nat) : Int) : Int) == 0) = false := by rw [beq_eq_false_iff_ne]; omega
  have q0 : (((((sixN h) : Nat) : Int) : Int) != 0) = true := by rw [bne, p0]; rfl
  have p1 : (((((cutN h 7 5) : Nat) : Int) : Int) == 2) = true := by rw [beq_iff_eq]; rw [h1]; rfl
  have q1 : (((((cutN h 7 5) : Nat) : Int) : Int) != 2) = false := by rw [bne, p1]; rfl
  go_enter Try.func15, Try.ntmps15
  go_wp2_with (first | (go_at_call 13; (with_reducible refine (c0 _).mono ?_); rintro e w' ⟨rfl, rfl⟩) | (go_at_call 36; (with_reducible refine (c1 _).mono ?_); rintro e w' ⟨rfl, rfl⟩) | (go_at_call 33; (with_reducible refine (c2 _).mono ?_); rintro e w' ⟨rfl, rfl⟩) | (go_at_call 33; (with_reducible refine (c3 _).mono ?_); rintro e w' ⟨rfl, rfl⟩) | (go_at_call 33; (with_reducible refine (c4 _).mono ?_); rintro e w' ⟨rfl, rfl⟩) | (go_at_call 13; (with_reducible refine (c5 _).mono ?_); rintro e w' ⟨rfl, rfl⟩) | (go_at_call 33; (with_reducible refine (c6 _).mono ?_); rintro e w' ⟨rfl, rfl⟩) | (go_at_call 37; (with_reducible refine (c7 _).mono ?_); rintro e w' ⟨rfl, rfl⟩) | (go_at_call 34; (with_reducible refine (c8 _).mono ?_); rintro e w' ⟨rfl, rfl⟩) | fail)
  go_ret
  refine ⟨ret_int ?_, rfl⟩
  first | rfl | (simp only [nats]; done) | (simp only [nats]; rfl)
set_option maxHeartbeats 1000000 in
theorem second_3_n_n (h : Nat) (W : World) (h0 : (sixN h) ≠ 0) (h1 : (cutN h 7 5) ≠ 2) : Calls Try.prog 15 #[.int .u32 (h : Nat), .int .u32 3] W fun e W' => e = .returned (.int .u32 (((orN (orN ((sixN h) * 4096 % 4294967296) ((cutN h 7 5) * 128 % 4294967296)) 55) : Nat) : Int)) ∧ W = W' := by
  have c0 : ∀ W, Calls Try.prog 13 #[.int .u32 ((h : Nat) : Int), .int .u64 7, .int .u64 5] W fun e W' => e = .returned (.int .u32 (((cutN h 7 5) : Nat) : Int)) ∧ W = W' := fun W => cut_gen h 7 5 W (by omega) (by omega)
  have c1 : ∀ W, Calls Try.prog 36 #[.int .u32 ((h : Nat) : Int)] W fun e W' => e = .returned (.int .u32 (((sixN h) : Nat) : Int)) ∧ W = W' := fun W => six_any h W
  have p0 : (((((sixN h) : Nat) : Int) : Int) == 0) = false := by rw [beq_eq_false_iff_ne]; omega
  have q0 : (((((sixN h) : Nat) : Int) : Int) != 0) = true := by rw [bne, p0]; rfl
  have p1 : (((((cutN h 7 5) : Nat) : Int) : Int) == 2) = false := by rw [beq_eq_false_iff_ne]; omega
  have q1 : (((((cutN h 7 5) : Nat) : Int) : Int) != 2) = true := by rw [bne, p1]; rfl
  go_enter Try.func15, Try.ntmps15
  go_wp2_with (first | (go_at_call 13; (with_reducible refine (c0 _).mono ?_); rintro e w' ⟨rfl, rfl⟩) | (go_at_call 36; (with_reducible refine (c1 _).mono ?_); rintro e w' ⟨rfl, rfl⟩) | fail)
  go_ret
  refine ⟨ret_int ?_, rfl⟩
  first | rfl | (simp only [nats]; done) | (simp only [nats]; rfl)
set_option maxHeartbeats 1000000 in
theorem second_4 (h : Nat) (W : World) : Calls Try.prog 15 #[.int .u32 (h : Nat), .int .u32 4] W fun e W' => e = .returned (.int .u32 (((sumsN h) : Nat) : Int)) ∧ W = W' := by
  have c0 : ∀ W, Calls Try.prog 13 #[.int .u32 ((h : Nat) : Int), .int .u64 7, .int .u64 5] W fun e W' => e = .returned (.int .u32 (((cutN h 7 5) : Nat) : Int)) ∧ W = W' := fun W => cut_gen h 7 5 W (by omega) (by omega)
  have c1 : ∀ W, Calls Try.prog 38 #[.int .u32 ((h : Nat) : Int)] W fun e W' => e = .returned (.int .u32 (((sumsN h) : Nat) : Int)) ∧ W = W' := fun W => sums_any h W
  go_enter Try.func15, Try.ntmps15
  go_wp2_with (first | (go_at_call 13; (with_reducible refine (c0 _).mono ?_); rintro e w' ⟨rfl, rfl⟩) | (go_at_call 38; (with_reducible refine (c1 _).mono ?_); rintro e w' ⟨rfl, rfl⟩) | fail)
  go_ret
  refine ⟨ret_int ?_, rfl⟩
  first | rfl | (simp only [nats]; done) | (simp only [nats]; rfl)
set_option maxHeartbeats 1000000 in
theorem second_5 (h : Nat) (W : World) : Calls Try.prog 15 #[.int .u32 (h : Nat), .int .u32 5] W fun e W' => e = .returned (.int .u32 (((rformJN (spr12N (orN (orN (orN (orN (orN (orN (orN (plN h 12 1 11) (plN h 11 1 4)) ((cutN h 9 2) * 256 % 4294967296)) (plN h 8 1 10)) (plN h 7 1 6)) (plN h 6 1 7)) ((cutN h 3 3) * 2 % 4294967296)) (plN h 2 1 5))) 0) : Nat) : Int)) ∧ W = W' := by
  have c0 : ∀ W, Calls Try.prog 13 #[.int .u32 ((h : Nat) : Int), .int .u64 7, .int .u64 5] W fun e W' => e = .returned (.int .u32 (((cutN h 7 5) : Nat) : Int)) ∧ W = W' := fun W => cut_gen h 7 5 W (by omega) (by omega)
  have c1 : ∀ W, Calls Try.prog 33 #[.int .u32 ((h : Nat) : Int), .int .u64 12, .int .u64 11] W fun e W' => e = .returned (.int .u32 (((plN h 12 1 11) : Nat) : Int)) ∧ W = W' := fun W => at_gen h 12 11 W (by omega) (by omega)
  have c2 : ∀ W, Calls Try.prog 33 #[.int .u32 ((h : Nat) : Int), .int .u64 11, .int .u64 4] W fun e W' => e = .returned (.int .u32 (((plN h 11 1 4) : Nat) : Int)) ∧ W = W' := fun W => at_gen h 11 4 W (by omega) (by omega)
  have c3 : ∀ W, Calls Try.prog 13 #[.int .u32 ((h : Nat) : Int), .int .u64 9, .int .u64 2] W fun e W' => e = .returned (.int .u32 (((cutN h 9 2) : Nat) : Int)) ∧ W = W' := fun W => cut_gen h 9 2 W (by omega) (by omega)
  have c4 : ∀ W, Calls Try.prog 33 #[.int .u32 ((h : Nat) : Int), .int .u64 8, .int .u64 10] W fun e W' => e = .returned (.int .u32 (((plN h 8 1 10) : Nat) : Int)) ∧ W = W' := fun W => at_gen h 8 10 W (by omega) (by omega)
  have c5 : ∀ W, Calls Try.prog 33 #[.int .u32 ((h : Nat) : Int), .int .u64 7, .int .u64 6] W fun e W' => e = .returned (.int .u32 (((plN h 7 1 6) : Nat) : Int)) ∧ W = W' := fun W => at_gen h 7 6 W (by omega) (by omega)
  have c6 : ∀ W, Calls Try.prog 33 #[.int .u32 ((h : Nat) : Int), .int .u64 6, .int .u64 7] W fun e W' => e = .returned (.int .u32 (((plN h 6 1 7) : Nat) : Int)) ∧ W = W' := fun W => at_gen h 6 7 W (by omega) (by omega)
  have c7 : ∀ W, Calls Try.prog 13 #[.int .u32 ((h : Nat) : Int), .int .u64 3, .int .u64 3] W fun e W' => e = .returned (.int .u32 (((cutN h 3 3) : Nat) : Int)) ∧ W = W' := fun W => cut_gen h 3 3 W (by omega) (by omega)
  have c8 : ∀ W, Calls Try.prog 33 #[.int .u32 ((h : Nat) : Int), .int .u64 2, .int .u64 5] W fun e W' => e = .returned (.int .u32 (((plN h 2 1 5) : Nat) : Int)) ∧ W = W' := fun W => at_gen h 2 5 W (by omega) (by omega)
  have c9 : ∀ W, Calls Try.prog 37 #[.int .u32 (bits .or .u32 (bits .or .u32 (bits .or .u32 (bits .or .u32 (bits .or .u32 (bits .or .u32 (bits .or .u32 (((plN h 12 1 11) : Nat) : Int) (((plN h 11 1 4) : Nat) : Int)) ((((cutN h 9 2) : Nat) : Int) * 256 % 4294967296)) (((plN h 8 1 10) : Nat) : Int)) (((plN h 7 1 6) : Nat) : Int)) (((plN h 6 1 7) : Nat) : Int)) ((((cutN h 3 3) : Nat) : Int) * 2 % 4294967296)) (((plN h 2 1 5) : Nat) : Int)), .int .u64 12] W fun e W' => e = .returned (.int .u32 (((spr12N (orN (orN (orN (orN (orN (orN (orN (plN h 12 1 11) (plN h 11 1 4)) ((cutN h 9 2) * 256 % 4294967296)) (plN h 8 1 10)) (plN h 7 1 6)) (plN h 6 1 7)) ((cutN h 3 3) * 2 % 4294967296)) (plN h 2 1 5))) : Nat) : Int)) ∧ W = W' := fun W => by
    have h := spread12_any (orN (orN (orN (orN (orN (orN (orN (plN h 12 1 11) (plN h 11 1 4)) ((cutN h 9 2) * 256 % 4294967296)) (plN h 8 1 10)) (plN h 7 1 6)) (plN h 6 1 7)) ((cutN h 3 3) * 2 % 4294967296)) (plN h 2 1 5)) W
    first | (simp only [nats]; exact h) | exact h
  have c10 : ∀ W, Calls Try.prog 39 #[.int .u32 (((spr12N (orN (orN (orN (orN (orN (orN (orN (plN h 12 1 11) (plN h 11 1 4)) ((cutN h 9 2) * 256 % 4294967296)) (plN h 8 1 10)) (plN h 7 1 6)) (plN h 6 1 7)) ((cutN h 3 3) * 2 % 4294967296)) (plN h 2 1 5))) : Nat) : Int), .int .u32 0] W fun e W' => e = .returned (.int .u32 (((rformJN (spr12N (orN (orN (orN (orN (orN (orN (orN (plN h 12 1 11) (plN h 11 1 4)) ((cutN h 9 2) * 256 % 4294967296)) (plN h 8 1 10)) (plN h 7 1 6)) (plN h 6 1 7)) ((cutN h 3 3) * 2 % 4294967296)) (plN h 2 1 5))) 0) : Nat) : Int)) ∧ W = W' := fun W => by
    have h := rformJ_any (spr12N (orN (orN (orN (orN (orN (orN (orN (plN h 12 1 11) (plN h 11 1 4)) ((cutN h 9 2) * 256 % 4294967296)) (plN h 8 1 10)) (plN h 7 1 6)) (plN h 6 1 7)) ((cutN h 3 3) * 2 % 4294967296)) (plN h 2 1 5))) 0 W
    first | (simp only [nats]; exact h) | exact h
  go_enter Try.func15, Try.ntmps15
  go_wp2_with (first | (go_at_call 13; (with_reducible refine (c0 _).mono ?_); rintro e w' ⟨rfl, rfl⟩) | (go_at_call 33; (with_reducible refine (c1 _).mono ?_); rintro e w' ⟨rfl, rfl⟩) | (go_at_call 33; (with_reducible refine (c2 _).mono ?_); rintro e w' ⟨rfl, rfl⟩) | (go_at_call 13; (with_reducible refine (c3 _).mono ?_); rintro e w' ⟨rfl, rfl⟩) | (go_at_call 33; (with_reducible refine (c4 _).mono ?_); rintro e w' ⟨rfl, rfl⟩) | (go_at_call 33; (with_reducible refine (c5 _).mono ?_); rintro e w' ⟨rfl, rfl⟩) | (go_at_call 33; (with_reducible refine (c6 _).mono ?_); rintro e w' ⟨rfl, rfl⟩) | (go_at_call 13; (with_reducible refine (c7 _).mono ?_); rintro e w' ⟨rfl, rfl⟩) | (go_at_call 33; (with_reducible refine (c8 _).mono ?_); rintro e w' ⟨rfl, rfl⟩) | (go_at_call 37; (with_reducible refine (c9 _).mono ?_); rintro e w' ⟨rfl, rfl⟩) | (go_at_call 39; (with_reducible refine (c10 _).mono ?_); rintro e w' ⟨rfl, rfl⟩) | fail)
  go_ret
  refine ⟨ret_int ?_, rfl⟩
  first | rfl | (simp only [nats]; done) | (simp only [nats]; rfl)
set_option maxHeartbeats 1000000 in
theorem second_6 (h : Nat) (W : World) : Calls Try.prog 15 #[.int .u32 (h : Nat), .int .u32 6] W fun e W' => e = .returned (.int .u32 (((rformBN (spr9N (orN (orN (orN (orN (plN h 12 1 8) ((cutN h 10 2) * 8 % 4294967296)) ((cutN h 5 2) * 64 % 4294967296)) ((cutN h 3 2) * 2 % 4294967296)) (plN h 2 1 5))) 0 ((8 + (cutN h 7 3)) % 4294967296) 0) : Nat) : Int)) ∧ W = W' := by
  have c0 : ∀ W, Calls Try.prog 13 #[.int .u32 ((h : Nat) : Int), .int .u64 7, .int .u64 5] W fun e W' => e = .returned (.int .u32 (((cutN h 7 5) : Nat) : Int)) ∧ W = W' := fun W => cut_gen h 7 5 W (by omega) (by omega)
  have c1 : ∀ W, Calls Try.prog 33 #[.int .u32 ((h : Nat) : Int), .int .u64 12, .int .u64 8] W fun e W' => e = .returned (.int .u32 (((plN h 12 1 8) : Nat) : Int)) ∧ W = W' := fun W => at_gen h 12 8 W (by omega) (by omega)
  have c2 : ∀ W, Calls Try.prog 13 #[.int .u32 ((h : Nat) : Int), .int .u64 10, .int .u64 2] W fun e W' => e = .returned (.int .u32 (((cutN h 10 2) : Nat) : Int)) ∧ W = W' := fun W => cut_gen h 10 2 W (by omega) (by omega)
  have c3 : ∀ W, Calls Try.prog 13 #[.int .u32 ((h : Nat) : Int), .int .u64 5, .int .u64 2] W fun e W' => e = .returned (.int .u32 (((cutN h 5 2) : Nat) : Int)) ∧ W = W' := fun W => cut_gen h 5 2 W (by omega) (by omega)
  have c4 : ∀ W, Calls Try.prog 13 #[.int .u32 ((h : Nat) : Int), .int .u64 3, .int .u64 2] W fun e W' => e = .returned (.int .u32 (((cutN h 3 2) : Nat) : Int)) ∧ W = W' := fun W => cut_gen h 3 2 W (by omega) (by omega)
  have c5 : ∀ W, Calls Try.prog 33 #[.int .u32 ((h : Nat) : Int), .int .u64 2, .int .u64 5] W fun e W' => e = .returned (.int .u32 (((plN h 2 1 5) : Nat) : Int)) ∧ W = W' := fun W => at_gen h 2 5 W (by omega) (by omega)
  have c6 : ∀ W, Calls Try.prog 37 #[.int .u32 (bits .or .u32 (bits .or .u32 (bits .or .u32 (bits .or .u32 (((plN h 12 1 8) : Nat) : Int) ((((cutN h 10 2) : Nat) : Int) * 8 % 4294967296)) ((((cutN h 5 2) : Nat) : Int) * 64 % 4294967296)) ((((cutN h 3 2) : Nat) : Int) * 2 % 4294967296)) (((plN h 2 1 5) : Nat) : Int)), .int .u64 9] W fun e W' => e = .returned (.int .u32 (((spr9N (orN (orN (orN (orN (plN h 12 1 8) ((cutN h 10 2) * 8 % 4294967296)) ((cutN h 5 2) * 64 % 4294967296)) ((cutN h 3 2) * 2 % 4294967296)) (plN h 2 1 5))) : Nat) : Int)) ∧ W = W' := fun W => by
    have h := spread9_any (orN (orN (orN (orN (plN h 12 1 8) ((cutN h 10 2) * 8 % 4294967296)) ((cutN h 5 2) * 64 % 4294967296)) ((cutN h 3 2) * 2 % 4294967296)) (plN h 2 1 5)) W
    first | (simp only [nats]; exact h) | exact h
  have c7 : ∀ W, Calls Try.prog 13 #[.int .u32 ((h : Nat) : Int), .int .u64 7, .int .u64 3] W fun e W' => e = .returned (.int .u32 (((cutN h 7 3) : Nat) : Int)) ∧ W = W' := fun W => cut_gen h 7 3 W (by omega) (by omega)
  have c8 : ∀ W, Calls Try.prog 40 #[.int .u32 (((spr9N (orN (orN (orN (orN (plN h 12 1 8) ((cutN h 10 2) * 8 % 4294967296)) ((cutN h 5 2) * 64 % 4294967296)) ((cutN h 3 2) * 2 % 4294967296)) (plN h 2 1 5))) : Nat) : Int), .int .u32 0, .int .u32 ((8 + (((cutN h 7 3) : Nat) : Int)) % 4294967296), .int .u32 0] W fun e W' => e = .returned (.int .u32 (((rformBN (spr9N (orN (orN (orN (orN (plN h 12 1 8) ((cutN h 10 2) * 8 % 4294967296)) ((cutN h 5 2) * 64 % 4294967296)) ((cutN h 3 2) * 2 % 4294967296)) (plN h 2 1 5))) 0 ((8 + (cutN h 7 3)) % 4294967296) 0) : Nat) : Int)) ∧ W = W' := fun W => by
    have h := rformB_any (spr9N (orN (orN (orN (orN (plN h 12 1 8) ((cutN h 10 2) * 8 % 4294967296)) ((cutN h 5 2) * 64 % 4294967296)) ((cutN h 3 2) * 2 % 4294967296)) (plN h 2 1 5))) 0 ((8 + (cutN h 7 3)) % 4294967296) 0 W
    first | (simp only [nats]; exact h) | exact h
  go_enter Try.func15, Try.ntmps15
  go_wp2_with (first | (go_at_call 13; (with_reducible refine (c0 _).mono ?_); rintro e w' ⟨rfl, rfl⟩) | (go_at_call 33; (with_reducible refine (c1 _).mono ?_); rintro e w' ⟨rfl, rfl⟩) | (go_at_call 13; (with_reducible refine (c2 _).mono ?_); rintro e w' ⟨rfl, rfl⟩) | (go_at_call 13; (with_reducible refine (c3 _).mono ?_); rintro e w' ⟨rfl, rfl⟩) | (go_at_call 13; (with_reducible refine (c4 _).mono ?_); rintro e w' ⟨rfl, rfl⟩) | (go_at_call 33; (with_reducible refine (c5 _).mono ?_); rintro e w' ⟨rfl, rfl⟩) | (go_at_call 37; (with_reducible refine (c6 _).mono ?_); rintro e w' ⟨rfl, rfl⟩) | (go_at_call 13; (with_reducible refine (c7 _).mono ?_); rintro e w' ⟨rfl, rfl⟩) | (go_at_call 40; (with_reducible refine (c8 _).mono ?_); rintro e w' ⟨rfl, rfl⟩) | fail)
  go_ret
  refine ⟨ret_int ?_, rfl⟩
  first | rfl | (simp only [nats]; done) | (simp only [nats]; rfl)
set_option maxHeartbeats 1000000 in
theorem second_7 (h : Nat) (W : World) : Calls Try.prog 15 #[.int .u32 (h : Nat), .int .u32 7] W fun e W' => e = .returned (.int .u32 (((rformBN (spr9N (orN (orN (orN (orN (plN h 12 1 8) ((cutN h 10 2) * 8 % 4294967296)) ((cutN h 5 2) * 64 % 4294967296)) ((cutN h 3 2) * 2 % 4294967296)) (plN h 2 1 5))) 0 ((8 + (cutN h 7 3)) % 4294967296) 1) : Nat) : Int)) ∧ W = W' := by
  have c0 : ∀ W, Calls Try.prog 13 #[.int .u32 ((h : Nat) : Int), .int .u64 7, .int .u64 5] W fun e W' => e = .returned (.int .u32 (((cutN h 7 5) : Nat) : Int)) ∧ W = W' := fun W => cut_gen h 7 5 W (by omega) (by omega)
  have c1 : ∀ W, Calls Try.prog 33 #[.int .u32 ((h : Nat) : Int), .int .u64 12, .int .u64 8] W fun e W' => e = .returned (.int .u32 (((plN h 12 1 8) : Nat) : Int)) ∧ W = W' := fun W => at_gen h 12 8 W (by omega) (by omega)
  have c2 : ∀ W, Calls Try.prog 13 #[.int .u32 ((h : Nat) : Int), .int .u64 10, .int .u64 2] W fun e W' => e = .returned (.int .u32 (((cutN h 10 2) : Nat) : Int)) ∧ W = W' := fun W => cut_gen h 10 2 W (by omega) (by omega)
  have c3 : ∀ W, Calls Try.prog 13 #[.int .u32 ((h : Nat) : Int), .int .u64 5, .int .u64 2] W fun e W' => e = .returned (.int .u32 (((cutN h 5 2) : Nat) : Int)) ∧ W = W' := fun W => cut_gen h 5 2 W (by omega) (by omega)
  have c4 : ∀ W, Calls Try.prog 13 #[.int .u32 ((h : Nat) : Int), .int .u64 3, .int .u64 2] W fun e W' => e = .returned (.int .u32 (((cutN h 3 2) : Nat) : Int)) ∧ W = W' := fun W => cut_gen h 3 2 W (by omega) (by omega)
  have c5 : ∀ W, Calls Try.prog 33 #[.int .u32 ((h : Nat) : Int), .int .u64 2, .int .u64 5] W fun e W' => e = .returned (.int .u32 (((plN h 2 1 5) : Nat) : Int)) ∧ W = W' := fun W => at_gen h 2 5 W (by omega) (by omega)
  have c6 : ∀ W, Calls Try.prog 37 #[.int .u32 (bits .or .u32 (bits .or .u32 (bits .or .u32 (bits .or .u32 (((plN h 12 1 8) : Nat) : Int) ((((cutN h 10 2) : Nat) : Int) * 8 % 4294967296)) ((((cutN h 5 2) : Nat) : Int) * 64 % 4294967296)) ((((cutN h 3 2) : Nat) : Int) * 2 % 4294967296)) (((plN h 2 1 5) : Nat) : Int)), .int .u64 9] W fun e W' => e = .returned (.int .u32 (((spr9N (orN (orN (orN (orN (plN h 12 1 8) ((cutN h 10 2) * 8 % 4294967296)) ((cutN h 5 2) * 64 % 4294967296)) ((cutN h 3 2) * 2 % 4294967296)) (plN h 2 1 5))) : Nat) : Int)) ∧ W = W' := fun W => by
    have h := spread9_any (orN (orN (orN (orN (plN h 12 1 8) ((cutN h 10 2) * 8 % 4294967296)) ((cutN h 5 2) * 64 % 4294967296)) ((cutN h 3 2) * 2 % 4294967296)) (plN h 2 1 5)) W
    first | (simp only [nats]; exact h) | exact h
  have c7 : ∀ W, Calls Try.prog 13 #[.int .u32 ((h : Nat) : Int), .int .u64 7, .int .u64 3] W fun e W' => e = .returned (.int .u32 (((cutN h 7 3) : Nat) : Int)) ∧ W = W' := fun W => cut_gen h 7 3 W (by omega) (by omega)
  have c8 : ∀ W, Calls Try.prog 40 #[.int .u32 (((spr9N (orN (orN (orN (orN (plN h 12 1 8) ((cutN h 10 2) * 8 % 4294967296)) ((cutN h 5 2) * 64 % 4294967296)) ((cutN h 3 2) * 2 % 4294967296)) (plN h 2 1 5))) : Nat) : Int), .int .u32 0, .int .u32 ((8 + (((cutN h 7 3) : Nat) : Int)) % 4294967296), .int .u32 1] W fun e W' => e = .returned (.int .u32 (((rformBN (spr9N (orN (orN (orN (orN (plN h 12 1 8) ((cutN h 10 2) * 8 % 4294967296)) ((cutN h 5 2) * 64 % 4294967296)) ((cutN h 3 2) * 2 % 4294967296)) (plN h 2 1 5))) 0 ((8 + (cutN h 7 3)) % 4294967296) 1) : Nat) : Int)) ∧ W = W' := fun W => by
    have h := rformB_any (spr9N (orN (orN (orN (orN (plN h 12 1 8) ((cutN h 10 2) * 8 % 4294967296)) ((cutN h 5 2) * 64 % 4294967296)) ((cutN h 3 2) * 2 % 4294967296)) (plN h 2 1 5))) 0 ((8 + (cutN h 7 3)) % 4294967296) 1 W
    first | (simp only [nats]; exact h) | exact h
  go_enter Try.func15, Try.ntmps15
  go_wp2_with (first | (go_at_call 13; (with_reducible refine (c0 _).mono ?_); rintro e w' ⟨rfl, rfl⟩) | (go_at_call 33; (with_reducible refine (c1 _).mono ?_); rintro e w' ⟨rfl, rfl⟩) | (go_at_call 13; (with_reducible refine (c2 _).mono ?_); rintro e w' ⟨rfl, rfl⟩) | (go_at_call 13; (with_reducible refine (c3 _).mono ?_); rintro e w' ⟨rfl, rfl⟩) | (go_at_call 13; (with_reducible refine (c4 _).mono ?_); rintro e w' ⟨rfl, rfl⟩) | (go_at_call 33; (with_reducible refine (c5 _).mono ?_); rintro e w' ⟨rfl, rfl⟩) | (go_at_call 37; (with_reducible refine (c6 _).mono ?_); rintro e w' ⟨rfl, rfl⟩) | (go_at_call 13; (with_reducible refine (c7 _).mono ?_); rintro e w' ⟨rfl, rfl⟩) | (go_at_call 40; (with_reducible refine (c8 _).mono ?_); rintro e w' ⟨rfl, rfl⟩) | fail)
  go_ret
  refine ⟨ret_int ?_, rfl⟩
  first | rfl | (simp only [nats]; done) | (simp only [nats]; rfl)
theorem second_any (h f3 : Nat) (W : World) (lf3 : f3 < 8) : Calls Try.prog 15 #[.int .u32 (h : Nat), .int .u32 (f3 : Nat)] W fun e W' => e = .returned (.int .u32 ((secondN h f3 : Nat) : Int)) ∧ W = W' := by
  have b0 : f3 = 0 ∨ f3 = 1 ∨ f3 = 2 ∨ f3 = 3 ∨ f3 = 4 ∨ f3 = 5 ∨ f3 = 6 ∨ f3 = 7 := by omega
  rcases b0 with rfl | rfl | rfl | rfl | rfl | rfl | rfl | rfl
  · rw [show secondN h 0 = (rformIN ((sixN h) % 4096) (cutN h 7 5) 0 (cutN h 7 5) 19) from by unfold secondN; rw [show Nat.beq 0 0 = true from rfl, cond_true]]
    exact second_0 h W 
  · by_cases h0 : (cutN h 7 5) = 0
    · rw [show secondN h 1 = 0 from by unfold secondN; rw [show Nat.beq 1 0 = false from rfl, cond_false, show Nat.beq 1 1 = true from rfl, cond_true, beqT h0, cond_true]]
      exact second_1_y h W h0
    · rw [show secondN h 1 = (rformIN ((sixN h) % 4096) (cutN h 7 5) 0 (cutN h 7 5) 27) from by unfold secondN; rw [show Nat.beq 1 0 = false from rfl, cond_false, show Nat.beq 1 1 = true from rfl, cond_true, beqF h0, cond_false]]
      exact second_1_n h W h0
  · rw [show secondN h 2 = (rformIN ((sixN h) % 4096) 0 0 (cutN h 7 5) 19) from by unfold secondN; rw [show Nat.beq 2 0 = false from rfl, cond_false, show Nat.beq 2 1 = false from rfl, cond_false, show Nat.beq 2 2 = true from rfl, cond_true]]
    exact second_2 h W 
  · by_cases h0 : (sixN h) = 0
    · rw [show secondN h 3 = 0 from by unfold secondN; rw [show Nat.beq 3 0 = false from rfl, cond_false, show Nat.beq 3 1 = false from rfl, cond_false, show Nat.beq 3 2 = false from rfl, cond_false, show Nat.beq 3 3 = true from rfl, cond_true, beqT h0, cond_true]]
      exact second_3_y h W h0
    · by_cases h1 : (cutN h 7 5) = 2
      · rw [show secondN h 3 = (rformIN ((spr10N (orN (orN (orN (orN (plN h 12 1 9) (plN h 6 1 4)) (plN h 5 1 6)) ((cutN h 3 2) * 128 % 4294967296)) (plN h 2 1 5))) % 4096) 2 0 2 19) from by unfold secondN; rw [show Nat.beq 3 0 = false from rfl, cond_false, show Nat.beq 3 1 = false from rfl, cond_false, show Nat.beq 3 2 = false from rfl, cond_false, show Nat.beq 3 3 = true from rfl, cond_true, beqF h0, cond_false, beqT h1, cond_true]]
        exact second_3_n_y h W h0 h1
      · rw [show secondN h 3 = (orN (orN ((sixN h) * 4096 % 4294967296) ((cutN h 7 5) * 128 % 4294967296)) 55) from by unfold secondN; rw [show Nat.beq 3 0 = false from rfl, cond_false, show Nat.beq 3 1 = false from rfl, cond_false, show Nat.beq 3 2 = false from rfl, cond_false, show Nat.beq 3 3 = true from rfl, cond_true, beqF h0, cond_false, beqF h1, cond_false]]
        exact second_3_n_n h W h0 h1
  · rw [show secondN h 4 = (sumsN h) from by unfold secondN; rw [show Nat.beq 4 0 = false from rfl, cond_false, show Nat.beq 4 1 = false from rfl, cond_false, show Nat.beq 4 2 = false from rfl, cond_false, show Nat.beq 4 3 = false from rfl, cond_false, show Nat.beq 4 4 = true from rfl, cond_true]]
    exact second_4 h W 
  · rw [show secondN h 5 = (rformJN (spr12N (orN (orN (orN (orN (orN (orN (orN (plN h 12 1 11) (plN h 11 1 4)) ((cutN h 9 2) * 256 % 4294967296)) (plN h 8 1 10)) (plN h 7 1 6)) (plN h 6 1 7)) ((cutN h 3 3) * 2 % 4294967296)) (plN h 2 1 5))) 0) from by unfold secondN; rw [show Nat.beq 5 0 = false from rfl, cond_false, show Nat.beq 5 1 = false from rfl, cond_false, show Nat.beq 5 2 = false from rfl, cond_false, show Nat.beq 5 3 = false from rfl, cond_false, show Nat.beq 5 4 = false from rfl, cond_false, show Nat.beq 5 5 = true from rfl, cond_true]]
    exact second_5 h W 
  · rw [show secondN h 6 = (rformBN (spr9N (orN (orN (orN (orN (plN h 12 1 8) ((cutN h 10 2) * 8 % 4294967296)) ((cutN h 5 2) * 64 % 4294967296)) ((cutN h 3 2) * 2 % 4294967296)) (plN h 2 1 5))) 0 ((8 + (cutN h 7 3)) % 4294967296) 0) from by unfold secondN; rw [show Nat.beq 6 0 = false from rfl, cond_false, show Nat.beq 6 1 = false from rfl, cond_false, show Nat.beq 6 2 = false from rfl, cond_false, show Nat.beq 6 3 = false from rfl, cond_false, show Nat.beq 6 4 = false from rfl, cond_false, show Nat.beq 6 5 = false from rfl, cond_false, show Nat.beq 6 6 = true from rfl, cond_true]]
    exact second_6 h W 
  · rw [show secondN h 7 = (rformBN (spr9N (orN (orN (orN (orN (plN h 12 1 8) ((cutN h 10 2) * 8 % 4294967296)) ((cutN h 5 2) * 64 % 4294967296)) ((cutN h 3 2) * 2 % 4294967296)) (plN h 2 1 5))) 0 ((8 + (cutN h 7 3)) % 4294967296) 1) from by unfold secondN; rw [show Nat.beq 7 0 = false from rfl, cond_false, show Nat.beq 7 1 = false from rfl, cond_false, show Nat.beq 7 2 = false from rfl, cond_false, show Nat.beq 7 3 = false from rfl, cond_false, show Nat.beq 7 4 = false from rfl, cond_false, show Nat.beq 7 5 = false from rfl, cond_false, show Nat.beq 7 6 = false from rfl, cond_false, show Nat.beq 7 7 = true from rfl, cond_true]]
    exact second_7 h W 
def movesN (h rd rs2 : Nat) : Nat := (bif Nat.beq (cutN h 12 1) 0 then (bif Nat.beq rs2 0 then (bif Nat.beq rd 0 then 0 else (rformIN 0 rd 0 0 103)) else (rformRN 0 rs2 0 0 rd 51)) else (bif Nat.beq (cutN h 12 1) 1 then (bif Nat.beq rs2 0 then (bif Nat.beq rd 0 then 1048691 else (rformIN 0 rd 0 1 103)) else (rformRN 0 rs2 rd 0 rd 51)) else 0))
set_option maxHeartbeats 1000000 in
theorem moves_0_y_y (h rd rs2 : Nat) (W : World) (h0 : (cutN h 12 1) = 0) (h1 : rs2 = 0) (h2 : rd = 0) : Calls Try.prog 42 #[.int .u32 (h : Nat), .int .u32 (rd : Nat), .int .u32 (rs2 : Nat)] W fun e W' => e = .returned (.int .u32 0) ∧ W = W' := by
  have c0 : ∀ W, Calls Try.prog 13 #[.int .u32 ((h : Nat) : Int), .int .u64 12, .int .u64 1] W fun e W' => e = .returned (.int .u32 0) ∧ W = W' := fun W => by
    have h := cut_gen h 12 1 W (by omega) (by omega)
    rw [h0] at h
    exact h
  have p1 : ((((rs2 : Nat) : Int) : Int) == 0) = true := by rw [beq_iff_eq]; rw [h1]; rfl
  have q1 : ((((rs2 : Nat) : Int) : Int) != 0) = false := by rw [bne, p1]; rfl
  have p2 : ((((rd : Nat) : Int) : Int) == 0) = true := by rw [beq_iff_eq]; rw [h2]; rfl
  have q2 : ((((rd : Nat) : Int) : Int) != 0) = false := by rw [bne, p2]; rfl
  go_enter Try.func42, Try.ntmps42
  go_wp2_with (first | (go_at_call 13; (with_reducible refine (c0 _).mono ?_); rintro e w' ⟨rfl, rfl⟩) | fail)
  go_ret
  exact ⟨rfl, rfl⟩
set_option maxHeartbeats 1000000 in
theorem moves_0_y_n (h rd rs2 : Nat) (W : World) (h0 : (cutN h 12 1) = 0) (h1 : rs2 = 0) (h2 : rd ≠ 0) : Calls Try.prog 42 #[.int .u32 (h : Nat), .int .u32 (rd : Nat), .int .u32 (rs2 : Nat)] W fun e W' => e = .returned (.int .u32 (((rformIN 0 rd 0 0 103) : Nat) : Int)) ∧ W = W' := by
  have c0 : ∀ W, Calls Try.prog 13 #[.int .u32 ((h : Nat) : Int), .int .u64 12, .int .u64 1] W fun e W' => e = .returned (.int .u32 0) ∧ W = W' := fun W => by
    have h := cut_gen h 12 1 W (by omega) (by omega)
    rw [h0] at h
    exact h
  have c1 : ∀ W, Calls Try.prog 34 #[.int .u32 0, .int .u32 ((rd : Nat) : Int), .int .u32 0, .int .u32 0, .int .u32 103] W fun e W' => e = .returned (.int .u32 (((rformIN 0 rd 0 0 103) : Nat) : Int)) ∧ W = W' := fun W => rformI_any 0 rd 0 0 103 W
  have p1 : ((((rs2 : Nat) : Int) : Int) == 0) = true := by rw [beq_iff_eq]; rw [h1]; rfl
  have q1 : ((((rs2 : Nat) : Int) : Int) != 0) = false := by rw [bne, p1]; rfl
  have p2 : ((((rd : Nat) : Int) : Int) == 0) = false := by rw [beq_eq_false_iff_ne]; omega
  have q2 : ((((rd : Nat) : Int) : Int) != 0) = true := by rw [bne, p2]; rfl
  go_enter Try.func42, Try.ntmps42
  go_wp2_with (first | (go_at_call 13; (with_reducible refine (c0 _).mono ?_); rintro e w' ⟨rfl, rfl⟩) | (go_at_call 34; (with_reducible refine (c1 _).mono ?_); rintro e w' ⟨rfl, rfl⟩) | fail)
  go_ret
  refine ⟨ret_int ?_, rfl⟩
  first | rfl | (simp only [nats]; done) | (simp only [nats]; rfl)
set_option maxHeartbeats 1000000 in
theorem moves_0_n (h rd rs2 : Nat) (W : World) (h0 : (cutN h 12 1) = 0) (h1 : rs2 ≠ 0) : Calls Try.prog 42 #[.int .u32 (h : Nat), .int .u32 (rd : Nat), .int .u32 (rs2 : Nat)] W fun e W' => e = .returned (.int .u32 (((rformRN 0 rs2 0 0 rd 51) : Nat) : Int)) ∧ W = W' := by
  have c0 : ∀ W, Calls Try.prog 13 #[.int .u32 ((h : Nat) : Int), .int .u64 12, .int .u64 1] W fun e W' => e = .returned (.int .u32 0) ∧ W = W' := fun W => by
    have h := cut_gen h 12 1 W (by omega) (by omega)
    rw [h0] at h
    exact h
  have c1 : ∀ W, Calls Try.prog 65 #[.int .u32 0, .int .u32 ((rs2 : Nat) : Int), .int .u32 0, .int .u32 0, .int .u32 ((rd : Nat) : Int), .int .u32 51] W fun e W' => e = .returned (.int .u32 (((rformRN 0 rs2 0 0 rd 51) : Nat) : Int)) ∧ W = W' := fun W => rformR_any 0 rs2 0 0 rd 51 W
  have p1 : ((((rs2 : Nat) : Int) : Int) == 0) = false := by rw [beq_eq_false_iff_ne]; omega
  have q1 : ((((rs2 : Nat) : Int) : Int) != 0) = true := by rw [bne, p1]; rfl
  go_enter Try.func42, Try.ntmps42
  go_wp2_with (first | (go_at_call 13; (with_reducible refine (c0 _).mono ?_); rintro e w' ⟨rfl, rfl⟩) | (go_at_call 65; (with_reducible refine (c1 _).mono ?_); rintro e w' ⟨rfl, rfl⟩) | fail)
  go_ret
  refine ⟨ret_int ?_, rfl⟩
  first | rfl | (simp only [nats]; done) | (simp only [nats]; rfl)
set_option maxHeartbeats 1000000 in
theorem moves_1_y_y (h rd rs2 : Nat) (W : World) (h0 : (cutN h 12 1) = 1) (h1 : rs2 = 0) (h2 : rd = 0) : Calls Try.prog 42 #[.int .u32 (h : Nat), .int .u32 (rd : Nat), .int .u32 (rs2 : Nat)] W fun e W' => e = .returned (.int .u32 ((1048691 : Nat) : Int)) ∧ W = W' := by
  have c0 : ∀ W, Calls Try.prog 13 #[.int .u32 ((h : Nat) : Int), .int .u64 12, .int .u64 1] W fun e W' => e = .returned (.int .u32 1) ∧ W = W' := fun W => by
    have h := cut_gen h 12 1 W (by omega) (by omega)
    rw [h0] at h
    exact h
  have p1 : ((((rs2 : Nat) : Int) : Int) == 0) = true := by rw [beq_iff_eq]; rw [h1]; rfl
  have q1 : ((((rs2 : Nat) : Int) : Int) != 0) = false := by rw [bne, p1]; rfl
  have p2 : ((((rd : Nat) : Int) : Int) == 0) = true := by rw [beq_iff_eq]; rw [h2]; rfl
  have q2 : ((((rd : Nat) : Int) : Int) != 0) = false := by rw [bne, p2]; rfl
  go_enter Try.func42, Try.ntmps42
  go_wp2_with (first | (go_at_call 13; (with_reducible refine (c0 _).mono ?_); rintro e w' ⟨rfl, rfl⟩) | fail)
  go_ret
  refine ⟨ret_int ?_, rfl⟩
  first | rfl | (simp only [nats]; done) | (simp only [nats]; rfl)
set_option maxHeartbeats 1000000 in
theorem moves_1_y_n (h rd rs2 : Nat) (W : World) (h0 : (cutN h 12 1) = 1) (h1 : rs2 = 0) (h2 : rd ≠ 0) : Calls Try.prog 42 #[.int .u32 (h : Nat), .int .u32 (rd : Nat), .int .u32 (rs2 : Nat)] W fun e W' => e = .returned (.int .u32 (((rformIN 0 rd 0 1 103) : Nat) : Int)) ∧ W = W' := by
  have c0 : ∀ W, Calls Try.prog 13 #[.int .u32 ((h : Nat) : Int), .int .u64 12, .int .u64 1] W fun e W' => e = .returned (.int .u32 1) ∧ W = W' := fun W => by
    have h := cut_gen h 12 1 W (by omega) (by omega)
    rw [h0] at h
    exact h
  have c1 : ∀ W, Calls Try.prog 34 #[.int .u32 0, .int .u32 ((rd : Nat) : Int), .int .u32 0, .int .u32 1, .int .u32 103] W fun e W' => e = .returned (.int .u32 (((rformIN 0 rd 0 1 103) : Nat) : Int)) ∧ W = W' := fun W => rformI_any 0 rd 0 1 103 W
  have p1 : ((((rs2 : Nat) : Int) : Int) == 0) = true := by rw [beq_iff_eq]; rw [h1]; rfl
  have q1 : ((((rs2 : Nat) : Int) : Int) != 0) = false := by rw [bne, p1]; rfl
  have p2 : ((((rd : Nat) : Int) : Int) == 0) = false := by rw [beq_eq_false_iff_ne]; omega
  have q2 : ((((rd : Nat) : Int) : Int) != 0) = true := by rw [bne, p2]; rfl
  go_enter Try.func42, Try.ntmps42
  go_wp2_with (first | (go_at_call 13; (with_reducible refine (c0 _).mono ?_); rintro e w' ⟨rfl, rfl⟩) | (go_at_call 34; (with_reducible refine (c1 _).mono ?_); rintro e w' ⟨rfl, rfl⟩) | fail)
  go_ret
  refine ⟨ret_int ?_, rfl⟩
  first | rfl | (simp only [nats]; done) | (simp only [nats]; rfl)
set_option maxHeartbeats 1000000 in
theorem moves_1_n (h rd rs2 : Nat) (W : World) (h0 : (cutN h 12 1) = 1) (h1 : rs2 ≠ 0) : Calls Try.prog 42 #[.int .u32 (h : Nat), .int .u32 (rd : Nat), .int .u32 (rs2 : Nat)] W fun e W' => e = .returned (.int .u32 (((rformRN 0 rs2 rd 0 rd 51) : Nat) : Int)) ∧ W = W' := by
  have c0 : ∀ W, Calls Try.prog 13 #[.int .u32 ((h : Nat) : Int), .int .u64 12, .int .u64 1] W fun e W' => e = .returned (.int .u32 1) ∧ W = W' := fun W => by
    have h := cut_gen h 12 1 W (by omega) (by omega)
    rw [h0] at h
    exact h
  have c1 : ∀ W, Calls Try.prog 65 #[.int .u32 0, .int .u32 ((rs2 : Nat) : Int), .int .u32 ((rd : Nat) : Int), .int .u32 0, .int .u32 ((rd : Nat) : Int), .int .u32 51] W fun e W' => e = .returned (.int .u32 (((rformRN 0 rs2 rd 0 rd 51) : Nat) : Int)) ∧ W = W' := fun W => rformR_any 0 rs2 rd 0 rd 51 W
  have p1 : ((((rs2 : Nat) : Int) : Int) == 0) = false := by rw [beq_eq_false_iff_ne]; omega
  have q1 : ((((rs2 : Nat) : Int) : Int) != 0) = true := by rw [bne, p1]; rfl
  go_enter Try.func42, Try.ntmps42
  go_wp2_with (first | (go_at_call 13; (with_reducible refine (c0 _).mono ?_); rintro e w' ⟨rfl, rfl⟩) | (go_at_call 65; (with_reducible refine (c1 _).mono ?_); rintro e w' ⟨rfl, rfl⟩) | fail)
  go_ret
  refine ⟨ret_int ?_, rfl⟩
  first | rfl | (simp only [nats]; done) | (simp only [nats]; rfl)
theorem moves_any (h rd rs2 : Nat) (W : World) : Calls Try.prog 42 #[.int .u32 (h : Nat), .int .u32 (rd : Nat), .int .u32 (rs2 : Nat)] W fun e W' => e = .returned (.int .u32 ((movesN h rd rs2 : Nat) : Int)) ∧ W = W' := by
  have l0 := cutN_lt h 12 1
  have b0 : (cutN h 12 1) = 0 ∨ (cutN h 12 1) = 1 := by omega
  rcases b0 with h0 | h0
  · by_cases h1 : rs2 = 0
    · by_cases h2 : rd = 0
      · rw [show movesN h rd rs2 = 0 from by unfold movesN; rw [beqT h0, cond_true, beqT h1, cond_true, beqT h2, cond_true]]
        exact moves_0_y_y h rd rs2 W h0 h1 h2
      · rw [show movesN h rd rs2 = (rformIN 0 rd 0 0 103) from by unfold movesN; rw [beqT h0, cond_true, beqT h1, cond_true, beqF h2, cond_false]]
        exact moves_0_y_n h rd rs2 W h0 h1 h2
    · rw [show movesN h rd rs2 = (rformRN 0 rs2 0 0 rd 51) from by unfold movesN; rw [beqT h0, cond_true, beqF h1, cond_false]]
      exact moves_0_n h rd rs2 W h0 h1
  · by_cases h1 : rs2 = 0
    · by_cases h2 : rd = 0
      · rw [show movesN h rd rs2 = 1048691 from by unfold movesN; rw [beqF (show (cutN h 12 1) ≠ 0 by omega), cond_false, beqT h0, cond_true, beqT h1, cond_true, beqT h2, cond_true]]
        exact moves_1_y_y h rd rs2 W h0 h1 h2
      · rw [show movesN h rd rs2 = (rformIN 0 rd 0 1 103) from by unfold movesN; rw [beqF (show (cutN h 12 1) ≠ 0 by omega), cond_false, beqT h0, cond_true, beqT h1, cond_true, beqF h2, cond_false]]
        exact moves_1_y_n h rd rs2 W h0 h1 h2
    · rw [show movesN h rd rs2 = (rformRN 0 rs2 rd 0 rd 51) from by unfold movesN; rw [beqF (show (cutN h 12 1) ≠ 0 by omega), cond_false, beqT h0, cond_true, beqF h1, cond_false]]
      exact moves_1_n h rd rs2 W h0 h1
def thirdN (h f3 : Nat) : Nat := (bif Nat.beq f3 0 then (rformIN (shiftN h) (cutN h 7 5) 1 (cutN h 7 5) 19) else (bif Nat.beq f3 2 then (bif Nat.beq (cutN h 7 5) 0 then 0 else (rformIN (orN (orN (plN h 12 1 5) ((cutN h 4 3) * 4 % 4294967296)) ((cutN h 2 2) * 64 % 4294967296)) 2 2 (cutN h 7 5) 3)) else (bif Nat.beq f3 3 then (bif Nat.beq (cutN h 7 5) 0 then 0 else (rformIN (orN (orN (plN h 12 1 5) ((cutN h 5 2) * 8 % 4294967296)) ((cutN h 2 3) * 64 % 4294967296)) 2 3 (cutN h 7 5) 3)) else (bif Nat.beq f3 4 then (movesN h (cutN h 7 5) (cutN h 2 5)) else (bif Nat.beq f3 6 then (rformSN (orN ((cutN h 9 4) * 4 % 4294967296) ((cutN h 7 2) * 64 % 4294967296)) (cutN h 2 5) 2 2 35) else (bif Nat.beq f3 7 then (rformSN (orN ((cutN h 10 3) * 8 % 4294967296) ((cutN h 7 3) * 64 % 4294967296)) (cutN h 2 5) 2 3 35) else 0))))))
set_option maxHeartbeats 1000000 in
theorem third_0 (h : Nat) (W : World) : Calls Try.prog 16 #[.int .u32 (h : Nat), .int .u32 0] W fun e W' => e = .returned (.int .u32 (((rformIN (shiftN h) (cutN h 7 5) 1 (cutN h 7 5) 19) : Nat) : Int)) ∧ W = W' := by
  have c0 : ∀ W, Calls Try.prog 13 #[.int .u32 ((h : Nat) : Int), .int .u64 7, .int .u64 5] W fun e W' => e = .returned (.int .u32 (((cutN h 7 5) : Nat) : Int)) ∧ W = W' := fun W => cut_gen h 7 5 W (by omega) (by omega)
  have c1 : ∀ W, Calls Try.prog 13 #[.int .u32 ((h : Nat) : Int), .int .u64 2, .int .u64 5] W fun e W' => e = .returned (.int .u32 (((cutN h 2 5) : Nat) : Int)) ∧ W = W' := fun W => cut_gen h 2 5 W (by omega) (by omega)
  have c2 : ∀ W, Calls Try.prog 41 #[.int .u32 ((h : Nat) : Int)] W fun e W' => e = .returned (.int .u32 (((shiftN h) : Nat) : Int)) ∧ W = W' := fun W => shift_any h W
  have c3 : ∀ W, Calls Try.prog 34 #[.int .u32 (((shiftN h) : Nat) : Int), .int .u32 (((cutN h 7 5) : Nat) : Int), .int .u32 1, .int .u32 (((cutN h 7 5) : Nat) : Int), .int .u32 19] W fun e W' => e = .returned (.int .u32 (((rformIN (shiftN h) (cutN h 7 5) 1 (cutN h 7 5) 19) : Nat) : Int)) ∧ W = W' := fun W => rformI_any (shiftN h) (cutN h 7 5) 1 (cutN h 7 5) 19 W
  go_enter Try.func16, Try.ntmps16
  go_wp2_with (first | (go_at_call 13; (with_reducible refine (c0 _).mono ?_); rintro e w' ⟨rfl, rfl⟩) | (go_at_call 13; (with_reducible refine (c1 _).mono ?_); rintro e w' ⟨rfl, rfl⟩) | (go_at_call 41; (with_reducible refine (c2 _).mono ?_); rintro e w' ⟨rfl, rfl⟩) | (go_at_call 34; (with_reducible refine (c3 _).mono ?_); rintro e w' ⟨rfl, rfl⟩) | fail)
  go_ret
  refine ⟨ret_int ?_, rfl⟩
  first | rfl | (simp only [nats]; done) | (simp only [nats]; rfl)
set_option maxHeartbeats 1000000 in
theorem third_1 (h : Nat) (W : World) : Calls Try.prog 16 #[.int .u32 (h : Nat), .int .u32 1] W fun e W' => e = .returned (.int .u32 0) ∧ W = W' := by
  have c0 : ∀ W, Calls Try.prog 13 #[.int .u32 ((h : Nat) : Int), .int .u64 7, .int .u64 5] W fun e W' => e = .returned (.int .u32 (((cutN h 7 5) : Nat) : Int)) ∧ W = W' := fun W => cut_gen h 7 5 W (by omega) (by omega)
  have c1 : ∀ W, Calls Try.prog 13 #[.int .u32 ((h : Nat) : Int), .int .u64 2, .int .u64 5] W fun e W' => e = .returned (.int .u32 (((cutN h 2 5) : Nat) : Int)) ∧ W = W' := fun W => cut_gen h 2 5 W (by omega) (by omega)
  go_enter Try.func16, Try.ntmps16
  go_wp2_with (first | (go_at_call 13; (with_reducible refine (c0 _).mono ?_); rintro e w' ⟨rfl, rfl⟩) | (go_at_call 13; (with_reducible refine (c1 _).mono ?_); rintro e w' ⟨rfl, rfl⟩) | fail)
  go_ret
  exact ⟨rfl, rfl⟩
set_option maxHeartbeats 1000000 in
theorem third_2_y (h : Nat) (W : World) (h0 : (cutN h 7 5) = 0) : Calls Try.prog 16 #[.int .u32 (h : Nat), .int .u32 2] W fun e W' => e = .returned (.int .u32 0) ∧ W = W' := by
  have c0 : ∀ W, Calls Try.prog 13 #[.int .u32 ((h : Nat) : Int), .int .u64 7, .int .u64 5] W fun e W' => e = .returned (.int .u32 (((cutN h 7 5) : Nat) : Int)) ∧ W = W' := fun W => cut_gen h 7 5 W (by omega) (by omega)
  have c1 : ∀ W, Calls Try.prog 13 #[.int .u32 ((h : Nat) : Int), .int .u64 2, .int .u64 5] W fun e W' => e = .returned (.int .u32 (((cutN h 2 5) : Nat) : Int)) ∧ W = W' := fun W => cut_gen h 2 5 W (by omega) (by omega)
  have p0 : (((((cutN h 7 5) : Nat) : Int) : Int) == 0) = true := by rw [beq_iff_eq]; rw [h0]; rfl
  have q0 : (((((cutN h 7 5) : Nat) : Int) : Int) != 0) = false := by rw [bne, p0]; rfl
  go_enter Try.func16, Try.ntmps16
  go_wp2_with (first | (go_at_call 13; (with_reducible refine (c0 _).mono ?_); rintro e w' ⟨rfl, rfl⟩) | (go_at_call 13; (with_reducible refine (c1 _).mono ?_); rintro e w' ⟨rfl, rfl⟩) | fail)
  go_ret
  exact ⟨rfl, rfl⟩
set_option maxHeartbeats 1000000 in
theorem third_2_n (h : Nat) (W : World) (h0 : (cutN h 7 5) ≠ 0) : Calls Try.prog 16 #[.int .u32 (h : Nat), .int .u32 2] W fun e W' => e = .returned (.int .u32 (((rformIN (orN (orN (plN h 12 1 5) ((cutN h 4 3) * 4 % 4294967296)) ((cutN h 2 2) * 64 % 4294967296)) 2 2 (cutN h 7 5) 3) : Nat) : Int)) ∧ W = W' := by
  have c0 : ∀ W, Calls Try.prog 13 #[.int .u32 ((h : Nat) : Int), .int .u64 7, .int .u64 5] W fun e W' => e = .returned (.int .u32 (((cutN h 7 5) : Nat) : Int)) ∧ W = W' := fun W => cut_gen h 7 5 W (by omega) (by omega)
  have c1 : ∀ W, Calls Try.prog 13 #[.int .u32 ((h : Nat) : Int), .int .u64 2, .int .u64 5] W fun e W' => e = .returned (.int .u32 (((cutN h 2 5) : Nat) : Int)) ∧ W = W' := fun W => cut_gen h 2 5 W (by omega) (by omega)
  have c2 : ∀ W, Calls Try.prog 33 #[.int .u32 ((h : Nat) : Int), .int .u64 12, .int .u64 5] W fun e W' => e = .returned (.int .u32 (((plN h 12 1 5) : Nat) : Int)) ∧ W = W' := fun W => at_gen h 12 5 W (by omega) (by omega)
  have c3 : ∀ W, Calls Try.prog 13 #[.int .u32 ((h : Nat) : Int), .int .u64 4, .int .u64 3] W fun e W' => e = .returned (.int .u32 (((cutN h 4 3) : Nat) : Int)) ∧ W = W' := fun W => cut_gen h 4 3 W (by omega) (by omega)
  have c4 : ∀ W, Calls Try.prog 13 #[.int .u32 ((h : Nat) : Int), .int .u64 2, .int .u64 2] W fun e W' => e = .returned (.int .u32 (((cutN h 2 2) : Nat) : Int)) ∧ W = W' := fun W => cut_gen h 2 2 W (by omega) (by omega)
  have c5 : ∀ W, Calls Try.prog 34 #[.int .u32 (bits .or .u32 (bits .or .u32 (((plN h 12 1 5) : Nat) : Int) ((((cutN h 4 3) : Nat) : Int) * 4 % 4294967296)) ((((cutN h 2 2) : Nat) : Int) * 64 % 4294967296)), .int .u32 2, .int .u32 2, .int .u32 (((cutN h 7 5) : Nat) : Int), .int .u32 3] W fun e W' => e = .returned (.int .u32 (((rformIN (orN (orN (plN h 12 1 5) ((cutN h 4 3) * 4 % 4294967296)) ((cutN h 2 2) * 64 % 4294967296)) 2 2 (cutN h 7 5) 3) : Nat) : Int)) ∧ W = W' := fun W => by
    have h := rformI_any (orN (orN (plN h 12 1 5) ((cutN h 4 3) * 4 % 4294967296)) ((cutN h 2 2) * 64 % 4294967296)) 2 2 (cutN h 7 5) 3 W
    first | (simp only [nats]; exact h) | exact h
  have p0 : (((((cutN h 7 5) : Nat) : Int) : Int) == 0) = false := by rw [beq_eq_false_iff_ne]; omega
  have q0 : (((((cutN h 7 5) : Nat) : Int) : Int) != 0) = true := by rw [bne, p0]; rfl
  go_enter Try.func16, Try.ntmps16
  go_wp2_with (first | (go_at_call 13; (with_reducible refine (c0 _).mono ?_); rintro e w' ⟨rfl, rfl⟩) | (go_at_call 13; (with_reducible refine (c1 _).mono ?_); rintro e w' ⟨rfl, rfl⟩) | (go_at_call 33; (with_reducible refine (c2 _).mono ?_); rintro e w' ⟨rfl, rfl⟩) | (go_at_call 13; (with_reducible refine (c3 _).mono ?_); rintro e w' ⟨rfl, rfl⟩) | (go_at_call 13; (with_reducible refine (c4 _).mono ?_); rintro e w' ⟨rfl, rfl⟩) | (go_at_call 34; (with_reducible refine (c5 _).mono ?_); rintro e w' ⟨rfl, rfl⟩) | fail)
  go_ret
  refine ⟨ret_int ?_, rfl⟩
  first | rfl | (simp only [nats]; done) | (simp only [nats]; rfl)
set_option maxHeartbeats 1000000 in
theorem third_3_y (h : Nat) (W : World) (h0 : (cutN h 7 5) = 0) : Calls Try.prog 16 #[.int .u32 (h : Nat), .int .u32 3] W fun e W' => e = .returned (.int .u32 0) ∧ W = W' := by
  have c0 : ∀ W, Calls Try.prog 13 #[.int .u32 ((h : Nat) : Int), .int .u64 7, .int .u64 5] W fun e W' => e = .returned (.int .u32 (((cutN h 7 5) : Nat) : Int)) ∧ W = W' := fun W => cut_gen h 7 5 W (by omega) (by omega)
  have c1 : ∀ W, Calls Try.prog 13 #[.int .u32 ((h : Nat) : Int), .int .u64 2, .int .u64 5] W fun e W' => e = .returned (.int .u32 (((cutN h 2 5) : Nat) : Int)) ∧ W = W' := fun W => cut_gen h 2 5 W (by omega) (by omega)
  have p0 : (((((cutN h 7 5) : Nat) : Int) : Int) == 0) = true := by rw [beq_iff_eq]; rw [h0]; rfl
  have q0 : (((((cutN h 7 5) : Nat) : Int) : Int) != 0) = false := by rw [bne, p0]; rfl
  go_enter Try.func16, Try.ntmps16
  go_wp2_with (first | (go_at_call 13; (with_reducible refine (c0 _).mono ?_); rintro e w' ⟨rfl, rfl⟩) | (go_at_call 13; (with_reducible refine (c1 _).mono ?_); rintro e w' ⟨rfl, rfl⟩) | fail)
  go_ret
  exact ⟨rfl, rfl⟩
set_option maxHeartbeats 1000000 in
theorem third_3_n (h : Nat) (W : World) (h0 : (cutN h 7 5) ≠ 0) : Calls Try.prog 16 #[.int .u32 (h : Nat), .int .u32 3] W fun e W' => e = .returned (.int .u32 (((rformIN (orN (orN (plN h 12 1 5) ((cutN h 5 2) * 8 % 4294967296)) ((cutN h 2 3) * 64 % 4294967296)) 2 3 (cutN h 7 5) 3) : Nat) : Int)) ∧ W = W' := by
  have c0 : ∀ W, Calls Try.prog 13 #[.int .u32 ((h : Nat) : Int), .int .u64 7, .int .u64 5] W fun e W' => e = .returned (.int .u32 (((cutN h 7 5) : Nat) : Int)) ∧ W = W' := fun W => cut_gen h 7 5 W (by omega) (by omega)
  have c1 : ∀ W, Calls Try.prog 13 #[.int .u32 ((h : Nat) : Int), .int .u64 2, .int .u64 5] W fun e W' => e = .returned (.int .u32 (((cutN h 2 5) : Nat) : Int)) ∧ W = W' := fun W => cut_gen h 2 5 W (by omega) (by omega)
  have c2 : ∀ W, Calls Try.prog 33 #[.int .u32 ((h : Nat) : Int), .int .u64 12, .int .u64 5] W fun e W' => e = .returned (.int .u32 (((plN h 12 1 5) : Nat) : Int)) ∧ W = W' := fun W => at_gen h 12 5 W (by omega) (by omega)
  have c3 : ∀ W, Calls Try.prog 13 #[.int .u32 ((h : Nat) : Int), .int .u64 5, .int .u64 2] W fun e W' => e = .returned (.int .u32 (((cutN h 5 2) : Nat) : Int)) ∧ W = W' := fun W => cut_gen h 5 2 W (by omega) (by omega)
  have c4 : ∀ W, Calls Try.prog 13 #[.int .u32 ((h : Nat) : Int), .int .u64 2, .int .u64 3] W fun e W' => e = .returned (.int .u32 (((cutN h 2 3) : Nat) : Int)) ∧ W = W' := fun W => cut_gen h 2 3 W (by omega) (by omega)
  have c5 : ∀ W, Calls Try.prog 34 #[.int .u32 (bits .or .u32 (bits .or .u32 (((plN h 12 1 5) : Nat) : Int) ((((cutN h 5 2) : Nat) : Int) * 8 % 4294967296)) ((((cutN h 2 3) : Nat) : Int) * 64 % 4294967296)), .int .u32 2, .int .u32 3, .int .u32 (((cutN h 7 5) : Nat) : Int), .int .u32 3] W fun e W' => e = .returned (.int .u32 (((rformIN (orN (orN (plN h 12 1 5) ((cutN h 5 2) * 8 % 4294967296)) ((cutN h 2 3) * 64 % 4294967296)) 2 3 (cutN h 7 5) 3) : Nat) : Int)) ∧ W = W' := fun W => by
    have h := rformI_any (orN (orN (plN h 12 1 5) ((cutN h 5 2) * 8 % 4294967296)) ((cutN h 2 3) * 64 % 4294967296)) 2 3 (cutN h 7 5) 3 W
    first | (simp only [nats]; exact h) | exact h
  have p0 : (((((cutN h 7 5) : Nat) : Int) : Int) == 0) = false := by rw [beq_eq_false_iff_ne]; omega
  have q0 : (((((cutN h 7 5) : Nat) : Int) : Int) != 0) = true := by rw [bne, p0]; rfl
  go_enter Try.func16, Try.ntmps16
  go_wp2_with (first | (go_at_call 13; (with_reducible refine (c0 _).mono ?_); rintro e w' ⟨rfl, rfl⟩) | (go_at_call 13; (with_reducible refine (c1 _).mono ?_); rintro e w' ⟨rfl, rfl⟩) | (go_at_call 33; (with_reducible refine (c2 _).mono ?_); rintro e w' ⟨rfl, rfl⟩) | (go_at_call 13; (with_reducible refine (c3 _).mono ?_); rintro e w' ⟨rfl, rfl⟩) | (go_at_call 13; (with_reducible refine (c4 _).mono ?_); rintro e w' ⟨rfl, rfl⟩) | (go_at_call 34; (with_reducible refine (c5 _).mono ?_); rintro e w' ⟨rfl, rfl⟩) | fail)
  go_ret
  refine ⟨ret_int ?_, rfl⟩
  first | rfl | (simp only [nats]; done) | (simp only [nats]; rfl)
set_option maxHeartbeats 1000000 in
theorem third_4 (h : Nat) (W : World) : Calls Try.prog 16 #[.int .u32 (h : Nat), .int .u32 4] W fun e W' => e = .returned (.int .u32 (((movesN h (cutN h 7 5) (cutN h 2 5)) : Nat) : Int)) ∧ W = W' := by
  have c0 : ∀ W, Calls Try.prog 13 #[.int .u32 ((h : Nat) : Int), .int .u64 7, .int .u64 5] W fun e W' => e = .returned (.int .u32 (((cutN h 7 5) : Nat) : Int)) ∧ W = W' := fun W => cut_gen h 7 5 W (by omega) (by omega)
  have c1 : ∀ W, Calls Try.prog 13 #[.int .u32 ((h : Nat) : Int), .int .u64 2, .int .u64 5] W fun e W' => e = .returned (.int .u32 (((cutN h 2 5) : Nat) : Int)) ∧ W = W' := fun W => cut_gen h 2 5 W (by omega) (by omega)
  have c2 : ∀ W, Calls Try.prog 42 #[.int .u32 ((h : Nat) : Int), .int .u32 (((cutN h 7 5) : Nat) : Int), .int .u32 (((cutN h 2 5) : Nat) : Int)] W fun e W' => e = .returned (.int .u32 (((movesN h (cutN h 7 5) (cutN h 2 5)) : Nat) : Int)) ∧ W = W' := fun W => moves_any h (cutN h 7 5) (cutN h 2 5) W
  go_enter Try.func16, Try.ntmps16
  go_wp2_with (first | (go_at_call 13; (with_reducible refine (c0 _).mono ?_); rintro e w' ⟨rfl, rfl⟩) | (go_at_call 13; (with_reducible refine (c1 _).mono ?_); rintro e w' ⟨rfl, rfl⟩) | (go_at_call 42; (with_reducible refine (c2 _).mono ?_); rintro e w' ⟨rfl, rfl⟩) | fail)
  go_ret
  refine ⟨ret_int ?_, rfl⟩
  first | rfl | (simp only [nats]; done) | (simp only [nats]; rfl)
set_option maxHeartbeats 1000000 in
theorem third_5 (h : Nat) (W : World) : Calls Try.prog 16 #[.int .u32 (h : Nat), .int .u32 5] W fun e W' => e = .returned (.int .u32 0) ∧ W = W' := by
  have c0 : ∀ W, Calls Try.prog 13 #[.int .u32 ((h : Nat) : Int), .int .u64 7, .int .u64 5] W fun e W' => e = .returned (.int .u32 (((cutN h 7 5) : Nat) : Int)) ∧ W = W' := fun W => cut_gen h 7 5 W (by omega) (by omega)
  have c1 : ∀ W, Calls Try.prog 13 #[.int .u32 ((h : Nat) : Int), .int .u64 2, .int .u64 5] W fun e W' => e = .returned (.int .u32 (((cutN h 2 5) : Nat) : Int)) ∧ W = W' := fun W => cut_gen h 2 5 W (by omega) (by omega)
  go_enter Try.func16, Try.ntmps16
  go_wp2_with (first | (go_at_call 13; (with_reducible refine (c0 _).mono ?_); rintro e w' ⟨rfl, rfl⟩) | (go_at_call 13; (with_reducible refine (c1 _).mono ?_); rintro e w' ⟨rfl, rfl⟩) | fail)
  go_ret
  exact ⟨rfl, rfl⟩
set_option maxHeartbeats 1000000 in
theorem third_6 (h : Nat) (W : World) : Calls Try.prog 16 #[.int .u32 (h : Nat), .int .u32 6] W fun e W' => e = .returned (.int .u32 (((rformSN (orN ((cutN h 9 4) * 4 % 4294967296) ((cutN h 7 2) * 64 % 4294967296)) (cutN h 2 5) 2 2 35) : Nat) : Int)) ∧ W = W' := by
  have c0 : ∀ W, Calls Try.prog 13 #[.int .u32 ((h : Nat) : Int), .int .u64 7, .int .u64 5] W fun e W' => e = .returned (.int .u32 (((cutN h 7 5) : Nat) : Int)) ∧ W = W' := fun W => cut_gen h 7 5 W (by omega) (by omega)
  have c1 : ∀ W, Calls Try.prog 13 #[.int .u32 ((h : Nat) : Int), .int .u64 2, .int .u64 5] W fun e W' => e = .returned (.int .u32 (((cutN h 2 5) : Nat) : Int)) ∧ W = W' := fun W => cut_gen h 2 5 W (by omega) (by omega)
  have c2 : ∀ W, Calls Try.prog 13 #[.int .u32 ((h : Nat) : Int), .int .u64 9, .int .u64 4] W fun e W' => e = .returned (.int .u32 (((cutN h 9 4) : Nat) : Int)) ∧ W = W' := fun W => cut_gen h 9 4 W (by omega) (by omega)
  have c3 : ∀ W, Calls Try.prog 13 #[.int .u32 ((h : Nat) : Int), .int .u64 7, .int .u64 2] W fun e W' => e = .returned (.int .u32 (((cutN h 7 2) : Nat) : Int)) ∧ W = W' := fun W => cut_gen h 7 2 W (by omega) (by omega)
  have c4 : ∀ W, Calls Try.prog 35 #[.int .u32 (bits .or .u32 ((((cutN h 9 4) : Nat) : Int) * 4 % 4294967296) ((((cutN h 7 2) : Nat) : Int) * 64 % 4294967296)), .int .u32 (((cutN h 2 5) : Nat) : Int), .int .u32 2, .int .u32 2, .int .u32 35] W fun e W' => e = .returned (.int .u32 (((rformSN (orN ((cutN h 9 4) * 4 % 4294967296) ((cutN h 7 2) * 64 % 4294967296)) (cutN h 2 5) 2 2 35) : Nat) : Int)) ∧ W = W' := fun W => by
    have h := rformS_any (orN ((cutN h 9 4) * 4 % 4294967296) ((cutN h 7 2) * 64 % 4294967296)) (cutN h 2 5) 2 2 35 W
    first | (simp only [nats]; exact h) | exact h
  go_enter Try.func16, Try.ntmps16
  go_wp2_with (first | (go_at_call 13; (with_reducible refine (c0 _).mono ?_); rintro e w' ⟨rfl, rfl⟩) | (go_at_call 13; (with_reducible refine (c1 _).mono ?_); rintro e w' ⟨rfl, rfl⟩) | (go_at_call 13; (with_reducible refine (c2 _).mono ?_); rintro e w' ⟨rfl, rfl⟩) | (go_at_call 13; (with_reducible refine (c3 _).mono ?_); rintro e w' ⟨rfl, rfl⟩) | (go_at_call 35; (with_reducible refine (c4 _).mono ?_); rintro e w' ⟨rfl, rfl⟩) | fail)
  go_ret
  refine ⟨ret_int ?_, rfl⟩
  first | rfl | (simp only [nats]; done) | (simp only [nats]; rfl)
set_option maxHeartbeats 1000000 in
theorem third_7 (h : Nat) (W : World) : Calls Try.prog 16 #[.int .u32 (h : Nat), .int .u32 7] W fun e W' => e = .returned (.int .u32 (((rformSN (orN ((cutN h 10 3) * 8 % 4294967296) ((cutN h 7 3) * 64 % 4294967296)) (cutN h 2 5) 2 3 35) : Nat) : Int)) ∧ W = W' := by
  have c0 : ∀ W, Calls Try.prog 13 #[.int .u32 ((h : Nat) : Int), .int .u64 7, .int .u64 5] W fun e W' => e = .returned (.int .u32 (((cutN h 7 5) : Nat) : Int)) ∧ W = W' := fun W => cut_gen h 7 5 W (by omega) (by omega)
  have c1 : ∀ W, Calls Try.prog 13 #[.int .u32 ((h : Nat) : Int), .int .u64 2, .int .u64 5] W fun e W' => e = .returned (.int .u32 (((cutN h 2 5) : Nat) : Int)) ∧ W = W' := fun W => cut_gen h 2 5 W (by omega) (by omega)
  have c2 : ∀ W, Calls Try.prog 13 #[.int .u32 ((h : Nat) : Int), .int .u64 10, .int .u64 3] W fun e W' => e = .returned (.int .u32 (((cutN h 10 3) : Nat) : Int)) ∧ W = W' := fun W => cut_gen h 10 3 W (by omega) (by omega)
  have c3 : ∀ W, Calls Try.prog 13 #[.int .u32 ((h : Nat) : Int), .int .u64 7, .int .u64 3] W fun e W' => e = .returned (.int .u32 (((cutN h 7 3) : Nat) : Int)) ∧ W = W' := fun W => cut_gen h 7 3 W (by omega) (by omega)
  have c4 : ∀ W, Calls Try.prog 35 #[.int .u32 (bits .or .u32 ((((cutN h 10 3) : Nat) : Int) * 8 % 4294967296) ((((cutN h 7 3) : Nat) : Int) * 64 % 4294967296)), .int .u32 (((cutN h 2 5) : Nat) : Int), .int .u32 2, .int .u32 3, .int .u32 35] W fun e W' => e = .returned (.int .u32 (((rformSN (orN ((cutN h 10 3) * 8 % 4294967296) ((cutN h 7 3) * 64 % 4294967296)) (cutN h 2 5) 2 3 35) : Nat) : Int)) ∧ W = W' := fun W => by
    have h := rformS_any (orN ((cutN h 10 3) * 8 % 4294967296) ((cutN h 7 3) * 64 % 4294967296)) (cutN h 2 5) 2 3 35 W
    first | (simp only [nats]; exact h) | exact h
  go_enter Try.func16, Try.ntmps16
  go_wp2_with (first | (go_at_call 13; (with_reducible refine (c0 _).mono ?_); rintro e w' ⟨rfl, rfl⟩) | (go_at_call 13; (with_reducible refine (c1 _).mono ?_); rintro e w' ⟨rfl, rfl⟩) | (go_at_call 13; (with_reducible refine (c2 _).mono ?_); rintro e w' ⟨rfl, rfl⟩) | (go_at_call 13; (with_reducible refine (c3 _).mono ?_); rintro e w' ⟨rfl, rfl⟩) | (go_at_call 35; (with_reducible refine (c4 _).mono ?_); rintro e w' ⟨rfl, rfl⟩) | fail)
  go_ret
  refine ⟨ret_int ?_, rfl⟩
  first | rfl | (simp only [nats]; done) | (simp only [nats]; rfl)
theorem third_any (h f3 : Nat) (W : World) (lf3 : f3 < 8) : Calls Try.prog 16 #[.int .u32 (h : Nat), .int .u32 (f3 : Nat)] W fun e W' => e = .returned (.int .u32 ((thirdN h f3 : Nat) : Int)) ∧ W = W' := by
  have b0 : f3 = 0 ∨ f3 = 1 ∨ f3 = 2 ∨ f3 = 3 ∨ f3 = 4 ∨ f3 = 5 ∨ f3 = 6 ∨ f3 = 7 := by omega
  rcases b0 with rfl | rfl | rfl | rfl | rfl | rfl | rfl | rfl
  · rw [show thirdN h 0 = (rformIN (shiftN h) (cutN h 7 5) 1 (cutN h 7 5) 19) from by unfold thirdN; rw [show Nat.beq 0 0 = true from rfl, cond_true]]
    exact third_0 h W 
  · rw [show thirdN h 1 = 0 from by unfold thirdN; rw [show Nat.beq 1 0 = false from rfl, cond_false, show Nat.beq 1 2 = false from rfl, cond_false, show Nat.beq 1 3 = false from rfl, cond_false, show Nat.beq 1 4 = false from rfl, cond_false, show Nat.beq 1 6 = false from rfl, cond_false, show Nat.beq 1 7 = false from rfl, cond_false]]
    exact third_1 h W 
  · by_cases h0 : (cutN h 7 5) = 0
    · rw [show thirdN h 2 = 0 from by unfold thirdN; rw [show Nat.beq 2 0 = false from rfl, cond_false, show Nat.beq 2 2 = true from rfl, cond_true, beqT h0, cond_true]]
      exact third_2_y h W h0
    · rw [show thirdN h 2 = (rformIN (orN (orN (plN h 12 1 5) ((cutN h 4 3) * 4 % 4294967296)) ((cutN h 2 2) * 64 % 4294967296)) 2 2 (cutN h 7 5) 3) from by unfold thirdN; rw [show Nat.beq 2 0 = false from rfl, cond_false, show Nat.beq 2 2 = true from rfl, cond_true, beqF h0, cond_false]]
      exact third_2_n h W h0
  · by_cases h0 : (cutN h 7 5) = 0
    · rw [show thirdN h 3 = 0 from by unfold thirdN; rw [show Nat.beq 3 0 = false from rfl, cond_false, show Nat.beq 3 2 = false from rfl, cond_false, show Nat.beq 3 3 = true from rfl, cond_true, beqT h0, cond_true]]
      exact third_3_y h W h0
    · rw [show thirdN h 3 = (rformIN (orN (orN (plN h 12 1 5) ((cutN h 5 2) * 8 % 4294967296)) ((cutN h 2 3) * 64 % 4294967296)) 2 3 (cutN h 7 5) 3) from by unfold thirdN; rw [show Nat.beq 3 0 = false from rfl, cond_false, show Nat.beq 3 2 = false from rfl, cond_false, show Nat.beq 3 3 = true from rfl, cond_true, beqF h0, cond_false]]
      exact third_3_n h W h0
  · rw [show thirdN h 4 = (movesN h (cutN h 7 5) (cutN h 2 5)) from by unfold thirdN; rw [show Nat.beq 4 0 = false from rfl, cond_false, show Nat.beq 4 2 = false from rfl, cond_false, show Nat.beq 4 3 = false from rfl, cond_false, show Nat.beq 4 4 = true from rfl, cond_true]]
    exact third_4 h W 
  · rw [show thirdN h 5 = 0 from by unfold thirdN; rw [show Nat.beq 5 0 = false from rfl, cond_false, show Nat.beq 5 2 = false from rfl, cond_false, show Nat.beq 5 3 = false from rfl, cond_false, show Nat.beq 5 4 = false from rfl, cond_false, show Nat.beq 5 6 = false from rfl, cond_false, show Nat.beq 5 7 = false from rfl, cond_false]]
    exact third_5 h W 
  · rw [show thirdN h 6 = (rformSN (orN ((cutN h 9 4) * 4 % 4294967296) ((cutN h 7 2) * 64 % 4294967296)) (cutN h 2 5) 2 2 35) from by unfold thirdN; rw [show Nat.beq 6 0 = false from rfl, cond_false, show Nat.beq 6 2 = false from rfl, cond_false, show Nat.beq 6 3 = false from rfl, cond_false, show Nat.beq 6 4 = false from rfl, cond_false, show Nat.beq 6 6 = true from rfl, cond_true]]
    exact third_6 h W 
  · rw [show thirdN h 7 = (rformSN (orN ((cutN h 10 3) * 8 % 4294967296) ((cutN h 7 3) * 64 % 4294967296)) (cutN h 2 5) 2 3 35) from by unfold thirdN; rw [show Nat.beq 7 0 = false from rfl, cond_false, show Nat.beq 7 2 = false from rfl, cond_false, show Nat.beq 7 3 = false from rfl, cond_false, show Nat.beq 7 4 = false from rfl, cond_false, show Nat.beq 7 6 = false from rfl, cond_false, show Nat.beq 7 7 = true from rfl, cond_true]]
    exact third_7 h W 

end Go.Proofs.Ytdodbfpahmkpbaa
