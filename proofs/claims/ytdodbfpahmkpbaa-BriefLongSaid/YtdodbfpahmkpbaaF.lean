/- Both Words; the law awake; BriefTells walked. -/
import Derived.Test.YtdodbfpahmkpbaaE
import Derived.Handy
namespace Go.Proofs.Ytdodbfpahmkpbaa
open Go.RowKit Go.Deep Go.Joins

theorem and3_nat (a : Nat) : bits .and .u16 (a : Int) 3 = ((a % 4 : Nat) : Int) := by
  show IntKind.u16.wrap ((BitVec.ofInt 16 (a : Int) &&& BitVec.ofInt 16 ((3 : Nat) : Int)).toNat : Int) = _
  rw [BitVec.ofInt_natCast, BitVec.ofInt_natCast, BitVec.toNat_and, BitVec.toNat_ofNat, BitVec.toNat_ofNat, show 3 % 2 ^ 16 = 2 ^ 2 - 1 by rfl, Nat.and_two_pow_sub_one_eq_mod, IntKind.wrap_u16]
  omega
def shortB (h : Nat) : Bool := !Nat.beq (h % 4) 3
def errN (w : Nat) : Int := bif Nat.beq w 0 then 60 else 0
theorem short_val (h : Nat) : (bits .and .u16 (h : Int) 3 != 3) = shortB h := by
  rw [and3_nat]
  unfold shortB
  by_cases e : h % 4 = 3
  · rw [e]; rfl
  · rw [beqF e]
    have : ((((h % 4 : Nat) : Int)) == 3) = false := by rw [beq_eq_false_iff_ne]; omega
    rw [bne, this]
set_option maxHeartbeats 400000 in
theorem short_any (h : Nat) (W : World) : Calls Try.prog 7 #[.int .u16 h] W fun e W' => e = .returned (.bool (shortB h)) ∧ W = W' := by
  go_enter Try.func7, Try.ntmps7
  go_wp2
  go_ret
  exact ⟨ret_bool (short_val h), rfl⟩
set_option maxHeartbeats 400000 in
theorem rshort_any (h : Nat) (W : World) : Calls Try.prog 8 #[.int .u16 h] W fun e W' => e = .returned (.bool (shortB h)) ∧ W = W' := by
  go_enter Try.func8, Try.ntmps8
  go_wp2
  go_ret
  exact ⟨ret_bool (short_val h), rfl⟩
set_option maxHeartbeats 400000 in
theorem pword_y (h : Nat) (W : World) (hh : h < 65536) (z : wordN h = 0) : Calls Try.prog 9 #[.int .u16 h] W fun e W' => e = .returned (.tuple #[.int .u32 0, .int .i64 60]) ∧ W = W' := by
  have p0 : (((wordN h : Nat) : Int) == 0) = true := by rw [beq_iff_eq]; rw [z]; rfl
  go_enter Try.func9, Try.ntmps9
  go_wp2_with (first | (go_at_call 12; (with_reducible refine (word_any h _).mono ?_); rintro e w' ⟨rfl, rfl⟩) | fail)
  go_returns
  exact ⟨rfl, rfl⟩
set_option maxHeartbeats 400000 in
theorem pword_n (h : Nat) (W : World) (hh : h < 65536) (z : wordN h ≠ 0) : Calls Try.prog 9 #[.int .u16 h] W fun e W' => e = .returned (.tuple #[.int .u32 ((wordN h : Nat) : Int), .int .i64 0]) ∧ W = W' := by
  have p0 : (((wordN h : Nat) : Int) == 0) = false := by rw [beq_eq_false_iff_ne]; omega
  go_enter Try.func9, Try.ntmps9
  go_wp2_with (first | (go_at_call 12; (with_reducible refine (word_any h _).mono ?_); rintro e w' ⟨rfl, rfl⟩) | fail)
  go_returns
  exact ⟨rfl, rfl⟩
theorem pword_any (h : Nat) (W : World) (hh : h < 65536) : Calls Try.prog 9 #[.int .u16 h] W fun e W' => e = .returned (.tuple #[.int .u32 ((wordN h : Nat) : Int), .int .i64 (errN (wordN h))]) ∧ W = W' := by
  by_cases z : wordN h = 0
  · rw [z]
    exact pword_y h W hh z
  · rw [show errN (wordN h) = 0 by unfold errN; rw [beqF z, cond_false]]
    exact pword_n h W hh z
set_option maxHeartbeats 400000 in
theorem rword_0_y (h : Nat) (W : World) (hh : h < 65536) (h0 : cutN h 0 2 = 0) (z : firstN h (cutN h 13 3) = 0) : Calls Try.prog 10 #[.int .u16 h] W fun e W' => e = .returned (.tuple #[.int .u32 0, .int .i64 60]) ∧ W = W' := by
  have c0 : ∀ W, Calls Try.prog 13 #[.int .u32 h, .int .u64 13, .int .u64 3] W fun e W' => e = .returned (.int .u32 (cutN h 13 3 : Nat)) ∧ W = W' := fun W => cut_gen h 13 3 W (by omega) (by omega)
  have c1 : ∀ W, Calls Try.prog 13 #[.int .u32 h, .int .u64 0, .int .u64 2] W fun e W' => e = .returned (.int .u32 0) ∧ W = W' := fun W => by
    have c := cut_gen h 0 2 W (by omega) (by omega)
    rw [h0] at c
    exact c
  have c2 : ∀ W, Calls Try.prog 14 #[.int .u32 h, .int .u32 (cutN h 13 3 : Nat)] W fun e W' => e = .returned (.int .u32 (firstN h (cutN h 13 3) : Nat)) ∧ W = W' := fun W => first_any h (cutN h 13 3) W (cutN_lt h 13 3)
  have p0 : (((firstN h (cutN h 13 3) : Nat) : Int) == 0) = true := by rw [beq_iff_eq]; rw [z]; rfl
  go_enter Try.func10, Try.ntmps10
  go_wp2_with (first | (go_at_call 13; (with_reducible refine (c0 _).mono ?_); rintro e w' ⟨rfl, rfl⟩) | (go_at_call 13; (with_reducible refine (c1 _).mono ?_); rintro e w' ⟨rfl, rfl⟩) | (go_at_call 14; (with_reducible refine (c2 _).mono ?_); rintro e w' ⟨rfl, rfl⟩) | fail)
  go_returns
  exact ⟨rfl, rfl⟩
set_option maxHeartbeats 400000 in
theorem rword_0_n (h : Nat) (W : World) (hh : h < 65536) (h0 : cutN h 0 2 = 0) (z : firstN h (cutN h 13 3) ≠ 0) : Calls Try.prog 10 #[.int .u16 h] W fun e W' => e = .returned (.tuple #[.int .u32 ((firstN h (cutN h 13 3) : Nat) : Int), .int .i64 0]) ∧ W = W' := by
  have c0 : ∀ W, Calls Try.prog 13 #[.int .u32 h, .int .u64 13, .int .u64 3] W fun e W' => e = .returned (.int .u32 (cutN h 13 3 : Nat)) ∧ W = W' := fun W => cut_gen h 13 3 W (by omega) (by omega)
  have c1 : ∀ W, Calls Try.prog 13 #[.int .u32 h, .int .u64 0, .int .u64 2] W fun e W' => e = .returned (.int .u32 0) ∧ W = W' := fun W => by
    have c := cut_gen h 0 2 W (by omega) (by omega)
    rw [h0] at c
    exact c
  have c2 : ∀ W, Calls Try.prog 14 #[.int .u32 h, .int .u32 (cutN h 13 3 : Nat)] W fun e W' => e = .returned (.int .u32 (firstN h (cutN h 13 3) : Nat)) ∧ W = W' := fun W => first_any h (cutN h 13 3) W (cutN_lt h 13 3)
  have p0 : (((firstN h (cutN h 13 3) : Nat) : Int) == 0) = false := by rw [beq_eq_false_iff_ne]; omega
  go_enter Try.func10, Try.ntmps10
  go_wp2_with (first | (go_at_call 13; (with_reducible refine (c0 _).mono ?_); rintro e w' ⟨rfl, rfl⟩) | (go_at_call 13; (with_reducible refine (c1 _).mono ?_); rintro e w' ⟨rfl, rfl⟩) | (go_at_call 14; (with_reducible refine (c2 _).mono ?_); rintro e w' ⟨rfl, rfl⟩) | fail)
  go_returns
  exact ⟨rfl, rfl⟩
set_option maxHeartbeats 400000 in
theorem rword_1_y (h : Nat) (W : World) (hh : h < 65536) (h0 : cutN h 0 2 = 1) (z : secondN h (cutN h 13 3) = 0) : Calls Try.prog 10 #[.int .u16 h] W fun e W' => e = .returned (.tuple #[.int .u32 0, .int .i64 60]) ∧ W = W' := by
  have c0 : ∀ W, Calls Try.prog 13 #[.int .u32 h, .int .u64 13, .int .u64 3] W fun e W' => e = .returned (.int .u32 (cutN h 13 3 : Nat)) ∧ W = W' := fun W => cut_gen h 13 3 W (by omega) (by omega)
  have c1 : ∀ W, Calls Try.prog 13 #[.int .u32 h, .int .u64 0, .int .u64 2] W fun e W' => e = .returned (.int .u32 1) ∧ W = W' := fun W => by
    have c := cut_gen h 0 2 W (by omega) (by omega)
    rw [h0] at c
    exact c
  have c2 : ∀ W, Calls Try.prog 15 #[.int .u32 h, .int .u32 (cutN h 13 3 : Nat)] W fun e W' => e = .returned (.int .u32 (secondN h (cutN h 13 3) : Nat)) ∧ W = W' := fun W => second_any h (cutN h 13 3) W (cutN_lt h 13 3)
  have p0 : (((secondN h (cutN h 13 3) : Nat) : Int) == 0) = true := by rw [beq_iff_eq]; rw [z]; rfl
  go_enter Try.func10, Try.ntmps10
  go_wp2_with (first | (go_at_call 13; (with_reducible refine (c0 _).mono ?_); rintro e w' ⟨rfl, rfl⟩) | (go_at_call 13; (with_reducible refine (c1 _).mono ?_); rintro e w' ⟨rfl, rfl⟩) | (go_at_call 15; (with_reducible refine (c2 _).mono ?_); rintro e w' ⟨rfl, rfl⟩) | fail)
  go_returns
  exact ⟨rfl, rfl⟩
set_option maxHeartbeats 400000 in
theorem rword_1_n (h : Nat) (W : World) (hh : h < 65536) (h0 : cutN h 0 2 = 1) (z : secondN h (cutN h 13 3) ≠ 0) : Calls Try.prog 10 #[.int .u16 h] W fun e W' => e = .returned (.tuple #[.int .u32 ((secondN h (cutN h 13 3) : Nat) : Int), .int .i64 0]) ∧ W = W' := by
  have c0 : ∀ W, Calls Try.prog 13 #[.int .u32 h, .int .u64 13, .int .u64 3] W fun e W' => e = .returned (.int .u32 (cutN h 13 3 : Nat)) ∧ W = W' := fun W => cut_gen h 13 3 W (by omega) (by omega)
  have c1 : ∀ W, Calls Try.prog 13 #[.int .u32 h, .int .u64 0, .int .u64 2] W fun e W' => e = .returned (.int .u32 1) ∧ W = W' := fun W => by
    have c := cut_gen h 0 2 W (by omega) (by omega)
    rw [h0] at c
    exact c
  have c2 : ∀ W, Calls Try.prog 15 #[.int .u32 h, .int .u32 (cutN h 13 3 : Nat)] W fun e W' => e = .returned (.int .u32 (secondN h (cutN h 13 3) : Nat)) ∧ W = W' := fun W => second_any h (cutN h 13 3) W (cutN_lt h 13 3)
  have p0 : (((secondN h (cutN h 13 3) : Nat) : Int) == 0) = false := by rw [beq_eq_false_iff_ne]; omega
  go_enter Try.func10, Try.ntmps10
  go_wp2_with (first | (go_at_call 13; (with_reducible refine (c0 _).mono ?_); rintro e w' ⟨rfl, rfl⟩) | (go_at_call 13; (with_reducible refine (c1 _).mono ?_); rintro e w' ⟨rfl, rfl⟩) | (go_at_call 15; (with_reducible refine (c2 _).mono ?_); rintro e w' ⟨rfl, rfl⟩) | fail)
  go_returns
  exact ⟨rfl, rfl⟩
set_option maxHeartbeats 400000 in
theorem rword_2_y (h : Nat) (W : World) (hh : h < 65536) (h0 : cutN h 0 2 = 2) (z : thirdN h (cutN h 13 3) = 0) : Calls Try.prog 10 #[.int .u16 h] W fun e W' => e = .returned (.tuple #[.int .u32 0, .int .i64 60]) ∧ W = W' := by
  have c0 : ∀ W, Calls Try.prog 13 #[.int .u32 h, .int .u64 13, .int .u64 3] W fun e W' => e = .returned (.int .u32 (cutN h 13 3 : Nat)) ∧ W = W' := fun W => cut_gen h 13 3 W (by omega) (by omega)
  have c1 : ∀ W, Calls Try.prog 13 #[.int .u32 h, .int .u64 0, .int .u64 2] W fun e W' => e = .returned (.int .u32 2) ∧ W = W' := fun W => by
    have c := cut_gen h 0 2 W (by omega) (by omega)
    rw [h0] at c
    exact c
  have c2 : ∀ W, Calls Try.prog 16 #[.int .u32 h, .int .u32 (cutN h 13 3 : Nat)] W fun e W' => e = .returned (.int .u32 (thirdN h (cutN h 13 3) : Nat)) ∧ W = W' := fun W => third_any h (cutN h 13 3) W (cutN_lt h 13 3)
  have p0 : (((thirdN h (cutN h 13 3) : Nat) : Int) == 0) = true := by rw [beq_iff_eq]; rw [z]; rfl
  go_enter Try.func10, Try.ntmps10
  go_wp2_with (first | (go_at_call 13; (with_reducible refine (c0 _).mono ?_); rintro e w' ⟨rfl, rfl⟩) | (go_at_call 13; (with_reducible refine (c1 _).mono ?_); rintro e w' ⟨rfl, rfl⟩) | (go_at_call 16; (with_reducible refine (c2 _).mono ?_); rintro e w' ⟨rfl, rfl⟩) | fail)
  go_returns
  exact ⟨rfl, rfl⟩
set_option maxHeartbeats 400000 in
theorem rword_2_n (h : Nat) (W : World) (hh : h < 65536) (h0 : cutN h 0 2 = 2) (z : thirdN h (cutN h 13 3) ≠ 0) : Calls Try.prog 10 #[.int .u16 h] W fun e W' => e = .returned (.tuple #[.int .u32 ((thirdN h (cutN h 13 3) : Nat) : Int), .int .i64 0]) ∧ W = W' := by
  have c0 : ∀ W, Calls Try.prog 13 #[.int .u32 h, .int .u64 13, .int .u64 3] W fun e W' => e = .returned (.int .u32 (cutN h 13 3 : Nat)) ∧ W = W' := fun W => cut_gen h 13 3 W (by omega) (by omega)
  have c1 : ∀ W, Calls Try.prog 13 #[.int .u32 h, .int .u64 0, .int .u64 2] W fun e W' => e = .returned (.int .u32 2) ∧ W = W' := fun W => by
    have c := cut_gen h 0 2 W (by omega) (by omega)
    rw [h0] at c
    exact c
  have c2 : ∀ W, Calls Try.prog 16 #[.int .u32 h, .int .u32 (cutN h 13 3 : Nat)] W fun e W' => e = .returned (.int .u32 (thirdN h (cutN h 13 3) : Nat)) ∧ W = W' := fun W => third_any h (cutN h 13 3) W (cutN_lt h 13 3)
  have p0 : (((thirdN h (cutN h 13 3) : Nat) : Int) == 0) = false := by rw [beq_eq_false_iff_ne]; omega
  go_enter Try.func10, Try.ntmps10
  go_wp2_with (first | (go_at_call 13; (with_reducible refine (c0 _).mono ?_); rintro e w' ⟨rfl, rfl⟩) | (go_at_call 13; (with_reducible refine (c1 _).mono ?_); rintro e w' ⟨rfl, rfl⟩) | (go_at_call 16; (with_reducible refine (c2 _).mono ?_); rintro e w' ⟨rfl, rfl⟩) | fail)
  go_returns
  exact ⟨rfl, rfl⟩
set_option maxHeartbeats 400000 in
theorem rword_3 (h : Nat) (W : World) (hh : h < 65536) (h0 : cutN h 0 2 = 3) : Calls Try.prog 10 #[.int .u16 h] W fun e W' => e = .returned (.tuple #[.int .u32 0, .int .i64 60]) ∧ W = W' := by
  have c0 : ∀ W, Calls Try.prog 13 #[.int .u32 h, .int .u64 13, .int .u64 3] W fun e W' => e = .returned (.int .u32 (cutN h 13 3 : Nat)) ∧ W = W' := fun W => cut_gen h 13 3 W (by omega) (by omega)
  have c1 : ∀ W, Calls Try.prog 13 #[.int .u32 h, .int .u64 0, .int .u64 2] W fun e W' => e = .returned (.int .u32 3) ∧ W = W' := fun W => by
    have c := cut_gen h 0 2 W (by omega) (by omega)
    rw [h0] at c
    exact c
  go_enter Try.func10, Try.ntmps10
  go_wp2_with (first | (go_at_call 13; (with_reducible refine (c0 _).mono ?_); rintro e w' ⟨rfl, rfl⟩) | (go_at_call 13; (with_reducible refine (c1 _).mono ?_); rintro e w' ⟨rfl, rfl⟩) | fail)
  go_returns
  exact ⟨rfl, rfl⟩
theorem rword_any (h : Nat) (W : World) (hh : h < 65536) : Calls Try.prog 10 #[.int .u16 h] W fun e W' => e = .returned (.tuple #[.int .u32 ((rwordN h : Nat) : Int), .int .i64 (errN (rwordN h))]) ∧ W = W' := by
  have l0 := cutN_lt h 0 2
  have b0 : cutN h 0 2 = 0 ∨ cutN h 0 2 = 1 ∨ cutN h 0 2 = 2 ∨ cutN h 0 2 = 3 := by omega
  rcases b0 with h0 | h0 | h0 | h0
  · rw [show rwordN h = firstN h (cutN h 13 3) from by unfold rwordN; rw [beqT h0, cond_true]]
    by_cases z : firstN h (cutN h 13 3) = 0
    · rw [z]
      exact rword_0_y h W hh h0 z
    · rw [show errN (firstN h (cutN h 13 3)) = 0 by unfold errN; rw [beqF z, cond_false]]
      exact rword_0_n h W hh h0 z
  · rw [show rwordN h = secondN h (cutN h 13 3) from by unfold rwordN; rw [beqF (show cutN h 0 2 ≠ 0 by omega), cond_false, beqT h0, cond_true]]
    by_cases z : secondN h (cutN h 13 3) = 0
    · rw [z]
      exact rword_1_y h W hh h0 z
    · rw [show errN (secondN h (cutN h 13 3)) = 0 by unfold errN; rw [beqF z, cond_false]]
      exact rword_1_n h W hh h0 z
  · rw [show rwordN h = thirdN h (cutN h 13 3) from by unfold rwordN; rw [beqF (show cutN h 0 2 ≠ 0 by omega), cond_false, beqF (show cutN h 0 2 ≠ 1 by omega), cond_false, beqT h0, cond_true]]
    by_cases z : thirdN h (cutN h 13 3) = 0
    · rw [z]
      exact rword_2_y h W hh h0 z
    · rw [show errN (thirdN h (cutN h 13 3)) = 0 by unfold errN; rw [beqF z, cond_false]]
      exact rword_2_n h W hh h0 z
  · rw [show rwordN h = 0 from by unfold rwordN; rw [beqF (show cutN h 0 2 ≠ 0 by omega), cond_false, beqF (show cutN h 0 2 ≠ 1 by omega), cond_false, beqF (show cutN h 0 2 ≠ 2 by omega), cond_false]]
    exact rword_3 h W hh h0
theorem same_word (h : Nat) (hh : h < 65536) : wordN h = rwordN h :=
  Nat.eq_of_beq_eq_true (allB_spec sameB 16 0 same_all h (by omega))
theorem w_first : wordN 17669 = 1049875 := by decide +kernel
theorem w_zero : wordN 0 = 0 := by decide +kernel
theorem word_first (W : World) : Calls Try.prog 9 #[.int .u16 17669] W fun e W' => e = .returned (.tuple #[.int .u32 1049875, .int .i64 0]) ∧ W = W' := by
  have h := pword_any 17669 W (by omega)
  rw [w_first] at h
  exact h
theorem word_zero (W : World) : Calls Try.prog 9 #[.int .u16 0] W fun e W' => e = .returned (.tuple #[.int .u32 0, .int .i64 60]) ∧ W = W' := by
  have h := pword_any 0 W (by omega)
  rw [w_zero] at h
  exact h
theorem short_1 (W : World) : Calls Try.prog 7 #[.int .u16 1] W fun e W' => e = .returned (.bool true) ∧ W = W' := short_any 1 W
theorem short_3 (W : World) : Calls Try.prog 7 #[.int .u16 3] W fun e W' => e = .returned (.bool false) ∧ W = W' := short_any 3 W
set_option maxHeartbeats 1000000 in
theorem awake_any (W : World) : Calls Try.prog 6 #[] W fun e W' => e = .returned (.bool true) ∧ W = W' := by
  go_enter Try.func6, Try.ntmps6
  go_wp2_with (first | (go_at_call 9; (with_reducible refine (word_first _).mono ?_); rintro e w' ⟨rfl, rfl⟩) | (go_at_call 9; (with_reducible refine (word_zero _).mono ?_); rintro e w' ⟨rfl, rfl⟩) | (go_at_call 7; (with_reducible refine (short_1 _).mono ?_); rintro e w' ⟨rfl, rfl⟩) | (go_at_call 7; (with_reducible refine (short_3 _).mono ?_); rintro e w' ⟨rfl, rfl⟩) | fail)
  go_ret
  exact ⟨rfl, rfl⟩
theorem rword_same (h : Nat) (W : World) (hh : h < 65536) : Calls Try.prog 10 #[.int .u16 h] W fun e W' => e = .returned (.tuple #[.int .u32 ((wordN h : Nat) : Int), .int .i64 (errN (wordN h))]) ∧ W = W' := by
  rw [same_word h hh]
  exact rword_any h W hh
set_option maxHeartbeats 1000000 in
theorem tells_any (h : Nat) (W : World) (hh : h < 65536) : Calls Try.prog 3 #[.int .u16 h] W fun e W' => e = .returned (.bool true) ∧ W = W' := by
  have s0 : (shortB h != shortB h) = false := by cases shortB h <;> rfl
  go_enter Try.func3, Try.ntmps3
  go_wp2_with (first | (go_at_call 6; (with_reducible refine (awake_any _).mono ?_); rintro e w' ⟨rfl, rfl⟩) | (go_at_call 7; (with_reducible refine (short_any h _).mono ?_); rintro e w' ⟨rfl, rfl⟩) | (go_at_call 8; (with_reducible refine (rshort_any h _).mono ?_); rintro e w' ⟨rfl, rfl⟩) | (go_at_call 9; (with_reducible refine (pword_any h _ hh).mono ?_); rintro e w' ⟨rfl, rfl⟩) | (go_at_call 10; (with_reducible refine (rword_same h _ hh).mono ?_); rintro e w' ⟨rfl, rfl⟩) | fail)
  go_ret
  exact ⟨rfl, rfl⟩

end Go.Proofs.Ytdodbfpahmkpbaa
