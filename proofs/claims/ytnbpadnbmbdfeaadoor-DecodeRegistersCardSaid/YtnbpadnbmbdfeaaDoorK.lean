/- The reference: branches and jumps. -/
import Derived.Test.YtnbpadnbmbdfeaaDoorJ
namespace Go.Proofs.YtnbpadnbmbdfeaaDoor
open Go.RowKit Go.Deep Go.Joins

theorem and_high (w : Nat) (h : w < 4294967296) : w &&& 4294963200 = cutN w 12 20 * 4096 := by
  have e : cutN w 12 20 * 4096 = w / 2 ^ 12 * 2 ^ 12 := by unfold cutN; omega
  rw [e, show (4294963200 : Nat) = (2 ^ 20 - 1) * 2 ^ 12 by decide]
  apply Nat.eq_of_testBit_eq
  intro i
  rw [Nat.testBit_and, Nat.testBit_mul_two_pow, Nat.testBit_mul_two_pow, Nat.testBit_two_pow_sub_one, Nat.testBit_div_two_pow]
  by_cases h1 : 12 ≤ i
  · rw [show i - 12 + 12 = i by omega]
    by_cases h2 : i - 12 < 20
    · simp [h1, h2]
    · have : w.testBit i = false := Nat.testBit_lt_two_pow (Nat.lt_of_lt_of_le h (by
        have : (2 : Nat) ^ 32 ≤ 2 ^ i := Nat.pow_le_pow_right (by omega) (by omega)
        omega))
      simp [this]
  · simp [h1]
theorem wide_I (w : Nat) (h : w < 4294967296) : wideI (w / 1048576) 12 = immI w := by
  unfold wideI immI cutN
  split <;> simp at * <;> omega
theorem wide_S (w : Nat) : wideI (cutN w 25 7 * 32 + cutN w 7 5) 12 = immS w := by
  have h1 := lt_7_5 w
  have h2 : cutN w 31 1 = cutN w 25 7 / 64 := by unfold cutN; omega
  unfold wideI immS
  rw [h2]
  have h3 := lt_25_7 w
  split <;> simp at * <;> omega
theorem wide_B (w : Nat) : wideI (cutN w 31 1 * 4096 + cutN w 7 1 * 2048 + cutN w 25 6 * 32 + cutN w 8 4 * 2) 13 = immB w := by
  have h1 := lt_31_1 w
  have h2 := lt_7_1 w
  have h3 := lt_25_6 w
  have h4 := lt_8_4 w
  unfold wideI immB
  split <;> simp at * <;> omega
theorem wide_J (w : Nat) : wideI (cutN w 31 1 * 1048576 + cutN w 12 8 * 4096 + cutN w 20 1 * 2048 + cutN w 21 10 * 2) 21 = immJ w := by
  have h1 := lt_31_1 w
  have h2 := lt_12_8 w
  have h3 := lt_20_1 w
  have h4 := lt_21_10 w
  unfold wideI immJ
  split <;> simp at * <;> omega
set_option maxHeartbeats 400000 in
theorem rbranch_any (w : Nat) (W : World) (hw : w < 4294967296) :
    Calls Tryd.prog 16 #[.int .u32 w] W fun e W' => e = .returned (.int .i64 (immB w)) ∧ W = W' := by
  have l31_1 := lt_31_1 w
  have l7_1 := lt_7_1 w
  have l25_6 := lt_25_6 w
  have l8_4 := lt_8_4 w
  obtain ⟨n1, hn1⟩ : ∃ n : Nat, n = cutN w 31 1 * 4096 + cutN w 7 1 * 2048 := ⟨_, rfl⟩
  have E1 : bits .or .u32 (((cutN w 31 1 : Nat) : Int) * 4096) (((cutN w 7 1 : Nat) : Int) * 2048) = (n1 : Int) := by
    have h := or_u32 (a := cutN w 31 1 * 1) (b := cutN w 7 1 * 2048) 12 (by omega) (by omega)
    rw [show (cutN w 31 1 * 1) * 2 ^ 12 = cutN w 31 1 * 4096 by omega] at h
    rw [hn1, show ((cutN w 7 1 : Nat) : Int) * 2048 = ((cutN w 7 1 * 2048 : Nat) : Int) by omega]
    rw [show ((cutN w 31 1 : Nat) : Int) * 4096 = ((cutN w 31 1 * 4096 : Nat) : Int) by omega]
    exact h
  obtain ⟨n2, hn2⟩ : ∃ n : Nat, n = cutN w 31 1 * 4096 + cutN w 7 1 * 2048 + cutN w 25 6 * 32 := ⟨_, rfl⟩
  have E2 : bits .or .u32 ((n1 : Int)) (((cutN w 25 6 : Nat) : Int) * 32) = (n2 : Int) := by
    have h := or_u32 (a := cutN w 31 1 * 2 + cutN w 7 1 * 1) (b := cutN w 25 6 * 32) 11 (by omega) (by omega)
    rw [show (cutN w 31 1 * 2 + cutN w 7 1 * 1) * 2 ^ 11 = cutN w 31 1 * 4096 + cutN w 7 1 * 2048 by omega] at h
    rw [hn2, show ((cutN w 25 6 : Nat) : Int) * 32 = ((cutN w 25 6 * 32 : Nat) : Int) by omega]
    rw [hn1]
    exact h
  obtain ⟨n3, hn3⟩ : ∃ n : Nat, n = cutN w 31 1 * 4096 + cutN w 7 1 * 2048 + cutN w 25 6 * 32 + cutN w 8 4 * 2 := ⟨_, rfl⟩
  have E3 : bits .or .u32 ((n2 : Int)) (((cutN w 8 4 : Nat) : Int) * 2) = (n3 : Int) := by
    have h := or_u32 (a := cutN w 31 1 * 128 + cutN w 7 1 * 64 + cutN w 25 6 * 1) (b := cutN w 8 4 * 2) 5 (by omega) (by omega)
    rw [show (cutN w 31 1 * 128 + cutN w 7 1 * 64 + cutN w 25 6 * 1) * 2 ^ 5 = cutN w 31 1 * 4096 + cutN w 7 1 * 2048 + cutN w 25 6 * 32 by omega] at h
    rw [hn3, show ((cutN w 8 4 : Nat) : Int) * 2 = ((cutN w 8 4 * 2 : Nat) : Int) by omega]
    rw [hn2]
    exact h
  have hb : n3 < 8192 := by omega
  have HI := Lib.hid (show wideI n3 13 = immB w by rw [hn3]; exact wide_B w)
  clear hn1 hn2 hn3
  go_enter Tryd.func16, Tryd.ntmps16
  go_wp2_with (first | (go_at_call 12; (first | (with_reducible refine (cut_31_1 w _ hw).mono ?_) | (with_reducible refine (cut_7_1 w _ hw).mono ?_) | (with_reducible refine (cut_25_6 w _ hw).mono ?_) | (with_reducible refine (cut_8_4 w _ hw).mono ?_) | fail); rintro e w' ⟨rfl, rfl⟩) | (go_at_call 15; (with_reducible refine (wide13 _ _ hb).mono ?_); rintro e w' ⟨rfl, rfl⟩) | fail)
  go_ret
  exact ⟨ret_int HI.out, rfl⟩
set_option maxHeartbeats 400000 in
theorem rjump_any (w : Nat) (W : World) (hw : w < 4294967296) :
    Calls Tryd.prog 13 #[.int .u32 w] W fun e W' => e = .returned (.int .i64 (immJ w)) ∧ W = W' := by
  have l31_1 := lt_31_1 w
  have l12_8 := lt_12_8 w
  have l20_1 := lt_20_1 w
  have l21_10 := lt_21_10 w
  obtain ⟨n1, hn1⟩ : ∃ n : Nat, n = cutN w 31 1 * 1048576 + cutN w 12 8 * 4096 := ⟨_, rfl⟩
  have E1 : bits .or .u32 (((cutN w 31 1 : Nat) : Int) * 1048576) (((cutN w 12 8 : Nat) : Int) * 4096) = (n1 : Int) := by
    have h := or_u32 (a := cutN w 31 1 * 1) (b := cutN w 12 8 * 4096) 20 (by omega) (by omega)
    rw [show (cutN w 31 1 * 1) * 2 ^ 20 = cutN w 31 1 * 1048576 by omega] at h
    rw [hn1, show ((cutN w 12 8 : Nat) : Int) * 4096 = ((cutN w 12 8 * 4096 : Nat) : Int) by omega]
    rw [show ((cutN w 31 1 : Nat) : Int) * 1048576 = ((cutN w 31 1 * 1048576 : Nat) : Int) by omega]
    exact h
  obtain ⟨n2, hn2⟩ : ∃ n : Nat, n = cutN w 31 1 * 1048576 + cutN w 12 8 * 4096 + cutN w 20 1 * 2048 := ⟨_, rfl⟩
  have E2 : bits .or .u32 ((n1 : Int)) (((cutN w 20 1 : Nat) : Int) * 2048) = (n2 : Int) := by
    have h := or_u32 (a := cutN w 31 1 * 256 + cutN w 12 8 * 1) (b := cutN w 20 1 * 2048) 12 (by omega) (by omega)
    rw [show (cutN w 31 1 * 256 + cutN w 12 8 * 1) * 2 ^ 12 = cutN w 31 1 * 1048576 + cutN w 12 8 * 4096 by omega] at h
    rw [hn2, show ((cutN w 20 1 : Nat) : Int) * 2048 = ((cutN w 20 1 * 2048 : Nat) : Int) by omega]
    rw [hn1]
    exact h
  obtain ⟨n3, hn3⟩ : ∃ n : Nat, n = cutN w 31 1 * 1048576 + cutN w 12 8 * 4096 + cutN w 20 1 * 2048 + cutN w 21 10 * 2 := ⟨_, rfl⟩
  have E3 : bits .or .u32 ((n2 : Int)) (((cutN w 21 10 : Nat) : Int) * 2) = (n3 : Int) := by
    have h := or_u32 (a := cutN w 31 1 * 512 + cutN w 12 8 * 2 + cutN w 20 1 * 1) (b := cutN w 21 10 * 2) 11 (by omega) (by omega)
    rw [show (cutN w 31 1 * 512 + cutN w 12 8 * 2 + cutN w 20 1 * 1) * 2 ^ 11 = cutN w 31 1 * 1048576 + cutN w 12 8 * 4096 + cutN w 20 1 * 2048 by omega] at h
    rw [hn3, show ((cutN w 21 10 : Nat) : Int) * 2 = ((cutN w 21 10 * 2 : Nat) : Int) by omega]
    rw [hn2]
    exact h
  have hb : n3 < 2097152 := by omega
  have HI := Lib.hid (show wideI n3 21 = immJ w by rw [hn3]; exact wide_J w)
  clear hn1 hn2 hn3
  go_enter Tryd.func13, Tryd.ntmps13
  go_wp2_with (first | (go_at_call 12; (first | (with_reducible refine (cut_31_1 w _ hw).mono ?_) | (with_reducible refine (cut_12_8 w _ hw).mono ?_) | (with_reducible refine (cut_20_1 w _ hw).mono ?_) | (with_reducible refine (cut_21_10 w _ hw).mono ?_) | fail); rintro e w' ⟨rfl, rfl⟩) | (go_at_call 15; (with_reducible refine (wide21 _ _ hb).mono ?_); rintro e w' ⟨rfl, rfl⟩) | fail)
  go_ret
  exact ⟨ret_int HI.out, rfl⟩

end Go.Proofs.YtnbpadnbmbdfeaaDoor
