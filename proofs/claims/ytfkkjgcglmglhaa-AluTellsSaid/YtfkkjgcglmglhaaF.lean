/- sums and words of the reference. -/
import Derived.Test.YtfkkjgcglmglhaaE
namespace Go.Proofs.Ytfkkjgcglmglhaa
open Go.RowKit Go.Deep Go.Joins

theorem S_of_u64 (b : Int) (hb : U64 b) : (wrap64 b = 0) = (b = 0) := by
  have := S_eq b; have := hb.1; have := hb.2
  apply propext; omega
theorem div_same (a b : Int) (hb : U64 b) : IntKind.u64.wrap (divV (wrap64 a) (wrap64 b)) = qsV a b := by
  unfold divV qsV
  simp only [S_of_u64 b hb]
  split
  · rw [IntKind.wrap_u64]; rfl
  · rfl
theorem rem_same (a b : Int) (ha : U64 a) (hb : U64 b) : IntKind.u64.wrap (remV (wrap64 a) (wrap64 b)) = rsV a b := by
  unfold remV rsV
  simp only [S_of_u64 b hb]
  split
  · have := S_eq a; have := ha.1; have := ha.2
    rw [IntKind.wrap_u64]; omega
  · rfl
theorem S_word (a : Int) : wrap64 (wordV a) = wrap32 a := by
  have := S_eq (wordV a); have := wordV_eq a; have := T_eq a; omega
theorem S_T (a : Int) : wrap64 (wrap32 (a % 4294967296)) = wrap32 a := by
  have := S_eq (wrap32 (a % 4294967296)); have := T_eq (a % 4294967296); have := T_eq a; omega
theorem T_low (a : Int) : wrap32 (lowV a) = wrap32 a := by
  have := T_eq (lowV a); have := lowV_eq a; have := T_eq a; omega
set_option maxHeartbeats 1000000 in
theorem rsums_31 (a b : Int) (ha : U64 a) (hb : U64 b) (W : World) : Calls Try.prog 30 #[.int .i64 31, (.int .u64 a), (.int .u64 b)] W fun e W' => e = .returned (.tuple #[.int .u64 (uV (a + b)), .bool true]) ∧ W = W' := by
  have hU := And.intro ha hb
  clear hU
  go_enter Try.func30, Try.ntmps30
  go_wp2
  go_ret2
  exact ⟨rfl, rfl⟩
set_option maxHeartbeats 1000000 in
theorem rsums_22 (a b : Int) (ha : U64 a) (hb : U64 b) (W : World) : Calls Try.prog 30 #[.int .i64 22, (.int .u64 a), (.int .u64 b)] W fun e W' => e = .returned (.tuple #[.int .u64 (uV (a + b)), .bool true]) ∧ W = W' := by
  have hU := And.intro ha hb
  clear hU
  go_enter Try.func30, Try.ntmps30
  go_wp2
  go_ret2
  exact ⟨rfl, rfl⟩
set_option maxHeartbeats 1000000 in
theorem rsums_32 (a b : Int) (ha : U64 a) (hb : U64 b) (W : World) : Calls Try.prog 30 #[.int .i64 32, (.int .u64 a), (.int .u64 b)] W fun e W' => e = .returned (.tuple #[.int .u64 (uV (a - b)), .bool true]) ∧ W = W' := by
  have hU := And.intro ha hb
  clear hU
  go_enter Try.func30, Try.ntmps30
  go_wp2
  go_ret2
  exact ⟨rfl, rfl⟩
set_option maxHeartbeats 1000000 in
theorem rsums_33 (a b : Int) (ha : U64 a) (hb : U64 b) (W : World) : Calls Try.prog 30 #[.int .i64 33, (.int .u64 a), (.int .u64 b)] W fun e W' => e = .returned (.tuple #[.int .u64 (uV (a * 2 ^ (b % 64).toNat)), .bool true]) ∧ W = W' := by
  have hU := And.intro ha hb
  clear hU
  obtain ⟨k, hk, h0, h1, he⟩ := and63 b hb
  go_enter Try.func30, Try.ntmps30
  go_wp2
  go_ret2
  exact ⟨rfl, rfl⟩
set_option maxHeartbeats 1000000 in
theorem rsums_28 (a b : Int) (ha : U64 a) (hb : U64 b) (W : World) : Calls Try.prog 30 #[.int .i64 28, (.int .u64 a), (.int .u64 b)] W fun e W' => e = .returned (.tuple #[.int .u64 (uV (a * 2 ^ (b % 64).toNat)), .bool true]) ∧ W = W' := by
  have hU := And.intro ha hb
  clear hU
  obtain ⟨k, hk, h0, h1, he⟩ := and63 b hb
  go_enter Try.func30, Try.ntmps30
  go_wp2
  go_ret2
  exact ⟨rfl, rfl⟩
set_option maxHeartbeats 1000000 in
theorem rsums_37 (a b : Int) (ha : U64 a) (hb : U64 b) (W : World) : Calls Try.prog 30 #[.int .i64 37, (.int .u64 a), (.int .u64 b)] W fun e W' => e = .returned (.tuple #[.int .u64 (a / 2 ^ (b % 64).toNat), .bool true]) ∧ W = W' := by
  have hU := And.intro ha hb
  clear hU
  obtain ⟨k, hk, h0, h1, he⟩ := and63 b hb
  go_enter Try.func30, Try.ntmps30
  go_wp2
  go_ret2
  exact ⟨rfl, rfl⟩
set_option maxHeartbeats 1000000 in
theorem rsums_29 (a b : Int) (ha : U64 a) (hb : U64 b) (W : World) : Calls Try.prog 30 #[.int .i64 29, (.int .u64 a), (.int .u64 b)] W fun e W' => e = .returned (.tuple #[.int .u64 (a / 2 ^ (b % 64).toNat), .bool true]) ∧ W = W' := by
  have hU := And.intro ha hb
  clear hU
  obtain ⟨k, hk, h0, h1, he⟩ := and63 b hb
  go_enter Try.func30, Try.ntmps30
  go_wp2
  go_ret2
  exact ⟨rfl, rfl⟩
set_option maxHeartbeats 1000000 in
theorem rsums_38 (a b : Int) (ha : U64 a) (hb : U64 b) (W : World) : Calls Try.prog 30 #[.int .i64 38, (.int .u64 a), (.int .u64 b)] W fun e W' => e = .returned (.tuple #[.int .u64 (uV (wrap64 a / 2 ^ (b % 64).toNat)), .bool true]) ∧ W = W' := by
  have hU := And.intro ha hb
  clear hU
  obtain ⟨k, hk, h0, h1, he⟩ := and63 b hb
  go_enter Try.func30, Try.ntmps30
  go_wp2
  go_ret2
  exact ⟨rfl, rfl⟩
set_option maxHeartbeats 1000000 in
theorem rsums_30 (a b : Int) (ha : U64 a) (hb : U64 b) (W : World) : Calls Try.prog 30 #[.int .i64 30, (.int .u64 a), (.int .u64 b)] W fun e W' => e = .returned (.tuple #[.int .u64 (uV (wrap64 a / 2 ^ (b % 64).toNat)), .bool true]) ∧ W = W' := by
  have hU := And.intro ha hb
  clear hU
  obtain ⟨k, hk, h0, h1, he⟩ := and63 b hb
  go_enter Try.func30, Try.ntmps30
  go_wp2
  go_ret2
  exact ⟨rfl, rfl⟩
set_option maxHeartbeats 1000000 in
theorem rsums_34 (a b : Int) (ha : U64 a) (hb : U64 b) (W : World) : Calls Try.prog 30 #[.int .i64 34, (.int .u64 a), (.int .u64 b)] W fun e W' => e = .returned (.tuple #[.int .u64 (oneV (decide (wrap64 a < wrap64 b))), .bool true]) ∧ W = W' := by
  have hU := And.intro ha hb
  clear hU
  go_enter Try.func30, Try.ntmps30
  go_wp2_with (first | (go_at_call 44; (with_reducible refine (bit_any _ _).mono ?_); rintro e w' ⟨rfl, rfl⟩) | fail)
  go_ret2
  exact ⟨rfl, rfl⟩
set_option maxHeartbeats 1000000 in
theorem rsums_23 (a b : Int) (ha : U64 a) (hb : U64 b) (W : World) : Calls Try.prog 30 #[.int .i64 23, (.int .u64 a), (.int .u64 b)] W fun e W' => e = .returned (.tuple #[.int .u64 (oneV (decide (wrap64 a < wrap64 b))), .bool true]) ∧ W = W' := by
  have hU := And.intro ha hb
  clear hU
  go_enter Try.func30, Try.ntmps30
  go_wp2_with (first | (go_at_call 44; (with_reducible refine (bit_any _ _).mono ?_); rintro e w' ⟨rfl, rfl⟩) | fail)
  go_ret2
  exact ⟨rfl, rfl⟩
set_option maxHeartbeats 1000000 in
theorem rsums_35 (a b : Int) (ha : U64 a) (hb : U64 b) (W : World) : Calls Try.prog 30 #[.int .i64 35, (.int .u64 a), (.int .u64 b)] W fun e W' => e = .returned (.tuple #[.int .u64 (oneV (decide (a < b))), .bool true]) ∧ W = W' := by
  have hU := And.intro ha hb
  clear hU
  go_enter Try.func30, Try.ntmps30
  go_wp2_with (first | (go_at_call 44; (with_reducible refine (bit_any _ _).mono ?_); rintro e w' ⟨rfl, rfl⟩) | fail)
  go_ret2
  exact ⟨rfl, rfl⟩
set_option maxHeartbeats 1000000 in
theorem rsums_24 (a b : Int) (ha : U64 a) (hb : U64 b) (W : World) : Calls Try.prog 30 #[.int .i64 24, (.int .u64 a), (.int .u64 b)] W fun e W' => e = .returned (.tuple #[.int .u64 (oneV (decide (a < b))), .bool true]) ∧ W = W' := by
  have hU := And.intro ha hb
  clear hU
  go_enter Try.func30, Try.ntmps30
  go_wp2_with (first | (go_at_call 44; (with_reducible refine (bit_any _ _).mono ?_); rintro e w' ⟨rfl, rfl⟩) | fail)
  go_ret2
  exact ⟨rfl, rfl⟩
set_option maxHeartbeats 1000000 in
theorem rsums_36 (a b : Int) (ha : U64 a) (hb : U64 b) (W : World) : Calls Try.prog 30 #[.int .i64 36, (.int .u64 a), (.int .u64 b)] W fun e W' => e = .returned (.tuple #[.int .u64 (bits .xor .u64 a b), .bool true]) ∧ W = W' := by
  have hU := And.intro ha hb
  clear hU
  go_enter Try.func30, Try.ntmps30
  go_wp2
  go_ret2
  exact ⟨rfl, rfl⟩
set_option maxHeartbeats 1000000 in
theorem rsums_25 (a b : Int) (ha : U64 a) (hb : U64 b) (W : World) : Calls Try.prog 30 #[.int .i64 25, (.int .u64 a), (.int .u64 b)] W fun e W' => e = .returned (.tuple #[.int .u64 (bits .xor .u64 a b), .bool true]) ∧ W = W' := by
  have hU := And.intro ha hb
  clear hU
  go_enter Try.func30, Try.ntmps30
  go_wp2
  go_ret2
  exact ⟨rfl, rfl⟩
set_option maxHeartbeats 1000000 in
theorem rsums_39 (a b : Int) (ha : U64 a) (hb : U64 b) (W : World) : Calls Try.prog 30 #[.int .i64 39, (.int .u64 a), (.int .u64 b)] W fun e W' => e = .returned (.tuple #[.int .u64 (bits .or .u64 a b), .bool true]) ∧ W = W' := by
  have hU := And.intro ha hb
  clear hU
  go_enter Try.func30, Try.ntmps30
  go_wp2
  go_ret2
  exact ⟨rfl, rfl⟩
set_option maxHeartbeats 1000000 in
theorem rsums_26 (a b : Int) (ha : U64 a) (hb : U64 b) (W : World) : Calls Try.prog 30 #[.int .i64 26, (.int .u64 a), (.int .u64 b)] W fun e W' => e = .returned (.tuple #[.int .u64 (bits .or .u64 a b), .bool true]) ∧ W = W' := by
  have hU := And.intro ha hb
  clear hU
  go_enter Try.func30, Try.ntmps30
  go_wp2
  go_ret2
  exact ⟨rfl, rfl⟩
set_option maxHeartbeats 1000000 in
theorem rsums_40 (a b : Int) (ha : U64 a) (hb : U64 b) (W : World) : Calls Try.prog 30 #[.int .i64 40, (.int .u64 a), (.int .u64 b)] W fun e W' => e = .returned (.tuple #[.int .u64 (bits .and .u64 a b), .bool true]) ∧ W = W' := by
  have hU := And.intro ha hb
  clear hU
  go_enter Try.func30, Try.ntmps30
  go_wp2
  go_ret2
  exact ⟨rfl, rfl⟩
set_option maxHeartbeats 1000000 in
theorem rsums_27 (a b : Int) (ha : U64 a) (hb : U64 b) (W : World) : Calls Try.prog 30 #[.int .i64 27, (.int .u64 a), (.int .u64 b)] W fun e W' => e = .returned (.tuple #[.int .u64 (bits .and .u64 a b), .bool true]) ∧ W = W' := by
  have hU := And.intro ha hb
  clear hU
  go_enter Try.func30, Try.ntmps30
  go_wp2
  go_ret2
  exact ⟨rfl, rfl⟩
set_option maxHeartbeats 1000000 in
theorem rsums_none (op : Int) (a b : Int) (h : ∀ k ∈ ([31, 22, 32, 33, 28, 37, 29, 38, 30, 34, 23, 35, 24, 36, 25, 39, 26, 40, 27] : List Int), op ≠ k) (W : World) : Calls Try.prog 30 #[.int .i64 op, (.int .u64 a), (.int .u64 b)] W fun e W' => e = .returned (.tuple #[.int .u64 0, .bool false]) ∧ W = W' := by
  have g31 : (op == 31) = false := by rw [beq_eq_false_iff_ne]; exact h 31 (by decide)
  have g22 : (op == 22) = false := by rw [beq_eq_false_iff_ne]; exact h 22 (by decide)
  have g32 : (op == 32) = false := by rw [beq_eq_false_iff_ne]; exact h 32 (by decide)
  have g33 : (op == 33) = false := by rw [beq_eq_false_iff_ne]; exact h 33 (by decide)
  have g28 : (op == 28) = false := by rw [beq_eq_false_iff_ne]; exact h 28 (by decide)
  have g37 : (op == 37) = false := by rw [beq_eq_false_iff_ne]; exact h 37 (by decide)
  have g29 : (op == 29) = false := by rw [beq_eq_false_iff_ne]; exact h 29 (by decide)
  have g38 : (op == 38) = false := by rw [beq_eq_false_iff_ne]; exact h 38 (by decide)
  have g30 : (op == 30) = false := by rw [beq_eq_false_iff_ne]; exact h 30 (by decide)
  have g34 : (op == 34) = false := by rw [beq_eq_false_iff_ne]; exact h 34 (by decide)
  have g23 : (op == 23) = false := by rw [beq_eq_false_iff_ne]; exact h 23 (by decide)
  have g35 : (op == 35) = false := by rw [beq_eq_false_iff_ne]; exact h 35 (by decide)
  have g24 : (op == 24) = false := by rw [beq_eq_false_iff_ne]; exact h 24 (by decide)
  have g36 : (op == 36) = false := by rw [beq_eq_false_iff_ne]; exact h 36 (by decide)
  have g25 : (op == 25) = false := by rw [beq_eq_false_iff_ne]; exact h 25 (by decide)
  have g39 : (op == 39) = false := by rw [beq_eq_false_iff_ne]; exact h 39 (by decide)
  have g26 : (op == 26) = false := by rw [beq_eq_false_iff_ne]; exact h 26 (by decide)
  have g40 : (op == 40) = false := by rw [beq_eq_false_iff_ne]; exact h 40 (by decide)
  have g27 : (op == 27) = false := by rw [beq_eq_false_iff_ne]; exact h 27 (by decide)
  clear h
  go_enter Try.func30, Try.ntmps30
  go_wp2
  go_ret2
  exact ⟨rfl, rfl⟩
set_option maxHeartbeats 1000000 in
theorem rwords_45 (a b : Int) (ha : U64 a) (hb : U64 b) (W : World) : Calls Try.prog 31 #[.int .i64 45, (.int .u64 a), (.int .u64 b)] W fun e W' => e = .returned (.tuple #[.int .u64 (wordV (a + b)), .bool true]) ∧ W = W' := by
  have hU := And.intro ha hb
  clear hU
  go_enter Try.func31, Try.ntmps31
  go_wp2_with (first | (go_at_call 21; (with_reducible refine (rword_any _ _).mono ?_); rintro e w' ⟨rfl, rfl⟩) | fail)
  go_ret2
  refine ⟨ret_pair ?_ rfl, rfl⟩
  simp only [IntKind.wrap_u64, wordV_eq]
  try omega
set_option maxHeartbeats 1000000 in
theorem rwords_41 (a b : Int) (ha : U64 a) (hb : U64 b) (W : World) : Calls Try.prog 31 #[.int .i64 41, (.int .u64 a), (.int .u64 b)] W fun e W' => e = .returned (.tuple #[.int .u64 (wordV (a + b)), .bool true]) ∧ W = W' := by
  have hU := And.intro ha hb
  clear hU
  go_enter Try.func31, Try.ntmps31
  go_wp2_with (first | (go_at_call 21; (with_reducible refine (rword_any _ _).mono ?_); rintro e w' ⟨rfl, rfl⟩) | fail)
  go_ret2
  refine ⟨ret_pair ?_ rfl, rfl⟩
  simp only [IntKind.wrap_u64, wordV_eq]
  try omega
set_option maxHeartbeats 1000000 in
theorem rwords_46 (a b : Int) (ha : U64 a) (hb : U64 b) (W : World) : Calls Try.prog 31 #[.int .i64 46, (.int .u64 a), (.int .u64 b)] W fun e W' => e = .returned (.tuple #[.int .u64 (wordV (a - b)), .bool true]) ∧ W = W' := by
  have hU := And.intro ha hb
  clear hU
  go_enter Try.func31, Try.ntmps31
  go_wp2_with (first | (go_at_call 21; (with_reducible refine (rword_any _ _).mono ?_); rintro e w' ⟨rfl, rfl⟩) | fail)
  go_ret2
  refine ⟨ret_pair ?_ rfl, rfl⟩
  simp only [IntKind.wrap_u64, wordV_eq]
  try omega
set_option maxHeartbeats 1000000 in
theorem rwords_68 (a b : Int) (ha : U64 a) (hb : U64 b) (W : World) : Calls Try.prog 31 #[.int .i64 68, (.int .u64 a), (.int .u64 b)] W fun e W' => e = .returned (.tuple #[.int .u64 (wordV (a * b)), .bool true]) ∧ W = W' := by
  have hU := And.intro ha hb
  clear hU
  go_enter Try.func31, Try.ntmps31
  go_wp2_with (first | (go_at_call 21; (with_reducible refine (rword_any _ _).mono ?_); rintro e w' ⟨rfl, rfl⟩) | fail)
  go_ret2
  refine ⟨ret_pair ?_ rfl, rfl⟩
  simp only [IntKind.wrap_u64, wordV_eq]
  try omega
set_option maxHeartbeats 1000000 in
theorem rwords_47 (a b : Int) (ha : U64 a) (hb : U64 b) (W : World) : Calls Try.prog 31 #[.int .i64 47, (.int .u64 a), (.int .u64 b)] W fun e W' => e = .returned (.tuple #[.int .u64 (wordV (a * 2 ^ (b % 32).toNat)), .bool true]) ∧ W = W' := by
  have hU := And.intro ha hb
  clear hU
  obtain ⟨k, hk, h0, h1, he⟩ := and31 b hb
  go_enter Try.func31, Try.ntmps31
  go_wp2_with (first | (go_at_call 21; (with_reducible refine (rword_any _ _).mono ?_); rintro e w' ⟨rfl, rfl⟩) | fail)
  go_ret2
  refine ⟨ret_pair ?_ rfl, rfl⟩
  first | rfl | (simp only [IntKind.wrap_u64, wordV_eq]; omega)
set_option maxHeartbeats 1000000 in
theorem rwords_42 (a b : Int) (ha : U64 a) (hb : U64 b) (W : World) : Calls Try.prog 31 #[.int .i64 42, (.int .u64 a), (.int .u64 b)] W fun e W' => e = .returned (.tuple #[.int .u64 (wordV (a * 2 ^ (b % 32).toNat)), .bool true]) ∧ W = W' := by
  have hU := And.intro ha hb
  clear hU
  obtain ⟨k, hk, h0, h1, he⟩ := and31 b hb
  go_enter Try.func31, Try.ntmps31
  go_wp2_with (first | (go_at_call 21; (with_reducible refine (rword_any _ _).mono ?_); rintro e w' ⟨rfl, rfl⟩) | fail)
  go_ret2
  refine ⟨ret_pair ?_ rfl, rfl⟩
  first | rfl | (simp only [IntKind.wrap_u64, wordV_eq]; omega)
set_option maxHeartbeats 1000000 in
theorem rwords_48 (a b : Int) (ha : U64 a) (hb : U64 b) (W : World) : Calls Try.prog 31 #[.int .i64 48, (.int .u64 a), (.int .u64 b)] W fun e W' => e = .returned (.tuple #[.int .u64 (wordV (lowV a / 2 ^ (b % 32).toNat)), .bool true]) ∧ W = W' := by
  have hU := And.intro ha hb
  clear hU
  obtain ⟨k, hk, h0, h1, he⟩ := and31 b hb
  go_enter Try.func31, Try.ntmps31
  go_wp2_with (first | (go_at_call 21; (with_reducible refine (rword_any _ _).mono ?_); rintro e w' ⟨rfl, rfl⟩) | (go_at_call 35; (with_reducible refine (rlow_any _ _).mono ?_); rintro e w' ⟨rfl, rfl⟩) | fail)
  go_ret2
  refine ⟨ret_pair ?_ rfl, rfl⟩
  first | rfl | (simp only [IntKind.wrap_u64, wordV_eq]; omega)
set_option maxHeartbeats 1000000 in
theorem rwords_43 (a b : Int) (ha : U64 a) (hb : U64 b) (W : World) : Calls Try.prog 31 #[.int .i64 43, (.int .u64 a), (.int .u64 b)] W fun e W' => e = .returned (.tuple #[.int .u64 (wordV (lowV a / 2 ^ (b % 32).toNat)), .bool true]) ∧ W = W' := by
  have hU := And.intro ha hb
  clear hU
  obtain ⟨k, hk, h0, h1, he⟩ := and31 b hb
  go_enter Try.func31, Try.ntmps31
  go_wp2_with (first | (go_at_call 21; (with_reducible refine (rword_any _ _).mono ?_); rintro e w' ⟨rfl, rfl⟩) | (go_at_call 35; (with_reducible refine (rlow_any _ _).mono ?_); rintro e w' ⟨rfl, rfl⟩) | fail)
  go_ret2
  refine ⟨ret_pair ?_ rfl, rfl⟩
  first | rfl | (simp only [IntKind.wrap_u64, wordV_eq]; omega)
set_option maxHeartbeats 1000000 in
theorem rwords_49 (a b : Int) (ha : U64 a) (hb : U64 b) (W : World) : Calls Try.prog 31 #[.int .i64 49, (.int .u64 a), (.int .u64 b)] W fun e W' => e = .returned (.tuple #[.int .u64 (uV (wrap32 a / 2 ^ (b % 32).toNat)), .bool true]) ∧ W = W' := by
  have hU := And.intro ha hb
  clear hU
  obtain ⟨k, hk, h0, h1, he⟩ := and31 b hb
  go_enter Try.func31, Try.ntmps31
  go_wp2
  go_ret2
  refine ⟨ret_pair ?_ rfl, rfl⟩
  rw [S_T]; rfl
set_option maxHeartbeats 1000000 in
theorem rwords_44 (a b : Int) (ha : U64 a) (hb : U64 b) (W : World) : Calls Try.prog 31 #[.int .i64 44, (.int .u64 a), (.int .u64 b)] W fun e W' => e = .returned (.tuple #[.int .u64 (uV (wrap32 a / 2 ^ (b % 32).toNat)), .bool true]) ∧ W = W' := by
  have hU := And.intro ha hb
  clear hU
  obtain ⟨k, hk, h0, h1, he⟩ := and31 b hb
  go_enter Try.func31, Try.ntmps31
  go_wp2
  go_ret2
  refine ⟨ret_pair ?_ rfl, rfl⟩
  rw [S_T]; rfl
set_option maxHeartbeats 1000000 in
theorem rwords_69 (a b : Int) (ha : U64 a) (hb : U64 b) (W : World) : Calls Try.prog 31 #[.int .i64 69, (.int .u64 a), (.int .u64 b)] W fun e W' => e = .returned (.tuple #[.int .u64 (wordV (qsV (wordV a) (wordV b))), .bool true]) ∧ W = W' := by
  have hU := And.intro ha hb
  clear hU
  go_enter Try.func31, Try.ntmps31
  go_wp2_with (first | (go_at_call 21; (with_reducible refine (rword_any _ _).mono ?_); rintro e w' ⟨rfl, rfl⟩) | (go_at_call 26; (with_reducible refine (rdiv_any _ _ _).mono ?_); rintro e w' ⟨rfl, rfl⟩) | fail)
  go_ret2
  refine ⟨ret_pair ?_ rfl, rfl⟩
  rw [div_same _ _ (u64_wordV b)]
set_option maxHeartbeats 1000000 in
theorem rwords_70 (a b : Int) (ha : U64 a) (hb : U64 b) (W : World) : Calls Try.prog 31 #[.int .i64 70, (.int .u64 a), (.int .u64 b)] W fun e W' => e = .returned (.tuple #[.int .u64 (wordV (quV (lowV a) (lowV b))), .bool true]) ∧ W = W' := by
  have hU := And.intro ha hb
  clear hU
  go_enter Try.func31, Try.ntmps31
  go_wp2_with (first | (go_at_call 21; (with_reducible refine (rword_any _ _).mono ?_); rintro e w' ⟨rfl, rfl⟩) | (go_at_call 35; (with_reducible refine (rlow_any _ _).mono ?_); rintro e w' ⟨rfl, rfl⟩) | (go_at_call 27; (with_reducible refine (rdivu_any _ _ (u64_lowV _) (u64_lowV _) _).mono ?_); rintro e w' ⟨rfl, rfl⟩) | fail)
  go_ret2
  exact ⟨rfl, rfl⟩
set_option maxHeartbeats 1000000 in
theorem rwords_71 (a b : Int) (ha : U64 a) (hb : U64 b) (W : World) : Calls Try.prog 31 #[.int .i64 71, (.int .u64 a), (.int .u64 b)] W fun e W' => e = .returned (.tuple #[.int .u64 (wordV (rsV (wordV a) (wordV b))), .bool true]) ∧ W = W' := by
  have hU := And.intro ha hb
  clear hU
  go_enter Try.func31, Try.ntmps31
  go_wp2_with (first | (go_at_call 21; (with_reducible refine (rword_any _ _).mono ?_); rintro e w' ⟨rfl, rfl⟩) | (go_at_call 28; (with_reducible refine (rrem_any _ _ _).mono ?_); rintro e w' ⟨rfl, rfl⟩) | fail)
  go_ret2
  refine ⟨ret_pair ?_ rfl, rfl⟩
  rw [rem_same _ _ (u64_wordV a) (u64_wordV b)]
set_option maxHeartbeats 1000000 in
theorem rwords_72 (a b : Int) (ha : U64 a) (hb : U64 b) (W : World) : Calls Try.prog 31 #[.int .i64 72, (.int .u64 a), (.int .u64 b)] W fun e W' => e = .returned (.tuple #[.int .u64 (wordV (reV (lowV a) (lowV b))), .bool true]) ∧ W = W' := by
  have hU := And.intro ha hb
  clear hU
  go_enter Try.func31, Try.ntmps31
  go_wp2_with (first | (go_at_call 21; (with_reducible refine (rword_any _ _).mono ?_); rintro e w' ⟨rfl, rfl⟩) | (go_at_call 35; (with_reducible refine (rlow_any _ _).mono ?_); rintro e w' ⟨rfl, rfl⟩) | (go_at_call 29; (with_reducible refine (rremu_any _ _ (u64_lowV _) (u64_lowV _) _).mono ?_); rintro e w' ⟨rfl, rfl⟩) | fail)
  go_ret2
  exact ⟨rfl, rfl⟩
set_option maxHeartbeats 1000000 in
theorem rwords_none (op : Int) (a b : Int) (h : ∀ k ∈ ([45, 41, 46, 68, 47, 42, 48, 43, 49, 44, 69, 70, 71, 72] : List Int), op ≠ k) (W : World) : Calls Try.prog 31 #[.int .i64 op, (.int .u64 a), (.int .u64 b)] W fun e W' => e = .returned (.tuple #[.int .u64 0, .bool false]) ∧ W = W' := by
  have g45 : (op == 45) = false := by rw [beq_eq_false_iff_ne]; exact h 45 (by decide)
  have g41 : (op == 41) = false := by rw [beq_eq_false_iff_ne]; exact h 41 (by decide)
  have g46 : (op == 46) = false := by rw [beq_eq_false_iff_ne]; exact h 46 (by decide)
  have g68 : (op == 68) = false := by rw [beq_eq_false_iff_ne]; exact h 68 (by decide)
  have g47 : (op == 47) = false := by rw [beq_eq_false_iff_ne]; exact h 47 (by decide)
  have g42 : (op == 42) = false := by rw [beq_eq_false_iff_ne]; exact h 42 (by decide)
  have g48 : (op == 48) = false := by rw [beq_eq_false_iff_ne]; exact h 48 (by decide)
  have g43 : (op == 43) = false := by rw [beq_eq_false_iff_ne]; exact h 43 (by decide)
  have g49 : (op == 49) = false := by rw [beq_eq_false_iff_ne]; exact h 49 (by decide)
  have g44 : (op == 44) = false := by rw [beq_eq_false_iff_ne]; exact h 44 (by decide)
  have g69 : (op == 69) = false := by rw [beq_eq_false_iff_ne]; exact h 69 (by decide)
  have g70 : (op == 70) = false := by rw [beq_eq_false_iff_ne]; exact h 70 (by decide)
  have g71 : (op == 71) = false := by rw [beq_eq_false_iff_ne]; exact h 71 (by decide)
  have g72 : (op == 72) = false := by rw [beq_eq_false_iff_ne]; exact h 72 (by decide)
  clear h
  go_enter Try.func31, Try.ntmps31
  go_wp2
  go_ret2
  exact ⟨rfl, rfl⟩

end Go.Proofs.Ytfkkjgcglmglhaa
