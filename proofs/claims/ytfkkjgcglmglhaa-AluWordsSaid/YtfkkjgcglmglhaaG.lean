/- Do, Amo and Branch of the reference. -/
import Derived.Test.YtfkkjgcglmglhaaF
namespace Go.Proofs.Ytfkkjgcglmglhaa
open Go.RowKit Go.Deep Go.Joins

theorem low_word (a : Int) : lowV (wordV a) = lowV a := by
  have := lowV_eq (wordV a); have := wordV_eq a; have := lowV_eq a; omega
theorem low_low (a : Int) : lowV (lowV a) = lowV a := by
  have := lowV_eq (lowV a); have := lowV_eq a; omega
theorem low_nat (n : Nat) : lowV (n : Int) = ((n % 2 ^ 32 : Nat) : Int) := by rw [lowV_eq, Int.natCast_emod]; rfl
theorem low_eq_nat {x y : Nat} (h : lowV x = lowV y) : x % 2 ^ 32 = y % 2 ^ 32 := by rw [low_nat, low_nat] at h; exact Int.ofNat.inj h
theorem low_xor {a b c d : Int} (ha : U64 a) (hb : U64 b) (hc : U64 c) (hd : U64 d) (h1 : lowV a = lowV c) (h2 : lowV b = lowV d) : lowV (bits .xor .u64 a b) = lowV (bits .xor .u64 c d) := by
  obtain ⟨a, rfl⟩ := Int.eq_ofNat_of_zero_le ha.1
  obtain ⟨b, rfl⟩ := Int.eq_ofNat_of_zero_le hb.1
  obtain ⟨c, rfl⟩ := Int.eq_ofNat_of_zero_le hc.1
  obtain ⟨d, rfl⟩ := Int.eq_ofNat_of_zero_le hd.1
  rw [bits_xor_u64_nat a b (by have := ha.2; omega) (by have := hb.2; omega), bits_xor_u64_nat c d (by have := hc.2; omega) (by have := hd.2; omega), low_nat, low_nat, Nat.xor_mod_two_pow, Nat.xor_mod_two_pow, low_eq_nat h1, low_eq_nat h2]
theorem low_and {a b c d : Int} (ha : U64 a) (hb : U64 b) (hc : U64 c) (hd : U64 d) (h1 : lowV a = lowV c) (h2 : lowV b = lowV d) : lowV (bits .and .u64 a b) = lowV (bits .and .u64 c d) := by
  obtain ⟨a, rfl⟩ := Int.eq_ofNat_of_zero_le ha.1
  obtain ⟨b, rfl⟩ := Int.eq_ofNat_of_zero_le hb.1
  obtain ⟨c, rfl⟩ := Int.eq_ofNat_of_zero_le hc.1
  obtain ⟨d, rfl⟩ := Int.eq_ofNat_of_zero_le hd.1
  rw [bits_and_u64_nat a b (by have := ha.2; omega) (by have := hb.2; omega), bits_and_u64_nat c d (by have := hc.2; omega) (by have := hd.2; omega), low_nat, low_nat, Nat.and_mod_two_pow, Nat.and_mod_two_pow, low_eq_nat h1, low_eq_nat h2]
theorem low_or {a b c d : Int} (ha : U64 a) (hb : U64 b) (hc : U64 c) (hd : U64 d) (h1 : lowV a = lowV c) (h2 : lowV b = lowV d) : lowV (bits .or .u64 a b) = lowV (bits .or .u64 c d) := by
  obtain ⟨a, rfl⟩ := Int.eq_ofNat_of_zero_le ha.1
  obtain ⟨b, rfl⟩ := Int.eq_ofNat_of_zero_le hb.1
  obtain ⟨c, rfl⟩ := Int.eq_ofNat_of_zero_le hc.1
  obtain ⟨d, rfl⟩ := Int.eq_ofNat_of_zero_le hd.1
  rw [bits_or_u64_nat a b (by have := ha.2; omega) (by have := hb.2; omega), bits_or_u64_nat c d (by have := hc.2; omega) (by have := hd.2; omega), low_nat, low_nat, Nat.or_mod_two_pow, Nat.or_mod_two_pow, low_eq_nat h1, low_eq_nat h2]
theorem low_minS (a b : Int) : lowV (minS (wordV a) (wordV b)) = minT a b := by
  unfold minS minT
  rw [S_word, S_word]
  split <;> exact low_word _
theorem low_maxS (a b : Int) : lowV (maxS (wordV a) (wordV b)) = maxT a b := by
  unfold maxS maxT
  rw [S_word, S_word]
  split <;> exact low_word _
theorem low_minU (a b : Int) : lowV (minU (lowV (wordV a)) (lowV (wordV b))) = minU (lowV a) (lowV b) := by
  unfold minU
  rw [low_word, low_word]
  split <;> exact low_low _
theorem low_maxU (a b : Int) : lowV (maxU (lowV (wordV a)) (lowV (wordV b))) = maxU (lowV a) (lowV b) := by
  unfold maxU
  rw [low_word, low_word]
  split <;> exact low_low _
set_option maxHeartbeats 1000000 in
theorem rdo_60 (a b : Int) (ha : U64 a) (hb : U64 b) (W : World) : Calls Try.prog 14 #[.int .i64 60, (.int .u64 a), (.int .u64 b)] W fun e W' => e = .returned (.tuple #[.int .u64 (uV (a * b)), .bool true]) ∧ W = W' := by
  have hU := And.intro ha hb
  clear hU
  go_enter Try.func14, Try.ntmps14
  go_wp2
  go_ret2
  exact ⟨rfl, rfl⟩
set_option maxHeartbeats 1000000 in
theorem rdo_61 (a b : Int) (ha : U64 a) (hb : U64 b) (W : World) : Calls Try.prog 14 #[.int .i64 61, (.int .u64 a), (.int .u64 b)] W fun e W' => e = .returned (.tuple #[.int .u64 (uV (a * b / 18446744073709551616 - lessV a b - lessV b a)), .bool true]) ∧ W = W' := by
  have hU := And.intro ha hb
  clear hU
  go_enter Try.func14, Try.ntmps14
  go_wp2_with (first | (go_at_call 25; (with_reducible refine (high_tt_any a b ha hb _).mono ?_); rintro e w' ⟨rfl, rfl⟩) | fail)
  go_ret2
  exact ⟨rfl, rfl⟩
set_option maxHeartbeats 1000000 in
theorem rdo_62 (a b : Int) (ha : U64 a) (hb : U64 b) (W : World) : Calls Try.prog 14 #[.int .i64 62, (.int .u64 a), (.int .u64 b)] W fun e W' => e = .returned (.tuple #[.int .u64 (uV (a * b / 18446744073709551616 - lessV a b)), .bool true]) ∧ W = W' := by
  have hU := And.intro ha hb
  clear hU
  go_enter Try.func14, Try.ntmps14
  go_wp2_with (first | (go_at_call 25; (with_reducible refine (high_tf_any a b ha hb _).mono ?_); rintro e w' ⟨rfl, rfl⟩) | fail)
  go_ret2
  exact ⟨rfl, rfl⟩
set_option maxHeartbeats 1000000 in
theorem rdo_63 (a b : Int) (ha : U64 a) (hb : U64 b) (W : World) : Calls Try.prog 14 #[.int .i64 63, (.int .u64 a), (.int .u64 b)] W fun e W' => e = .returned (.tuple #[.int .u64 (a * b / 18446744073709551616), .bool true]) ∧ W = W' := by
  have hU := And.intro ha hb
  clear hU
  go_enter Try.func14, Try.ntmps14
  go_wp2_with (first | (go_at_call 25; (with_reducible refine (high_ff_oo a b ha hb _).mono ?_); rintro e w' ⟨rfl, rfl⟩) | fail)
  go_ret2
  exact ⟨rfl, rfl⟩
set_option maxHeartbeats 1000000 in
theorem rdo_64 (a b : Int) (ha : U64 a) (hb : U64 b) (W : World) : Calls Try.prog 14 #[.int .i64 64, (.int .u64 a), (.int .u64 b)] W fun e W' => e = .returned (.tuple #[.int .u64 (qsV a b), .bool true]) ∧ W = W' := by
  have hU := And.intro ha hb
  clear hU
  go_enter Try.func14, Try.ntmps14
  go_wp2_with (first | (go_at_call 26; (with_reducible refine (rdiv_any _ _ _).mono ?_); rintro e w' ⟨rfl, rfl⟩) | fail)
  go_ret2
  refine ⟨ret_pair ?_ rfl, rfl⟩
  exact div_same a b hb
set_option maxHeartbeats 1000000 in
theorem rdo_65 (a b : Int) (ha : U64 a) (hb : U64 b) (W : World) : Calls Try.prog 14 #[.int .i64 65, (.int .u64 a), (.int .u64 b)] W fun e W' => e = .returned (.tuple #[.int .u64 (quV a b), .bool true]) ∧ W = W' := by
  have hU := And.intro ha hb
  clear hU
  go_enter Try.func14, Try.ntmps14
  go_wp2_with (first | (go_at_call 27; (with_reducible refine (rdivu_any _ _ ha hb _).mono ?_); rintro e w' ⟨rfl, rfl⟩) | fail)
  go_ret2
  exact ⟨rfl, rfl⟩
set_option maxHeartbeats 1000000 in
theorem rdo_66 (a b : Int) (ha : U64 a) (hb : U64 b) (W : World) : Calls Try.prog 14 #[.int .i64 66, (.int .u64 a), (.int .u64 b)] W fun e W' => e = .returned (.tuple #[.int .u64 (rsV a b), .bool true]) ∧ W = W' := by
  have hU := And.intro ha hb
  clear hU
  go_enter Try.func14, Try.ntmps14
  go_wp2_with (first | (go_at_call 28; (with_reducible refine (rrem_any _ _ _).mono ?_); rintro e w' ⟨rfl, rfl⟩) | fail)
  go_ret2
  refine ⟨ret_pair ?_ rfl, rfl⟩
  exact rem_same a b ha hb
set_option maxHeartbeats 1000000 in
theorem rdo_67 (a b : Int) (ha : U64 a) (hb : U64 b) (W : World) : Calls Try.prog 14 #[.int .i64 67, (.int .u64 a), (.int .u64 b)] W fun e W' => e = .returned (.tuple #[.int .u64 (reV a b), .bool true]) ∧ W = W' := by
  have hU := And.intro ha hb
  clear hU
  go_enter Try.func14, Try.ntmps14
  go_wp2_with (first | (go_at_call 29; (with_reducible refine (rremu_any _ _ ha hb _).mono ?_); rintro e w' ⟨rfl, rfl⟩) | fail)
  go_ret2
  exact ⟨rfl, rfl⟩
set_option maxHeartbeats 1000000 in
theorem rdo_31 (a b : Int) (ha : U64 a) (hb : U64 b) (W : World) : Calls Try.prog 14 #[.int .i64 31, (.int .u64 a), (.int .u64 b)] W fun e W' => e = .returned (.tuple #[.int .u64 (uV (a + b)), .bool true]) ∧ W = W' := by
  have hU := And.intro ha hb
  clear hU
  go_enter Try.func14, Try.ntmps14
  go_wp2_with (first | (go_at_call 30; (with_reducible refine (rsums_31 a b ha hb _).mono ?_); rintro e w' ⟨rfl, rfl⟩) | fail)
  go_ret2
  exact ⟨rfl, rfl⟩
set_option maxHeartbeats 1000000 in
theorem rdo_22 (a b : Int) (ha : U64 a) (hb : U64 b) (W : World) : Calls Try.prog 14 #[.int .i64 22, (.int .u64 a), (.int .u64 b)] W fun e W' => e = .returned (.tuple #[.int .u64 (uV (a + b)), .bool true]) ∧ W = W' := by
  have hU := And.intro ha hb
  clear hU
  go_enter Try.func14, Try.ntmps14
  go_wp2_with (first | (go_at_call 30; (with_reducible refine (rsums_22 a b ha hb _).mono ?_); rintro e w' ⟨rfl, rfl⟩) | fail)
  go_ret2
  exact ⟨rfl, rfl⟩
set_option maxHeartbeats 1000000 in
theorem rdo_32 (a b : Int) (ha : U64 a) (hb : U64 b) (W : World) : Calls Try.prog 14 #[.int .i64 32, (.int .u64 a), (.int .u64 b)] W fun e W' => e = .returned (.tuple #[.int .u64 (uV (a - b)), .bool true]) ∧ W = W' := by
  have hU := And.intro ha hb
  clear hU
  go_enter Try.func14, Try.ntmps14
  go_wp2_with (first | (go_at_call 30; (with_reducible refine (rsums_32 a b ha hb _).mono ?_); rintro e w' ⟨rfl, rfl⟩) | fail)
  go_ret2
  exact ⟨rfl, rfl⟩
set_option maxHeartbeats 1000000 in
theorem rdo_33 (a b : Int) (ha : U64 a) (hb : U64 b) (W : World) : Calls Try.prog 14 #[.int .i64 33, (.int .u64 a), (.int .u64 b)] W fun e W' => e = .returned (.tuple #[.int .u64 (uV (a * 2 ^ (b % 64).toNat)), .bool true]) ∧ W = W' := by
  have hU := And.intro ha hb
  clear hU
  go_enter Try.func14, Try.ntmps14
  go_wp2_with (first | (go_at_call 30; (with_reducible refine (rsums_33 a b ha hb _).mono ?_); rintro e w' ⟨rfl, rfl⟩) | fail)
  go_ret2
  exact ⟨rfl, rfl⟩
set_option maxHeartbeats 1000000 in
theorem rdo_28 (a b : Int) (ha : U64 a) (hb : U64 b) (W : World) : Calls Try.prog 14 #[.int .i64 28, (.int .u64 a), (.int .u64 b)] W fun e W' => e = .returned (.tuple #[.int .u64 (uV (a * 2 ^ (b % 64).toNat)), .bool true]) ∧ W = W' := by
  have hU := And.intro ha hb
  clear hU
  go_enter Try.func14, Try.ntmps14
  go_wp2_with (first | (go_at_call 30; (with_reducible refine (rsums_28 a b ha hb _).mono ?_); rintro e w' ⟨rfl, rfl⟩) | fail)
  go_ret2
  exact ⟨rfl, rfl⟩
set_option maxHeartbeats 1000000 in
theorem rdo_37 (a b : Int) (ha : U64 a) (hb : U64 b) (W : World) : Calls Try.prog 14 #[.int .i64 37, (.int .u64 a), (.int .u64 b)] W fun e W' => e = .returned (.tuple #[.int .u64 (a / 2 ^ (b % 64).toNat), .bool true]) ∧ W = W' := by
  have hU := And.intro ha hb
  clear hU
  go_enter Try.func14, Try.ntmps14
  go_wp2_with (first | (go_at_call 30; (with_reducible refine (rsums_37 a b ha hb _).mono ?_); rintro e w' ⟨rfl, rfl⟩) | fail)
  go_ret2
  exact ⟨rfl, rfl⟩
set_option maxHeartbeats 1000000 in
theorem rdo_29 (a b : Int) (ha : U64 a) (hb : U64 b) (W : World) : Calls Try.prog 14 #[.int .i64 29, (.int .u64 a), (.int .u64 b)] W fun e W' => e = .returned (.tuple #[.int .u64 (a / 2 ^ (b % 64).toNat), .bool true]) ∧ W = W' := by
  have hU := And.intro ha hb
  clear hU
  go_enter Try.func14, Try.ntmps14
  go_wp2_with (first | (go_at_call 30; (with_reducible refine (rsums_29 a b ha hb _).mono ?_); rintro e w' ⟨rfl, rfl⟩) | fail)
  go_ret2
  exact ⟨rfl, rfl⟩
set_option maxHeartbeats 1000000 in
theorem rdo_38 (a b : Int) (ha : U64 a) (hb : U64 b) (W : World) : Calls Try.prog 14 #[.int .i64 38, (.int .u64 a), (.int .u64 b)] W fun e W' => e = .returned (.tuple #[.int .u64 (uV (wrap64 a / 2 ^ (b % 64).toNat)), .bool true]) ∧ W = W' := by
  have hU := And.intro ha hb
  clear hU
  go_enter Try.func14, Try.ntmps14
  go_wp2_with (first | (go_at_call 30; (with_reducible refine (rsums_38 a b ha hb _).mono ?_); rintro e w' ⟨rfl, rfl⟩) | fail)
  go_ret2
  exact ⟨rfl, rfl⟩
set_option maxHeartbeats 1000000 in
theorem rdo_30 (a b : Int) (ha : U64 a) (hb : U64 b) (W : World) : Calls Try.prog 14 #[.int .i64 30, (.int .u64 a), (.int .u64 b)] W fun e W' => e = .returned (.tuple #[.int .u64 (uV (wrap64 a / 2 ^ (b % 64).toNat)), .bool true]) ∧ W = W' := by
  have hU := And.intro ha hb
  clear hU
  go_enter Try.func14, Try.ntmps14
  go_wp2_with (first | (go_at_call 30; (with_reducible refine (rsums_30 a b ha hb _).mono ?_); rintro e w' ⟨rfl, rfl⟩) | fail)
  go_ret2
  exact ⟨rfl, rfl⟩
set_option maxHeartbeats 1000000 in
theorem rdo_34 (a b : Int) (ha : U64 a) (hb : U64 b) (W : World) : Calls Try.prog 14 #[.int .i64 34, (.int .u64 a), (.int .u64 b)] W fun e W' => e = .returned (.tuple #[.int .u64 (oneV (decide (wrap64 a < wrap64 b))), .bool true]) ∧ W = W' := by
  have hU := And.intro ha hb
  clear hU
  go_enter Try.func14, Try.ntmps14
  go_wp2_with (first | (go_at_call 30; (with_reducible refine (rsums_34 a b ha hb _).mono ?_); rintro e w' ⟨rfl, rfl⟩) | fail)
  go_ret2
  exact ⟨rfl, rfl⟩
set_option maxHeartbeats 1000000 in
theorem rdo_23 (a b : Int) (ha : U64 a) (hb : U64 b) (W : World) : Calls Try.prog 14 #[.int .i64 23, (.int .u64 a), (.int .u64 b)] W fun e W' => e = .returned (.tuple #[.int .u64 (oneV (decide (wrap64 a < wrap64 b))), .bool true]) ∧ W = W' := by
  have hU := And.intro ha hb
  clear hU
  go_enter Try.func14, Try.ntmps14
  go_wp2_with (first | (go_at_call 30; (with_reducible refine (rsums_23 a b ha hb _).mono ?_); rintro e w' ⟨rfl, rfl⟩) | fail)
  go_ret2
  exact ⟨rfl, rfl⟩
set_option maxHeartbeats 1000000 in
theorem rdo_35 (a b : Int) (ha : U64 a) (hb : U64 b) (W : World) : Calls Try.prog 14 #[.int .i64 35, (.int .u64 a), (.int .u64 b)] W fun e W' => e = .returned (.tuple #[.int .u64 (oneV (decide (a < b))), .bool true]) ∧ W = W' := by
  have hU := And.intro ha hb
  clear hU
  go_enter Try.func14, Try.ntmps14
  go_wp2_with (first | (go_at_call 30; (with_reducible refine (rsums_35 a b ha hb _).mono ?_); rintro e w' ⟨rfl, rfl⟩) | fail)
  go_ret2
  exact ⟨rfl, rfl⟩
set_option maxHeartbeats 1000000 in
theorem rdo_24 (a b : Int) (ha : U64 a) (hb : U64 b) (W : World) : Calls Try.prog 14 #[.int .i64 24, (.int .u64 a), (.int .u64 b)] W fun e W' => e = .returned (.tuple #[.int .u64 (oneV (decide (a < b))), .bool true]) ∧ W = W' := by
  have hU := And.intro ha hb
  clear hU
  go_enter Try.func14, Try.ntmps14
  go_wp2_with (first | (go_at_call 30; (with_reducible refine (rsums_24 a b ha hb _).mono ?_); rintro e w' ⟨rfl, rfl⟩) | fail)
  go_ret2
  exact ⟨rfl, rfl⟩
set_option maxHeartbeats 1000000 in
theorem rdo_36 (a b : Int) (ha : U64 a) (hb : U64 b) (W : World) : Calls Try.prog 14 #[.int .i64 36, (.int .u64 a), (.int .u64 b)] W fun e W' => e = .returned (.tuple #[.int .u64 (bits .xor .u64 a b), .bool true]) ∧ W = W' := by
  have hU := And.intro ha hb
  clear hU
  go_enter Try.func14, Try.ntmps14
  go_wp2_with (first | (go_at_call 30; (with_reducible refine (rsums_36 a b ha hb _).mono ?_); rintro e w' ⟨rfl, rfl⟩) | fail)
  go_ret2
  exact ⟨rfl, rfl⟩
set_option maxHeartbeats 1000000 in
theorem rdo_25 (a b : Int) (ha : U64 a) (hb : U64 b) (W : World) : Calls Try.prog 14 #[.int .i64 25, (.int .u64 a), (.int .u64 b)] W fun e W' => e = .returned (.tuple #[.int .u64 (bits .xor .u64 a b), .bool true]) ∧ W = W' := by
  have hU := And.intro ha hb
  clear hU
  go_enter Try.func14, Try.ntmps14
  go_wp2_with (first | (go_at_call 30; (with_reducible refine (rsums_25 a b ha hb _).mono ?_); rintro e w' ⟨rfl, rfl⟩) | fail)
  go_ret2
  exact ⟨rfl, rfl⟩
set_option maxHeartbeats 1000000 in
theorem rdo_39 (a b : Int) (ha : U64 a) (hb : U64 b) (W : World) : Calls Try.prog 14 #[.int .i64 39, (.int .u64 a), (.int .u64 b)] W fun e W' => e = .returned (.tuple #[.int .u64 (bits .or .u64 a b), .bool true]) ∧ W = W' := by
  have hU := And.intro ha hb
  clear hU
  go_enter Try.func14, Try.ntmps14
  go_wp2_with (first | (go_at_call 30; (with_reducible refine (rsums_39 a b ha hb _).mono ?_); rintro e w' ⟨rfl, rfl⟩) | fail)
  go_ret2
  exact ⟨rfl, rfl⟩
set_option maxHeartbeats 1000000 in
theorem rdo_26 (a b : Int) (ha : U64 a) (hb : U64 b) (W : World) : Calls Try.prog 14 #[.int .i64 26, (.int .u64 a), (.int .u64 b)] W fun e W' => e = .returned (.tuple #[.int .u64 (bits .or .u64 a b), .bool true]) ∧ W = W' := by
  have hU := And.intro ha hb
  clear hU
  go_enter Try.func14, Try.ntmps14
  go_wp2_with (first | (go_at_call 30; (with_reducible refine (rsums_26 a b ha hb _).mono ?_); rintro e w' ⟨rfl, rfl⟩) | fail)
  go_ret2
  exact ⟨rfl, rfl⟩
set_option maxHeartbeats 1000000 in
theorem rdo_40 (a b : Int) (ha : U64 a) (hb : U64 b) (W : World) : Calls Try.prog 14 #[.int .i64 40, (.int .u64 a), (.int .u64 b)] W fun e W' => e = .returned (.tuple #[.int .u64 (bits .and .u64 a b), .bool true]) ∧ W = W' := by
  have hU := And.intro ha hb
  clear hU
  go_enter Try.func14, Try.ntmps14
  go_wp2_with (first | (go_at_call 30; (with_reducible refine (rsums_40 a b ha hb _).mono ?_); rintro e w' ⟨rfl, rfl⟩) | fail)
  go_ret2
  exact ⟨rfl, rfl⟩
set_option maxHeartbeats 1000000 in
theorem rdo_27 (a b : Int) (ha : U64 a) (hb : U64 b) (W : World) : Calls Try.prog 14 #[.int .i64 27, (.int .u64 a), (.int .u64 b)] W fun e W' => e = .returned (.tuple #[.int .u64 (bits .and .u64 a b), .bool true]) ∧ W = W' := by
  have hU := And.intro ha hb
  clear hU
  go_enter Try.func14, Try.ntmps14
  go_wp2_with (first | (go_at_call 30; (with_reducible refine (rsums_27 a b ha hb _).mono ?_); rintro e w' ⟨rfl, rfl⟩) | fail)
  go_ret2
  exact ⟨rfl, rfl⟩
set_option maxHeartbeats 1000000 in
theorem rdo_45 (a b : Int) (ha : U64 a) (hb : U64 b) (W : World) : Calls Try.prog 14 #[.int .i64 45, (.int .u64 a), (.int .u64 b)] W fun e W' => e = .returned (.tuple #[.int .u64 (wordV (a + b)), .bool true]) ∧ W = W' := by
  have hU := And.intro ha hb
  clear hU
  go_enter Try.func14, Try.ntmps14
  go_wp2_with (first | (go_at_call 30; (with_reducible refine (rsums_none 45 a b (by decide) _).mono ?_); rintro e w' ⟨rfl, rfl⟩) | (go_at_call 31; (with_reducible refine (rwords_45 a b ha hb _).mono ?_); rintro e w' ⟨rfl, rfl⟩) | fail)
  go_ret2
  exact ⟨rfl, rfl⟩
set_option maxHeartbeats 1000000 in
theorem rdo_41 (a b : Int) (ha : U64 a) (hb : U64 b) (W : World) : Calls Try.prog 14 #[.int .i64 41, (.int .u64 a), (.int .u64 b)] W fun e W' => e = .returned (.tuple #[.int .u64 (wordV (a + b)), .bool true]) ∧ W = W' := by
  have hU := And.intro ha hb
  clear hU
  go_enter Try.func14, Try.ntmps14
  go_wp2_with (first | (go_at_call 30; (with_reducible refine (rsums_none 41 a b (by decide) _).mono ?_); rintro e w' ⟨rfl, rfl⟩) | (go_at_call 31; (with_reducible refine (rwords_41 a b ha hb _).mono ?_); rintro e w' ⟨rfl, rfl⟩) | fail)
  go_ret2
  exact ⟨rfl, rfl⟩
set_option maxHeartbeats 1000000 in
theorem rdo_46 (a b : Int) (ha : U64 a) (hb : U64 b) (W : World) : Calls Try.prog 14 #[.int .i64 46, (.int .u64 a), (.int .u64 b)] W fun e W' => e = .returned (.tuple #[.int .u64 (wordV (a - b)), .bool true]) ∧ W = W' := by
  have hU := And.intro ha hb
  clear hU
  go_enter Try.func14, Try.ntmps14
  go_wp2_with (first | (go_at_call 30; (with_reducible refine (rsums_none 46 a b (by decide) _).mono ?_); rintro e w' ⟨rfl, rfl⟩) | (go_at_call 31; (with_reducible refine (rwords_46 a b ha hb _).mono ?_); rintro e w' ⟨rfl, rfl⟩) | fail)
  go_ret2
  exact ⟨rfl, rfl⟩
set_option maxHeartbeats 1000000 in
theorem rdo_68 (a b : Int) (ha : U64 a) (hb : U64 b) (W : World) : Calls Try.prog 14 #[.int .i64 68, (.int .u64 a), (.int .u64 b)] W fun e W' => e = .returned (.tuple #[.int .u64 (wordV (a * b)), .bool true]) ∧ W = W' := by
  have hU := And.intro ha hb
  clear hU
  go_enter Try.func14, Try.ntmps14
  go_wp2_with (first | (go_at_call 30; (with_reducible refine (rsums_none 68 a b (by decide) _).mono ?_); rintro e w' ⟨rfl, rfl⟩) | (go_at_call 31; (with_reducible refine (rwords_68 a b ha hb _).mono ?_); rintro e w' ⟨rfl, rfl⟩) | fail)
  go_ret2
  exact ⟨rfl, rfl⟩
set_option maxHeartbeats 1000000 in
theorem rdo_47 (a b : Int) (ha : U64 a) (hb : U64 b) (W : World) : Calls Try.prog 14 #[.int .i64 47, (.int .u64 a), (.int .u64 b)] W fun e W' => e = .returned (.tuple #[.int .u64 (wordV (a * 2 ^ (b % 32).toNat)), .bool true]) ∧ W = W' := by
  have hU := And.intro ha hb
  clear hU
  go_enter Try.func14, Try.ntmps14
  go_wp2_with (first | (go_at_call 30; (with_reducible refine (rsums_none 47 a b (by decide) _).mono ?_); rintro e w' ⟨rfl, rfl⟩) | (go_at_call 31; (with_reducible refine (rwords_47 a b ha hb _).mono ?_); rintro e w' ⟨rfl, rfl⟩) | fail)
  go_ret2
  exact ⟨rfl, rfl⟩
set_option maxHeartbeats 1000000 in
theorem rdo_42 (a b : Int) (ha : U64 a) (hb : U64 b) (W : World) : Calls Try.prog 14 #[.int .i64 42, (.int .u64 a), (.int .u64 b)] W fun e W' => e = .returned (.tuple #[.int .u64 (wordV (a * 2 ^ (b % 32).toNat)), .bool true]) ∧ W = W' := by
  have hU := And.intro ha hb
  clear hU
  go_enter Try.func14, Try.ntmps14
  go_wp2_with (first | (go_at_call 30; (with_reducible refine (rsums_none 42 a b (by decide) _).mono ?_); rintro e w' ⟨rfl, rfl⟩) | (go_at_call 31; (with_reducible refine (rwords_42 a b ha hb _).mono ?_); rintro e w' ⟨rfl, rfl⟩) | fail)
  go_ret2
  exact ⟨rfl, rfl⟩
set_option maxHeartbeats 1000000 in
theorem rdo_48 (a b : Int) (ha : U64 a) (hb : U64 b) (W : World) : Calls Try.prog 14 #[.int .i64 48, (.int .u64 a), (.int .u64 b)] W fun e W' => e = .returned (.tuple #[.int .u64 (wordV (lowV a / 2 ^ (b % 32).toNat)), .bool true]) ∧ W = W' := by
  have hU := And.intro ha hb
  clear hU
  go_enter Try.func14, Try.ntmps14
  go_wp2_with (first | (go_at_call 30; (with_reducible refine (rsums_none 48 a b (by decide) _).mono ?_); rintro e w' ⟨rfl, rfl⟩) | (go_at_call 31; (with_reducible refine (rwords_48 a b ha hb _).mono ?_); rintro e w' ⟨rfl, rfl⟩) | fail)
  go_ret2
  exact ⟨rfl, rfl⟩
set_option maxHeartbeats 1000000 in
theorem rdo_43 (a b : Int) (ha : U64 a) (hb : U64 b) (W : World) : Calls Try.prog 14 #[.int .i64 43, (.int .u64 a), (.int .u64 b)] W fun e W' => e = .returned (.tuple #[.int .u64 (wordV (lowV a / 2 ^ (b % 32).toNat)), .bool true]) ∧ W = W' := by
  have hU := And.intro ha hb
  clear hU
  go_enter Try.func14, Try.ntmps14
  go_wp2_with (first | (go_at_call 30; (with_reducible refine (rsums_none 43 a b (by decide) _).mono ?_); rintro e w' ⟨rfl, rfl⟩) | (go_at_call 31; (with_reducible refine (rwords_43 a b ha hb _).mono ?_); rintro e w' ⟨rfl, rfl⟩) | fail)
  go_ret2
  exact ⟨rfl, rfl⟩
set_option maxHeartbeats 1000000 in
theorem rdo_49 (a b : Int) (ha : U64 a) (hb : U64 b) (W : World) : Calls Try.prog 14 #[.int .i64 49, (.int .u64 a), (.int .u64 b)] W fun e W' => e = .returned (.tuple #[.int .u64 (uV (wrap32 a / 2 ^ (b % 32).toNat)), .bool true]) ∧ W = W' := by
  have hU := And.intro ha hb
  clear hU
  go_enter Try.func14, Try.ntmps14
  go_wp2_with (first | (go_at_call 30; (with_reducible refine (rsums_none 49 a b (by decide) _).mono ?_); rintro e w' ⟨rfl, rfl⟩) | (go_at_call 31; (with_reducible refine (rwords_49 a b ha hb _).mono ?_); rintro e w' ⟨rfl, rfl⟩) | fail)
  go_ret2
  exact ⟨rfl, rfl⟩
set_option maxHeartbeats 1000000 in
theorem rdo_44 (a b : Int) (ha : U64 a) (hb : U64 b) (W : World) : Calls Try.prog 14 #[.int .i64 44, (.int .u64 a), (.int .u64 b)] W fun e W' => e = .returned (.tuple #[.int .u64 (uV (wrap32 a / 2 ^ (b % 32).toNat)), .bool true]) ∧ W = W' := by
  have hU := And.intro ha hb
  clear hU
  go_enter Try.func14, Try.ntmps14
  go_wp2_with (first | (go_at_call 30; (with_reducible refine (rsums_none 44 a b (by decide) _).mono ?_); rintro e w' ⟨rfl, rfl⟩) | (go_at_call 31; (with_reducible refine (rwords_44 a b ha hb _).mono ?_); rintro e w' ⟨rfl, rfl⟩) | fail)
  go_ret2
  exact ⟨rfl, rfl⟩
set_option maxHeartbeats 1000000 in
theorem rdo_69 (a b : Int) (ha : U64 a) (hb : U64 b) (W : World) : Calls Try.prog 14 #[.int .i64 69, (.int .u64 a), (.int .u64 b)] W fun e W' => e = .returned (.tuple #[.int .u64 (wordV (qsV (wordV a) (wordV b))), .bool true]) ∧ W = W' := by
  have hU := And.intro ha hb
  clear hU
  go_enter Try.func14, Try.ntmps14
  go_wp2_with (first | (go_at_call 30; (with_reducible refine (rsums_none 69 a b (by decide) _).mono ?_); rintro e w' ⟨rfl, rfl⟩) | (go_at_call 31; (with_reducible refine (rwords_69 a b ha hb _).mono ?_); rintro e w' ⟨rfl, rfl⟩) | fail)
  go_ret2
  exact ⟨rfl, rfl⟩
set_option maxHeartbeats 1000000 in
theorem rdo_70 (a b : Int) (ha : U64 a) (hb : U64 b) (W : World) : Calls Try.prog 14 #[.int .i64 70, (.int .u64 a), (.int .u64 b)] W fun e W' => e = .returned (.tuple #[.int .u64 (wordV (quV (lowV a) (lowV b))), .bool true]) ∧ W = W' := by
  have hU := And.intro ha hb
  clear hU
  go_enter Try.func14, Try.ntmps14
  go_wp2_with (first | (go_at_call 30; (with_reducible refine (rsums_none 70 a b (by decide) _).mono ?_); rintro e w' ⟨rfl, rfl⟩) | (go_at_call 31; (with_reducible refine (rwords_70 a b ha hb _).mono ?_); rintro e w' ⟨rfl, rfl⟩) | fail)
  go_ret2
  exact ⟨rfl, rfl⟩
set_option maxHeartbeats 1000000 in
theorem rdo_71 (a b : Int) (ha : U64 a) (hb : U64 b) (W : World) : Calls Try.prog 14 #[.int .i64 71, (.int .u64 a), (.int .u64 b)] W fun e W' => e = .returned (.tuple #[.int .u64 (wordV (rsV (wordV a) (wordV b))), .bool true]) ∧ W = W' := by
  have hU := And.intro ha hb
  clear hU
  go_enter Try.func14, Try.ntmps14
  go_wp2_with (first | (go_at_call 30; (with_reducible refine (rsums_none 71 a b (by decide) _).mono ?_); rintro e w' ⟨rfl, rfl⟩) | (go_at_call 31; (with_reducible refine (rwords_71 a b ha hb _).mono ?_); rintro e w' ⟨rfl, rfl⟩) | fail)
  go_ret2
  exact ⟨rfl, rfl⟩
set_option maxHeartbeats 1000000 in
theorem rdo_72 (a b : Int) (ha : U64 a) (hb : U64 b) (W : World) : Calls Try.prog 14 #[.int .i64 72, (.int .u64 a), (.int .u64 b)] W fun e W' => e = .returned (.tuple #[.int .u64 (wordV (reV (lowV a) (lowV b))), .bool true]) ∧ W = W' := by
  have hU := And.intro ha hb
  clear hU
  go_enter Try.func14, Try.ntmps14
  go_wp2_with (first | (go_at_call 30; (with_reducible refine (rsums_none 72 a b (by decide) _).mono ?_); rintro e w' ⟨rfl, rfl⟩) | (go_at_call 31; (with_reducible refine (rwords_72 a b ha hb _).mono ?_); rintro e w' ⟨rfl, rfl⟩) | fail)
  go_ret2
  exact ⟨rfl, rfl⟩
set_option maxHeartbeats 1000000 in
theorem rdo_none (op : Int) (a b : Int) (h : ∀ k ∈ ([31, 22, 32, 33, 28, 37, 29, 38, 30, 34, 23, 35, 24, 36, 25, 39, 26, 40, 27, 60, 61, 62, 63, 64, 65, 66, 67, 45, 41, 46, 68, 47, 42, 48, 43, 49, 44, 69, 70, 71, 72] : List Int), op ≠ k) (W : World) : Calls Try.prog 14 #[.int .i64 op, (.int .u64 a), (.int .u64 b)] W fun e W' => e = .returned (.tuple #[.int .u64 0, .bool false]) ∧ W = W' := by
  have h2 := Lib.hid (not_in h (M := [31, 22, 32, 33, 28, 37, 29, 38, 30, 34, 23, 35, 24, 36, 25, 39, 26, 40, 27]) (by decide))
  have h3 := Lib.hid (not_in h (M := [45, 41, 46, 68, 47, 42, 48, 43, 49, 44, 69, 70, 71, 72]) (by decide))
  have g60 : (op == 60) = false := by rw [beq_eq_false_iff_ne]; exact h 60 (by decide)
  have g61 : (op == 61) = false := by rw [beq_eq_false_iff_ne]; exact h 61 (by decide)
  have g62 : (op == 62) = false := by rw [beq_eq_false_iff_ne]; exact h 62 (by decide)
  have g63 : (op == 63) = false := by rw [beq_eq_false_iff_ne]; exact h 63 (by decide)
  have g64 : (op == 64) = false := by rw [beq_eq_false_iff_ne]; exact h 64 (by decide)
  have g65 : (op == 65) = false := by rw [beq_eq_false_iff_ne]; exact h 65 (by decide)
  have g66 : (op == 66) = false := by rw [beq_eq_false_iff_ne]; exact h 66 (by decide)
  have g67 : (op == 67) = false := by rw [beq_eq_false_iff_ne]; exact h 67 (by decide)
  clear h
  go_enter Try.func14, Try.ntmps14
  go_wp2_with (first | (go_at_call 30; (with_reducible refine (rsums_none op a b h2.out _).mono ?_); rintro e w' ⟨rfl, rfl⟩) | (go_at_call 31; (with_reducible refine (rwords_none op a b h3.out _).mono ?_); rintro e w' ⟨rfl, rfl⟩) | fail)
  go_ret2
  exact ⟨rfl, rfl⟩
set_option maxHeartbeats 1000000 in
theorem rbranch_5 (a b : Int) (W : World) : Calls Try.prog 16 #[.int .i64 5, (.int .u64 a), (.int .u64 b)] W fun e W' => e = .returned (.tuple #[.bool (a == b), .bool true]) ∧ W = W' := by
  go_enter Try.func16, Try.ntmps16
  go_wp2
  go_ret2
  exact ⟨rfl, rfl⟩
set_option maxHeartbeats 1000000 in
theorem rbranch_6 (a b : Int) (W : World) : Calls Try.prog 16 #[.int .i64 6, (.int .u64 a), (.int .u64 b)] W fun e W' => e = .returned (.tuple #[.bool (a != b), .bool true]) ∧ W = W' := by
  go_enter Try.func16, Try.ntmps16
  go_wp2
  go_ret2
  exact ⟨rfl, rfl⟩
set_option maxHeartbeats 1000000 in
theorem rbranch_7 (a b : Int) (W : World) : Calls Try.prog 16 #[.int .i64 7, (.int .u64 a), (.int .u64 b)] W fun e W' => e = .returned (.tuple #[.bool (decide (wrap64 a < wrap64 b)), .bool true]) ∧ W = W' := by
  go_enter Try.func16, Try.ntmps16
  go_wp2
  go_ret2
  exact ⟨rfl, rfl⟩
set_option maxHeartbeats 1000000 in
theorem rbranch_8 (a b : Int) (W : World) : Calls Try.prog 16 #[.int .i64 8, (.int .u64 a), (.int .u64 b)] W fun e W' => e = .returned (.tuple #[.bool (!decide (wrap64 a < wrap64 b)), .bool true]) ∧ W = W' := by
  go_enter Try.func16, Try.ntmps16
  go_wp2
  go_ret2
  refine ⟨?_, rfl⟩
  rw [show (!decide (wrap64 a < wrap64 b)) = decide (wrap64 b ≤ wrap64 a) by by_cases h : wrap64 a < wrap64 b <;> simp [h] <;> omega]
  rfl
set_option maxHeartbeats 1000000 in
theorem rbranch_9 (a b : Int) (W : World) : Calls Try.prog 16 #[.int .i64 9, (.int .u64 a), (.int .u64 b)] W fun e W' => e = .returned (.tuple #[.bool (decide (a < b)), .bool true]) ∧ W = W' := by
  go_enter Try.func16, Try.ntmps16
  go_wp2
  go_ret2
  exact ⟨rfl, rfl⟩
set_option maxHeartbeats 1000000 in
theorem rbranch_10 (a b : Int) (W : World) : Calls Try.prog 16 #[.int .i64 10, (.int .u64 a), (.int .u64 b)] W fun e W' => e = .returned (.tuple #[.bool (decide (b ≤ a)), .bool true]) ∧ W = W' := by
  go_enter Try.func16, Try.ntmps16
  go_wp2
  go_ret2
  exact ⟨rfl, rfl⟩
set_option maxHeartbeats 1000000 in
theorem rbranch_none (op : Int) (a b : Int) (h : ∀ k ∈ ([5, 6, 7, 8, 9, 10] : List Int), op ≠ k) (W : World) : Calls Try.prog 16 #[.int .i64 op, (.int .u64 a), (.int .u64 b)] W fun e W' => e = .returned (.tuple #[.bool false, .bool false]) ∧ W = W' := by
  have g5 : (op == 5) = false := by rw [beq_eq_false_iff_ne]; exact h 5 (by decide)
  have g6 : (op == 6) = false := by rw [beq_eq_false_iff_ne]; exact h 6 (by decide)
  have g7 : (op == 7) = false := by rw [beq_eq_false_iff_ne]; exact h 7 (by decide)
  have g8 : (op == 8) = false := by rw [beq_eq_false_iff_ne]; exact h 8 (by decide)
  have g9 : (op == 9) = false := by rw [beq_eq_false_iff_ne]; exact h 9 (by decide)
  have g10 : (op == 10) = false := by rw [beq_eq_false_iff_ne]; exact h 10 (by decide)
  clear h
  go_enter Try.func16, Try.ntmps16
  go_wp2
  go_ret2
  exact ⟨rfl, rfl⟩
set_option maxHeartbeats 1000000 in
theorem ramo_86 (a b : Int) (ha : U64 a) (hb : U64 b) (W : World) : Calls Try.prog 18 #[.int .i64 86, (.int .u64 a), (.int .u64 b)] W fun e W' => e = .returned (.tuple #[.int .u64 b, .bool true]) ∧ W = W' := by
  have hU := And.intro ha hb
  clear hU
  go_enter Try.func18, Try.ntmps18
  go_wp2
  go_ret2
  exact ⟨rfl, rfl⟩
set_option maxHeartbeats 1000000 in
theorem ramo_87 (a b : Int) (ha : U64 a) (hb : U64 b) (W : World) : Calls Try.prog 18 #[.int .i64 87, (.int .u64 a), (.int .u64 b)] W fun e W' => e = .returned (.tuple #[.int .u64 (uV (a + b)), .bool true]) ∧ W = W' := by
  have hU := And.intro ha hb
  clear hU
  go_enter Try.func18, Try.ntmps18
  go_wp2
  go_ret2
  exact ⟨rfl, rfl⟩
set_option maxHeartbeats 1000000 in
theorem ramo_88 (a b : Int) (ha : U64 a) (hb : U64 b) (W : World) : Calls Try.prog 18 #[.int .i64 88, (.int .u64 a), (.int .u64 b)] W fun e W' => e = .returned (.tuple #[.int .u64 (bits .xor .u64 a b), .bool true]) ∧ W = W' := by
  have hU := And.intro ha hb
  clear hU
  go_enter Try.func18, Try.ntmps18
  go_wp2
  go_ret2
  exact ⟨rfl, rfl⟩
set_option maxHeartbeats 1000000 in
theorem ramo_89 (a b : Int) (ha : U64 a) (hb : U64 b) (W : World) : Calls Try.prog 18 #[.int .i64 89, (.int .u64 a), (.int .u64 b)] W fun e W' => e = .returned (.tuple #[.int .u64 (bits .and .u64 a b), .bool true]) ∧ W = W' := by
  have hU := And.intro ha hb
  clear hU
  go_enter Try.func18, Try.ntmps18
  go_wp2
  go_ret2
  exact ⟨rfl, rfl⟩
set_option maxHeartbeats 1000000 in
theorem ramo_90 (a b : Int) (ha : U64 a) (hb : U64 b) (W : World) : Calls Try.prog 18 #[.int .i64 90, (.int .u64 a), (.int .u64 b)] W fun e W' => e = .returned (.tuple #[.int .u64 (bits .or .u64 a b), .bool true]) ∧ W = W' := by
  have hU := And.intro ha hb
  clear hU
  go_enter Try.func18, Try.ntmps18
  go_wp2
  go_ret2
  exact ⟨rfl, rfl⟩
set_option maxHeartbeats 1000000 in
theorem ramo_91y (a b : Int) (h : wrap64 a < wrap64 b) (W : World) : Calls Try.prog 18 #[.int .i64 91, (.int .u64 a), (.int .u64 b)] W fun e W' => e = .returned (.tuple #[.int .u64 a, .bool true]) ∧ W = W' := by
  go_enter Try.func18, Try.ntmps18
  go_wp2
  go_ret2
  exact ⟨rfl, rfl⟩
set_option maxHeartbeats 1000000 in
theorem ramo_91n (a b : Int) (h : ¬ wrap64 a < wrap64 b) (W : World) : Calls Try.prog 18 #[.int .i64 91, (.int .u64 a), (.int .u64 b)] W fun e W' => e = .returned (.tuple #[.int .u64 b, .bool true]) ∧ W = W' := by
  go_enter Try.func18, Try.ntmps18
  go_wp2
  go_ret2
  exact ⟨rfl, rfl⟩
theorem ramo_91 (a b : Int) (ha : U64 a) (hb : U64 b) (W : World) : Calls Try.prog 18 #[.int .i64 91, (.int .u64 a), (.int .u64 b)] W fun e W' => e = .returned (.tuple #[.int .u64 (minS a b), .bool true]) ∧ W = W' := by
  have hU := And.intro ha hb
  clear hU
  unfold minS
  by_cases h : wrap64 a < wrap64 b
  · rw [if_pos h]; exact ramo_91y a b h W
  · rw [if_neg h]; exact ramo_91n a b h W
set_option maxHeartbeats 1000000 in
theorem ramo_92y (a b : Int) (h : wrap64 b < wrap64 a) (W : World) : Calls Try.prog 18 #[.int .i64 92, (.int .u64 a), (.int .u64 b)] W fun e W' => e = .returned (.tuple #[.int .u64 a, .bool true]) ∧ W = W' := by
  go_enter Try.func18, Try.ntmps18
  go_wp2
  go_ret2
  exact ⟨rfl, rfl⟩
set_option maxHeartbeats 1000000 in
theorem ramo_92n (a b : Int) (h : ¬ wrap64 b < wrap64 a) (W : World) : Calls Try.prog 18 #[.int .i64 92, (.int .u64 a), (.int .u64 b)] W fun e W' => e = .returned (.tuple #[.int .u64 b, .bool true]) ∧ W = W' := by
  go_enter Try.func18, Try.ntmps18
  go_wp2
  go_ret2
  exact ⟨rfl, rfl⟩
theorem ramo_92 (a b : Int) (ha : U64 a) (hb : U64 b) (W : World) : Calls Try.prog 18 #[.int .i64 92, (.int .u64 a), (.int .u64 b)] W fun e W' => e = .returned (.tuple #[.int .u64 (maxS a b), .bool true]) ∧ W = W' := by
  have hU := And.intro ha hb
  clear hU
  unfold maxS
  by_cases h : wrap64 b < wrap64 a
  · rw [if_pos h]; exact ramo_92y a b h W
  · rw [if_neg h]; exact ramo_92n a b h W
set_option maxHeartbeats 1000000 in
theorem ramo_93 (a b : Int) (ha : U64 a) (hb : U64 b) (W : World) : Calls Try.prog 18 #[.int .i64 93, (.int .u64 a), (.int .u64 b)] W fun e W' => e = .returned (.tuple #[.int .u64 (minU a b), .bool true]) ∧ W = W' := by
  have hU := And.intro ha hb
  clear hU
  by_cases h : b < a
  · go_enter Try.func18, Try.ntmps18
    go_wp2
    go_ret2
    exact ⟨ret_pair (minU_y a b h) rfl, rfl⟩
  · have h := Int.not_lt.mp h
    go_enter Try.func18, Try.ntmps18
    go_wp2
    go_ret2
    exact ⟨ret_pair (minU_n a b h) rfl, rfl⟩
set_option maxHeartbeats 1000000 in
theorem ramo_94 (a b : Int) (ha : U64 a) (hb : U64 b) (W : World) : Calls Try.prog 18 #[.int .i64 94, (.int .u64 a), (.int .u64 b)] W fun e W' => e = .returned (.tuple #[.int .u64 (maxU a b), .bool true]) ∧ W = W' := by
  have hU := And.intro ha hb
  clear hU
  by_cases h : a < b
  · go_enter Try.func18, Try.ntmps18
    go_wp2
    go_ret2
    exact ⟨ret_pair (maxU_y a b h) rfl, rfl⟩
  · have h := Int.not_lt.mp h
    go_enter Try.func18, Try.ntmps18
    go_wp2
    go_ret2
    exact ⟨ret_pair (maxU_n a b h) rfl, rfl⟩
set_option maxHeartbeats 1000000 in
theorem ramo_75 (a b : Int) (ha : U64 a) (hb : U64 b) (W : World) : Calls Try.prog 18 #[.int .i64 75, (.int .u64 a), (.int .u64 b)] W fun e W' => e = .returned (.tuple #[.int .u64 (lowV b), .bool true]) ∧ W = W' := by
  have hU := And.intro ha hb
  clear hU
  go_enter Try.func18, Try.ntmps18
  go_wp2_with (first | (go_at_call 21; (with_reducible refine (rword_any _ _).mono ?_); rintro e w' ⟨rfl, rfl⟩) | (go_at_call 35; (with_reducible refine (rlow_any _ _).mono ?_); rintro e w' ⟨rfl, rfl⟩) | (go_at_call 18; (with_reducible refine (ramo_86 _ _ (u64_wordV _) (u64_wordV _) _).mono ?_); rintro e w' ⟨rfl, rfl⟩) | fail)
  go_ret2
  refine ⟨ret_pair ?_ rfl, rfl⟩
  exact low_word b
set_option maxHeartbeats 1000000 in
theorem ramo_76 (a b : Int) (ha : U64 a) (hb : U64 b) (W : World) : Calls Try.prog 18 #[.int .i64 76, (.int .u64 a), (.int .u64 b)] W fun e W' => e = .returned (.tuple #[.int .u64 (lowV (a + b)), .bool true]) ∧ W = W' := by
  have hU := And.intro ha hb
  clear hU
  go_enter Try.func18, Try.ntmps18
  go_wp2_with (first | (go_at_call 21; (with_reducible refine (rword_any _ _).mono ?_); rintro e w' ⟨rfl, rfl⟩) | (go_at_call 35; (with_reducible refine (rlow_any _ _).mono ?_); rintro e w' ⟨rfl, rfl⟩) | (go_at_call 18; (with_reducible refine (ramo_87 _ _ (u64_wordV _) (u64_wordV _) _).mono ?_); rintro e w' ⟨rfl, rfl⟩) | fail)
  go_ret2
  refine ⟨ret_pair ?_ rfl, rfl⟩
  simp only [lowV_eq, uV_eq, wordV_eq]
  omega
set_option maxHeartbeats 1000000 in
theorem ramo_77 (a b : Int) (ha : U64 a) (hb : U64 b) (W : World) : Calls Try.prog 18 #[.int .i64 77, (.int .u64 a), (.int .u64 b)] W fun e W' => e = .returned (.tuple #[.int .u64 (lowV (bits .xor .u64 a b)), .bool true]) ∧ W = W' := by
  have hU := And.intro ha hb
  clear hU
  go_enter Try.func18, Try.ntmps18
  go_wp2_with (first | (go_at_call 21; (with_reducible refine (rword_any _ _).mono ?_); rintro e w' ⟨rfl, rfl⟩) | (go_at_call 35; (with_reducible refine (rlow_any _ _).mono ?_); rintro e w' ⟨rfl, rfl⟩) | (go_at_call 18; (with_reducible refine (ramo_88 _ _ (u64_wordV _) (u64_wordV _) _).mono ?_); rintro e w' ⟨rfl, rfl⟩) | fail)
  go_ret2
  refine ⟨ret_pair ?_ rfl, rfl⟩
  exact low_xor (u64_wordV a) (u64_wordV b) ha hb (low_word a) (low_word b)
set_option maxHeartbeats 1000000 in
theorem ramo_78 (a b : Int) (ha : U64 a) (hb : U64 b) (W : World) : Calls Try.prog 18 #[.int .i64 78, (.int .u64 a), (.int .u64 b)] W fun e W' => e = .returned (.tuple #[.int .u64 (lowV (bits .and .u64 a b)), .bool true]) ∧ W = W' := by
  have hU := And.intro ha hb
  clear hU
  go_enter Try.func18, Try.ntmps18
  go_wp2_with (first | (go_at_call 21; (with_reducible refine (rword_any _ _).mono ?_); rintro e w' ⟨rfl, rfl⟩) | (go_at_call 35; (with_reducible refine (rlow_any _ _).mono ?_); rintro e w' ⟨rfl, rfl⟩) | (go_at_call 18; (with_reducible refine (ramo_89 _ _ (u64_wordV _) (u64_wordV _) _).mono ?_); rintro e w' ⟨rfl, rfl⟩) | fail)
  go_ret2
  refine ⟨ret_pair ?_ rfl, rfl⟩
  exact low_and (u64_wordV a) (u64_wordV b) ha hb (low_word a) (low_word b)
set_option maxHeartbeats 1000000 in
theorem ramo_79 (a b : Int) (ha : U64 a) (hb : U64 b) (W : World) : Calls Try.prog 18 #[.int .i64 79, (.int .u64 a), (.int .u64 b)] W fun e W' => e = .returned (.tuple #[.int .u64 (lowV (bits .or .u64 a b)), .bool true]) ∧ W = W' := by
  have hU := And.intro ha hb
  clear hU
  go_enter Try.func18, Try.ntmps18
  go_wp2_with (first | (go_at_call 21; (with_reducible refine (rword_any _ _).mono ?_); rintro e w' ⟨rfl, rfl⟩) | (go_at_call 35; (with_reducible refine (rlow_any _ _).mono ?_); rintro e w' ⟨rfl, rfl⟩) | (go_at_call 18; (with_reducible refine (ramo_90 _ _ (u64_wordV _) (u64_wordV _) _).mono ?_); rintro e w' ⟨rfl, rfl⟩) | fail)
  go_ret2
  refine ⟨ret_pair ?_ rfl, rfl⟩
  exact low_or (u64_wordV a) (u64_wordV b) ha hb (low_word a) (low_word b)
set_option maxHeartbeats 1000000 in
theorem ramo_80 (a b : Int) (ha : U64 a) (hb : U64 b) (W : World) : Calls Try.prog 18 #[.int .i64 80, (.int .u64 a), (.int .u64 b)] W fun e W' => e = .returned (.tuple #[.int .u64 (minT a b), .bool true]) ∧ W = W' := by
  have hU := And.intro ha hb
  clear hU
  go_enter Try.func18, Try.ntmps18
  go_wp2_with (first | (go_at_call 21; (with_reducible refine (rword_any _ _).mono ?_); rintro e w' ⟨rfl, rfl⟩) | (go_at_call 35; (with_reducible refine (rlow_any _ _).mono ?_); rintro e w' ⟨rfl, rfl⟩) | (go_at_call 18; (with_reducible refine (ramo_91 _ _ (u64_wordV _) (u64_wordV _) _).mono ?_); rintro e w' ⟨rfl, rfl⟩) | fail)
  go_ret2
  refine ⟨ret_pair ?_ rfl, rfl⟩
  exact low_minS a b
set_option maxHeartbeats 1000000 in
theorem ramo_81 (a b : Int) (ha : U64 a) (hb : U64 b) (W : World) : Calls Try.prog 18 #[.int .i64 81, (.int .u64 a), (.int .u64 b)] W fun e W' => e = .returned (.tuple #[.int .u64 (maxT a b), .bool true]) ∧ W = W' := by
  have hU := And.intro ha hb
  clear hU
  go_enter Try.func18, Try.ntmps18
  go_wp2_with (first | (go_at_call 21; (with_reducible refine (rword_any _ _).mono ?_); rintro e w' ⟨rfl, rfl⟩) | (go_at_call 35; (with_reducible refine (rlow_any _ _).mono ?_); rintro e w' ⟨rfl, rfl⟩) | (go_at_call 18; (with_reducible refine (ramo_92 _ _ (u64_wordV _) (u64_wordV _) _).mono ?_); rintro e w' ⟨rfl, rfl⟩) | fail)
  go_ret2
  refine ⟨ret_pair ?_ rfl, rfl⟩
  exact low_maxS a b
set_option maxHeartbeats 1000000 in
theorem ramo_82 (a b : Int) (ha : U64 a) (hb : U64 b) (W : World) : Calls Try.prog 18 #[.int .i64 82, (.int .u64 a), (.int .u64 b)] W fun e W' => e = .returned (.tuple #[.int .u64 (minU (lowV a) (lowV b)), .bool true]) ∧ W = W' := by
  have hU := And.intro ha hb
  clear hU
  go_enter Try.func18, Try.ntmps18
  go_wp2_with (first | (go_at_call 21; (with_reducible refine (rword_any _ _).mono ?_); rintro e w' ⟨rfl, rfl⟩) | (go_at_call 35; (with_reducible refine (rlow_any _ _).mono ?_); rintro e w' ⟨rfl, rfl⟩) | (go_at_call 18; (with_reducible refine (ramo_93 _ _ (u64_lowV _) (u64_lowV _) _).mono ?_); rintro e w' ⟨rfl, rfl⟩) | fail)
  go_ret2
  refine ⟨ret_pair ?_ rfl, rfl⟩
  exact low_minU a b
set_option maxHeartbeats 1000000 in
theorem ramo_83 (a b : Int) (ha : U64 a) (hb : U64 b) (W : World) : Calls Try.prog 18 #[.int .i64 83, (.int .u64 a), (.int .u64 b)] W fun e W' => e = .returned (.tuple #[.int .u64 (maxU (lowV a) (lowV b)), .bool true]) ∧ W = W' := by
  have hU := And.intro ha hb
  clear hU
  go_enter Try.func18, Try.ntmps18
  go_wp2_with (first | (go_at_call 21; (with_reducible refine (rword_any _ _).mono ?_); rintro e w' ⟨rfl, rfl⟩) | (go_at_call 35; (with_reducible refine (rlow_any _ _).mono ?_); rintro e w' ⟨rfl, rfl⟩) | (go_at_call 18; (with_reducible refine (ramo_94 _ _ (u64_lowV _) (u64_lowV _) _).mono ?_); rintro e w' ⟨rfl, rfl⟩) | fail)
  go_ret2
  refine ⟨ret_pair ?_ rfl, rfl⟩
  exact low_maxU a b
theorem out_of (op : Int) (h : ∀ k ∈ ([75, 76, 77, 78, 79, 80, 81, 82, 83] : List Int), op ≠ k) : op < 75 ∨ 83 < op := by
  have h1 := h 75 (by decide); have h2 := h 76 (by decide); have h3 := h 77 (by decide); have h4 := h 78 (by decide); have h5 := h 79 (by decide)
  have h6 := h 80 (by decide); have h7 := h 81 (by decide); have h8 := h 82 (by decide); have h9 := h 83 (by decide)
  omega
set_option maxHeartbeats 1000000 in
theorem ramo_none_lo (op : Int) (hop : op < 75) (a b : Int) (h : ∀ k ∈ ([86, 87, 88, 89, 90, 91, 92, 93, 94] : List Int), op ≠ k) (W : World) : Calls Try.prog 18 #[.int .i64 op, (.int .u64 a), (.int .u64 b)] W fun e W' => e = .returned (.tuple #[.int .u64 0, .bool false]) ∧ W = W' := by
  have g86 : (op == 86) = false := by rw [beq_eq_false_iff_ne]; exact h 86 (by decide)
  have g87 : (op == 87) = false := by rw [beq_eq_false_iff_ne]; exact h 87 (by decide)
  have g88 : (op == 88) = false := by rw [beq_eq_false_iff_ne]; exact h 88 (by decide)
  have g89 : (op == 89) = false := by rw [beq_eq_false_iff_ne]; exact h 89 (by decide)
  have g90 : (op == 90) = false := by rw [beq_eq_false_iff_ne]; exact h 90 (by decide)
  have g91 : (op == 91) = false := by rw [beq_eq_false_iff_ne]; exact h 91 (by decide)
  have g92 : (op == 92) = false := by rw [beq_eq_false_iff_ne]; exact h 92 (by decide)
  have g93 : (op == 93) = false := by rw [beq_eq_false_iff_ne]; exact h 93 (by decide)
  have g94 : (op == 94) = false := by rw [beq_eq_false_iff_ne]; exact h 94 (by decide)
  clear h
  have q1 : decide (75 ≤ op) = false := by simp; omega
  go_enter Try.func18, Try.ntmps18
  go_wp2
  go_ret2
  exact ⟨rfl, rfl⟩
set_option maxHeartbeats 1000000 in
theorem ramo_none_hi (op : Int) (hop : 83 < op) (a b : Int) (h : ∀ k ∈ ([86, 87, 88, 89, 90, 91, 92, 93, 94] : List Int), op ≠ k) (W : World) : Calls Try.prog 18 #[.int .i64 op, (.int .u64 a), (.int .u64 b)] W fun e W' => e = .returned (.tuple #[.int .u64 0, .bool false]) ∧ W = W' := by
  have g86 : (op == 86) = false := by rw [beq_eq_false_iff_ne]; exact h 86 (by decide)
  have g87 : (op == 87) = false := by rw [beq_eq_false_iff_ne]; exact h 87 (by decide)
  have g88 : (op == 88) = false := by rw [beq_eq_false_iff_ne]; exact h 88 (by decide)
  have g89 : (op == 89) = false := by rw [beq_eq_false_iff_ne]; exact h 89 (by decide)
  have g90 : (op == 90) = false := by rw [beq_eq_false_iff_ne]; exact h 90 (by decide)
  have g91 : (op == 91) = false := by rw [beq_eq_false_iff_ne]; exact h 91 (by decide)
  have g92 : (op == 92) = false := by rw [beq_eq_false_iff_ne]; exact h 92 (by decide)
  have g93 : (op == 93) = false := by rw [beq_eq_false_iff_ne]; exact h 93 (by decide)
  have g94 : (op == 94) = false := by rw [beq_eq_false_iff_ne]; exact h 94 (by decide)
  clear h
  have q1 : decide (75 ≤ op) = true := by simp; omega
  have q2 : decide (op ≤ 83) = false := by simp; omega
  go_enter Try.func18, Try.ntmps18
  go_wp2
  go_ret2
  exact ⟨rfl, rfl⟩
theorem ramo_none (op : Int) (a b : Int) (h : ∀ k ∈ ([86, 87, 88, 89, 90, 91, 92, 93, 94, 75, 76, 77, 78, 79, 80, 81, 82, 83] : List Int), op ≠ k) (W : World) : Calls Try.prog 18 #[.int .i64 op, (.int .u64 a), (.int .u64 b)] W fun e W' => e = .returned (.tuple #[.int .u64 0, .bool false]) ∧ W = W' := by
  rcases out_of op (not_in h (by decide)) with h1 | h1
  · exact ramo_none_lo op h1 a b (not_in h (by decide)) W
  · exact ramo_none_hi op h1 a b (not_in h (by decide)) W

end Go.Proofs.Ytfkkjgcglmglhaa
