/- AluAll and AluWords as calls. -/
import Derived.Test.YtfkkjgcglmglhaaK
import Derived.Test.YtfkkjgcglmglhaaG
namespace Go.Proofs.Ytfkkjgcglmglhaa
open Go.RowKit Go.Deep Go.Joins
set_option maxHeartbeats 2000000 in
theorem all_any (a b : Int) (ha : U64 a) (hb : U64 b) (W : World) : Calls Try.prog 4 #[(.int .u64 a), (.int .u64 b)] W fun e W' => e = .returned (.bool true) ∧ W = W' := by
  have HA := Lib.hid ha
  have HB := Lib.hid hb
  clear ha hb
  go_enter Try.func4, Try.ntmps4
  go_wp2_with (first | fail)
  go_loopw [5] (fun k wr => ∃ j : Nat, j ≤ 100 ∧ k = .int .i64 j ∧ RowKit.Hid (W = wr)) (fun k _ => 100 - (intOf k).toNat)
  case atStart => exact ⟨0, by omega, rfl, Lib.hid rfl⟩
  case round =>
    obtain ⟨j, hj, rfl, hw⟩ := hrel
    by_cases hlt : j < 100
    · go_wp2_with (first | (go_at_call 3; (with_reducible refine (tells_any j a b HA.out HB.out _).mono ?_); rintro e w' ⟨rfl, rfl⟩) | fail)
      go_roundw
      case rel => exact ⟨j + 1, by omega, by go_num, hw⟩
      case measure => simp [intOf]; omega
    · go_wp2_with (first | fail)
      go_ret
      exact ⟨rfl, hw.out⟩

theorem word_of_low {x y : Int} (h : lowV x = lowV y) : wordV x = wordV y := by
  have := lowV_eq x; have := lowV_eq y; have := wordV_eq x; have := wordV_eq y; omega
theorem T_of_low {x y : Int} (h : lowV x = lowV y) : wrap32 x = wrap32 y := by
  have := lowV_eq x; have := lowV_eq y; have := T_eq x; have := T_eq y; omega
theorem mod32_of_low {x y : Int} (h : lowV x = lowV y) : x % 32 = y % 32 := by
  have := lowV_eq x; have := lowV_eq y; omega
theorem low_add {a b c d : Int} (h1 : lowV a = lowV c) (h2 : lowV b = lowV d) : lowV (a + b) = lowV (c + d) := by
  have := lowV_eq a; have := lowV_eq b; have := lowV_eq c; have := lowV_eq d; have := lowV_eq (a + b); have := lowV_eq (c + d); omega
theorem low_sub {a b c d : Int} (h1 : lowV a = lowV c) (h2 : lowV b = lowV d) : lowV (a - b) = lowV (c - d) := by
  have := lowV_eq a; have := lowV_eq b; have := lowV_eq c; have := lowV_eq d; have := lowV_eq (a - b); have := lowV_eq (c - d); omega
theorem low_mul {a b c d : Int} (h1 : lowV a = lowV c) (h2 : lowV b = lowV d) : lowV (a * b) = lowV (c * d) := by
  rw [lowV_eq, lowV_eq] at h1 h2
  rw [lowV_eq, lowV_eq, Int.mul_emod, h1, h2, ← Int.mul_emod]
theorem word_word (x : Int) : wordV (wordV x) = wordV x := by
  have := wordV_eq x; have := wordV_eq (wordV x); omega
theorem ediv_bound (x : Int) (n : Nat) (hx : -2147483648 ≤ x ∧ x ≤ 2147483647) : -2147483648 ≤ x / 2 ^ n ∧ x / 2 ^ n ≤ 2147483647 := by
  have e : ((2 : Int) ^ n) = ((2 ^ n : Nat) : Int) := by rw [Int.natCast_pow]; rfl
  have hp := Nat.two_pow_pos n
  rw [e]
  generalize 2 ^ n = d at *
  rcases Int.le_total 0 x with h | h
  · obtain ⟨m, rfl⟩ := Int.eq_ofNat_of_zero_le h
    have := Nat.div_le_self m d
    rw [← Int.natCast_ediv]
    generalize m / d = q at *
    constructor <;> omega
  · by_cases h0 : x = 0
    · subst h0; simp
    obtain ⟨m, hm⟩ := Int.eq_ofNat_of_zero_le (show 0 ≤ -x - 1 by omega)
    have hx' : x = Int.negSucc m := by rw [Int.negSucc_eq]; omega
    have := Nat.div_le_self m d
    rw [hx', Int.negSucc_ediv m (by omega), show ((m : Int).ediv (d : Int)) = ((m / d : Nat) : Int) from rfl]
    generalize m / d = q at *
    constructor <;> omega
theorem T_bound (a : Int) : -2147483648 ≤ wrap32 a ∧ wrap32 a ≤ 2147483647 := by
  have := T_eq a; constructor <;> omega
theorem word_sra (a : Int) (n : Nat) : wordV (uV (wrap32 a / 2 ^ n)) = uV (wrap32 a / 2 ^ n) := by
  have h := ediv_bound (wrap32 a) n (T_bound a)
  generalize wrap32 a / 2 ^ n = q at *
  have := wordV_eq (uV q); have := uV_eq q; omega
theorem mix (a c : Int) (ha : U64 a) : U64 (bits .or .u64 (bits .and .u64 a 4294967295) (IntKind.u64.wrap (c * 4294967296))) ∧ lowV (bits .or .u64 (bits .and .u64 a 4294967295) (IntKind.u64.wrap (c * 4294967296))) = lowV a := by
  obtain ⟨a, rfl⟩ := Int.eq_ofNat_of_zero_le ha.1
  have h1 : a < 18446744073709551616 := by have := ha.2; omega
  have E := bits_and_u64_nat a 4294967295 h1 (by omega)
  have e : a &&& 4294967295 = a % 4294967296 := Nat.and_two_pow_sub_one_eq_mod a 32
  rw [e] at E
  rw [show bits .and .u64 (a : Int) 4294967295 = ((a % 4294967296 : Nat) : Int) from E]
  have hw : ∃ m : Nat, IntKind.u64.wrap (c * 4294967296) = (m : Int) ∧ m < 18446744073709551616 ∧ m % 4294967296 = 0 := by
    rw [IntKind.wrap_u64]
    exact ⟨(c * 4294967296 % 18446744073709551616).toNat, by omega, by omega, by omega⟩
  obtain ⟨m, hm, hm1, hm2⟩ := hw
  rw [hm, bits_or_u64_nat (a % 4294967296) m (by omega) hm1]
  have h3 : (a % 4294967296 ||| m) < 2 ^ 64 := Nat.or_lt_two_pow (by omega) hm1
  refine ⟨⟨by omega, by omega⟩, ?_⟩
  rw [low_nat, low_nat, Nat.or_mod_two_pow, show m % 2 ^ 32 = 0 from hm2, Nat.or_zero]
  omega
set_option maxHeartbeats 2000000 in
theorem words7_0 (k a b c d x A B : Int) (hk : k.tmod 14 = 0) (hA : bits .or .u64 (bits .and .u64 a 4294967295) (IntKind.u64.wrap (c * 4294967296)) = A) (hB : bits .or .u64 (bits .and .u64 b 4294967295) (IntKind.u64.wrap (d * 4294967296)) = B) (c0 : RowKit.Hid (∀ W, Calls Try.prog 13 #[.int .i64 45, (.int .u64 a), (.int .u64 b)] W fun e W' => e = .returned (.tuple #[.int .u64 x, .bool true]) ∧ W = W')) (c1 : RowKit.Hid (∀ W, Calls Try.prog 13 #[.int .i64 45, (.int .u64 A), (.int .u64 B)] W fun e W' => e = .returned (.tuple #[.int .u64 x, .bool true]) ∧ W = W')) (c2 : RowKit.Hid (∀ W, Calls Try.prog 11 #[(.int .u64 x)] W fun e W' => e = .returned (.int .u64 x) ∧ W = W')) (W : World) : Calls Try.prog 7 #[(.int .u64 k), (.int .u64 a), (.int .u64 b), (.int .u64 c), (.int .u64 d)] W fun e W' => e = .returned (.bool true) ∧ Below W.heap.size W W' := by
  go_enter Try.func7, Try.ntmps7
  go_wp2_with (first | (go_at_call 10; (with_reducible refine (awake_any _).mono ?_); rintro e w' ⟨rfl, rfl⟩) | (go_at_call 13; (with_reducible refine (c0.out _).mono ?_); rintro e w' ⟨rfl, rfl⟩) | (go_at_call 13; (with_reducible refine (c1.out _).mono ?_); rintro e w' ⟨rfl, rfl⟩) | (go_at_call 11; (with_reducible refine (c2.out _).mono ?_); rintro e w' ⟨rfl, rfl⟩) | fail)
  go_ret
  exact ⟨rfl, (Below.refl _ _).alloc (Nat.le_refl _) _⟩
set_option maxHeartbeats 2000000 in
theorem words7_1 (k a b c d x A B : Int) (hk : k.tmod 14 = 1) (hA : bits .or .u64 (bits .and .u64 a 4294967295) (IntKind.u64.wrap (c * 4294967296)) = A) (hB : bits .or .u64 (bits .and .u64 b 4294967295) (IntKind.u64.wrap (d * 4294967296)) = B) (c0 : RowKit.Hid (∀ W, Calls Try.prog 13 #[.int .i64 41, (.int .u64 a), (.int .u64 b)] W fun e W' => e = .returned (.tuple #[.int .u64 x, .bool true]) ∧ W = W')) (c1 : RowKit.Hid (∀ W, Calls Try.prog 13 #[.int .i64 41, (.int .u64 A), (.int .u64 B)] W fun e W' => e = .returned (.tuple #[.int .u64 x, .bool true]) ∧ W = W')) (c2 : RowKit.Hid (∀ W, Calls Try.prog 11 #[(.int .u64 x)] W fun e W' => e = .returned (.int .u64 x) ∧ W = W')) (W : World) : Calls Try.prog 7 #[(.int .u64 k), (.int .u64 a), (.int .u64 b), (.int .u64 c), (.int .u64 d)] W fun e W' => e = .returned (.bool true) ∧ Below W.heap.size W W' := by
  go_enter Try.func7, Try.ntmps7
  go_wp2_with (first | (go_at_call 10; (with_reducible refine (awake_any _).mono ?_); rintro e w' ⟨rfl, rfl⟩) | (go_at_call 13; (with_reducible refine (c0.out _).mono ?_); rintro e w' ⟨rfl, rfl⟩) | (go_at_call 13; (with_reducible refine (c1.out _).mono ?_); rintro e w' ⟨rfl, rfl⟩) | (go_at_call 11; (with_reducible refine (c2.out _).mono ?_); rintro e w' ⟨rfl, rfl⟩) | fail)
  go_ret
  exact ⟨rfl, (Below.refl _ _).alloc (Nat.le_refl _) _⟩
set_option maxHeartbeats 2000000 in
theorem words7_2 (k a b c d x A B : Int) (hk : k.tmod 14 = 2) (hA : bits .or .u64 (bits .and .u64 a 4294967295) (IntKind.u64.wrap (c * 4294967296)) = A) (hB : bits .or .u64 (bits .and .u64 b 4294967295) (IntKind.u64.wrap (d * 4294967296)) = B) (c0 : RowKit.Hid (∀ W, Calls Try.prog 13 #[.int .i64 46, (.int .u64 a), (.int .u64 b)] W fun e W' => e = .returned (.tuple #[.int .u64 x, .bool true]) ∧ W = W')) (c1 : RowKit.Hid (∀ W, Calls Try.prog 13 #[.int .i64 46, (.int .u64 A), (.int .u64 B)] W fun e W' => e = .returned (.tuple #[.int .u64 x, .bool true]) ∧ W = W')) (c2 : RowKit.Hid (∀ W, Calls Try.prog 11 #[(.int .u64 x)] W fun e W' => e = .returned (.int .u64 x) ∧ W = W')) (W : World) : Calls Try.prog 7 #[(.int .u64 k), (.int .u64 a), (.int .u64 b), (.int .u64 c), (.int .u64 d)] W fun e W' => e = .returned (.bool true) ∧ Below W.heap.size W W' := by
  go_enter Try.func7, Try.ntmps7
  go_wp2_with (first | (go_at_call 10; (with_reducible refine (awake_any _).mono ?_); rintro e w' ⟨rfl, rfl⟩) | (go_at_call 13; (with_reducible refine (c0.out _).mono ?_); rintro e w' ⟨rfl, rfl⟩) | (go_at_call 13; (with_reducible refine (c1.out _).mono ?_); rintro e w' ⟨rfl, rfl⟩) | (go_at_call 11; (with_reducible refine (c2.out _).mono ?_); rintro e w' ⟨rfl, rfl⟩) | fail)
  go_ret
  exact ⟨rfl, (Below.refl _ _).alloc (Nat.le_refl _) _⟩
set_option maxHeartbeats 2000000 in
theorem words7_3 (k a b c d x A B : Int) (hk : k.tmod 14 = 3) (hA : bits .or .u64 (bits .and .u64 a 4294967295) (IntKind.u64.wrap (c * 4294967296)) = A) (hB : bits .or .u64 (bits .and .u64 b 4294967295) (IntKind.u64.wrap (d * 4294967296)) = B) (c0 : RowKit.Hid (∀ W, Calls Try.prog 13 #[.int .i64 68, (.int .u64 a), (.int .u64 b)] W fun e W' => e = .returned (.tuple #[.int .u64 x, .bool true]) ∧ W = W')) (c1 : RowKit.Hid (∀ W, Calls Try.prog 13 #[.int .i64 68, (.int .u64 A), (.int .u64 B)] W fun e W' => e = .returned (.tuple #[.int .u64 x, .bool true]) ∧ W = W')) (c2 : RowKit.Hid (∀ W, Calls Try.prog 11 #[(.int .u64 x)] W fun e W' => e = .returned (.int .u64 x) ∧ W = W')) (W : World) : Calls Try.prog 7 #[(.int .u64 k), (.int .u64 a), (.int .u64 b), (.int .u64 c), (.int .u64 d)] W fun e W' => e = .returned (.bool true) ∧ Below W.heap.size W W' := by
  go_enter Try.func7, Try.ntmps7
  go_wp2_with (first | (go_at_call 10; (with_reducible refine (awake_any _).mono ?_); rintro e w' ⟨rfl, rfl⟩) | (go_at_call 13; (with_reducible refine (c0.out _).mono ?_); rintro e w' ⟨rfl, rfl⟩) | (go_at_call 13; (with_reducible refine (c1.out _).mono ?_); rintro e w' ⟨rfl, rfl⟩) | (go_at_call 11; (with_reducible refine (c2.out _).mono ?_); rintro e w' ⟨rfl, rfl⟩) | fail)
  go_ret
  exact ⟨rfl, (Below.refl _ _).alloc (Nat.le_refl _) _⟩
set_option maxHeartbeats 2000000 in
theorem words7_4 (k a b c d x A B : Int) (hk : k.tmod 14 = 4) (hA : bits .or .u64 (bits .and .u64 a 4294967295) (IntKind.u64.wrap (c * 4294967296)) = A) (hB : bits .or .u64 (bits .and .u64 b 4294967295) (IntKind.u64.wrap (d * 4294967296)) = B) (c0 : RowKit.Hid (∀ W, Calls Try.prog 13 #[.int .i64 47, (.int .u64 a), (.int .u64 b)] W fun e W' => e = .returned (.tuple #[.int .u64 x, .bool true]) ∧ W = W')) (c1 : RowKit.Hid (∀ W, Calls Try.prog 13 #[.int .i64 47, (.int .u64 A), (.int .u64 B)] W fun e W' => e = .returned (.tuple #[.int .u64 x, .bool true]) ∧ W = W')) (c2 : RowKit.Hid (∀ W, Calls Try.prog 11 #[(.int .u64 x)] W fun e W' => e = .returned (.int .u64 x) ∧ W = W')) (W : World) : Calls Try.prog 7 #[(.int .u64 k), (.int .u64 a), (.int .u64 b), (.int .u64 c), (.int .u64 d)] W fun e W' => e = .returned (.bool true) ∧ Below W.heap.size W W' := by
  go_enter Try.func7, Try.ntmps7
  go_wp2_with (first | (go_at_call 10; (with_reducible refine (awake_any _).mono ?_); rintro e w' ⟨rfl, rfl⟩) | (go_at_call 13; (with_reducible refine (c0.out _).mono ?_); rintro e w' ⟨rfl, rfl⟩) | (go_at_call 13; (with_reducible refine (c1.out _).mono ?_); rintro e w' ⟨rfl, rfl⟩) | (go_at_call 11; (with_reducible refine (c2.out _).mono ?_); rintro e w' ⟨rfl, rfl⟩) | fail)
  go_ret
  exact ⟨rfl, (Below.refl _ _).alloc (Nat.le_refl _) _⟩
set_option maxHeartbeats 2000000 in
theorem words7_5 (k a b c d x A B : Int) (hk : k.tmod 14 = 5) (hA : bits .or .u64 (bits .and .u64 a 4294967295) (IntKind.u64.wrap (c * 4294967296)) = A) (hB : bits .or .u64 (bits .and .u64 b 4294967295) (IntKind.u64.wrap (d * 4294967296)) = B) (c0 : RowKit.Hid (∀ W, Calls Try.prog 13 #[.int .i64 42, (.int .u64 a), (.int .u64 b)] W fun e W' => e = .returned (.tuple #[.int .u64 x, .bool true]) ∧ W = W')) (c1 : RowKit.Hid (∀ W, Calls Try.prog 13 #[.int .i64 42, (.int .u64 A), (.int .u64 B)] W fun e W' => e = .returned (.tuple #[.int .u64 x, .bool true]) ∧ W = W')) (c2 : RowKit.Hid (∀ W, Calls Try.prog 11 #[(.int .u64 x)] W fun e W' => e = .returned (.int .u64 x) ∧ W = W')) (W : World) : Calls Try.prog 7 #[(.int .u64 k), (.int .u64 a), (.int .u64 b), (.int .u64 c), (.int .u64 d)] W fun e W' => e = .returned (.bool true) ∧ Below W.heap.size W W' := by
  go_enter Try.func7, Try.ntmps7
  go_wp2_with (first | (go_at_call 10; (with_reducible refine (awake_any _).mono ?_); rintro e w' ⟨rfl, rfl⟩) | (go_at_call 13; (with_reducible refine (c0.out _).mono ?_); rintro e w' ⟨rfl, rfl⟩) | (go_at_call 13; (with_reducible refine (c1.out _).mono ?_); rintro e w' ⟨rfl, rfl⟩) | (go_at_call 11; (with_reducible refine (c2.out _).mono ?_); rintro e w' ⟨rfl, rfl⟩) | fail)
  go_ret
  exact ⟨rfl, (Below.refl _ _).alloc (Nat.le_refl _) _⟩
set_option maxHeartbeats 2000000 in
theorem words7_6 (k a b c d x A B : Int) (hk : k.tmod 14 = 6) (hA : bits .or .u64 (bits .and .u64 a 4294967295) (IntKind.u64.wrap (c * 4294967296)) = A) (hB : bits .or .u64 (bits .and .u64 b 4294967295) (IntKind.u64.wrap (d * 4294967296)) = B) (c0 : RowKit.Hid (∀ W, Calls Try.prog 13 #[.int .i64 48, (.int .u64 a), (.int .u64 b)] W fun e W' => e = .returned (.tuple #[.int .u64 x, .bool true]) ∧ W = W')) (c1 : RowKit.Hid (∀ W, Calls Try.prog 13 #[.int .i64 48, (.int .u64 A), (.int .u64 B)] W fun e W' => e = .returned (.tuple #[.int .u64 x, .bool true]) ∧ W = W')) (c2 : RowKit.Hid (∀ W, Calls Try.prog 11 #[(.int .u64 x)] W fun e W' => e = .returned (.int .u64 x) ∧ W = W')) (W : World) : Calls Try.prog 7 #[(.int .u64 k), (.int .u64 a), (.int .u64 b), (.int .u64 c), (.int .u64 d)] W fun e W' => e = .returned (.bool true) ∧ Below W.heap.size W W' := by
  go_enter Try.func7, Try.ntmps7
  go_wp2_with (first | (go_at_call 10; (with_reducible refine (awake_any _).mono ?_); rintro e w' ⟨rfl, rfl⟩) | (go_at_call 13; (with_reducible refine (c0.out _).mono ?_); rintro e w' ⟨rfl, rfl⟩) | (go_at_call 13; (with_reducible refine (c1.out _).mono ?_); rintro e w' ⟨rfl, rfl⟩) | (go_at_call 11; (with_reducible refine (c2.out _).mono ?_); rintro e w' ⟨rfl, rfl⟩) | fail)
  go_ret
  exact ⟨rfl, (Below.refl _ _).alloc (Nat.le_refl _) _⟩
set_option maxHeartbeats 2000000 in
theorem words7_7 (k a b c d x A B : Int) (hk : k.tmod 14 = 7) (hA : bits .or .u64 (bits .and .u64 a 4294967295) (IntKind.u64.wrap (c * 4294967296)) = A) (hB : bits .or .u64 (bits .and .u64 b 4294967295) (IntKind.u64.wrap (d * 4294967296)) = B) (c0 : RowKit.Hid (∀ W, Calls Try.prog 13 #[.int .i64 43, (.int .u64 a), (.int .u64 b)] W fun e W' => e = .returned (.tuple #[.int .u64 x, .bool true]) ∧ W = W')) (c1 : RowKit.Hid (∀ W, Calls Try.prog 13 #[.int .i64 43, (.int .u64 A), (.int .u64 B)] W fun e W' => e = .returned (.tuple #[.int .u64 x, .bool true]) ∧ W = W')) (c2 : RowKit.Hid (∀ W, Calls Try.prog 11 #[(.int .u64 x)] W fun e W' => e = .returned (.int .u64 x) ∧ W = W')) (W : World) : Calls Try.prog 7 #[(.int .u64 k), (.int .u64 a), (.int .u64 b), (.int .u64 c), (.int .u64 d)] W fun e W' => e = .returned (.bool true) ∧ Below W.heap.size W W' := by
  go_enter Try.func7, Try.ntmps7
  go_wp2_with (first | (go_at_call 10; (with_reducible refine (awake_any _).mono ?_); rintro e w' ⟨rfl, rfl⟩) | (go_at_call 13; (with_reducible refine (c0.out _).mono ?_); rintro e w' ⟨rfl, rfl⟩) | (go_at_call 13; (with_reducible refine (c1.out _).mono ?_); rintro e w' ⟨rfl, rfl⟩) | (go_at_call 11; (with_reducible refine (c2.out _).mono ?_); rintro e w' ⟨rfl, rfl⟩) | fail)
  go_ret
  exact ⟨rfl, (Below.refl _ _).alloc (Nat.le_refl _) _⟩
set_option maxHeartbeats 2000000 in
theorem words7_8 (k a b c d x A B : Int) (hk : k.tmod 14 = 8) (hA : bits .or .u64 (bits .and .u64 a 4294967295) (IntKind.u64.wrap (c * 4294967296)) = A) (hB : bits .or .u64 (bits .and .u64 b 4294967295) (IntKind.u64.wrap (d * 4294967296)) = B) (c0 : RowKit.Hid (∀ W, Calls Try.prog 13 #[.int .i64 49, (.int .u64 a), (.int .u64 b)] W fun e W' => e = .returned (.tuple #[.int .u64 x, .bool true]) ∧ W = W')) (c1 : RowKit.Hid (∀ W, Calls Try.prog 13 #[.int .i64 49, (.int .u64 A), (.int .u64 B)] W fun e W' => e = .returned (.tuple #[.int .u64 x, .bool true]) ∧ W = W')) (c2 : RowKit.Hid (∀ W, Calls Try.prog 11 #[(.int .u64 x)] W fun e W' => e = .returned (.int .u64 x) ∧ W = W')) (W : World) : Calls Try.prog 7 #[(.int .u64 k), (.int .u64 a), (.int .u64 b), (.int .u64 c), (.int .u64 d)] W fun e W' => e = .returned (.bool true) ∧ Below W.heap.size W W' := by
  go_enter Try.func7, Try.ntmps7
  go_wp2_with (first | (go_at_call 10; (with_reducible refine (awake_any _).mono ?_); rintro e w' ⟨rfl, rfl⟩) | (go_at_call 13; (with_reducible refine (c0.out _).mono ?_); rintro e w' ⟨rfl, rfl⟩) | (go_at_call 13; (with_reducible refine (c1.out _).mono ?_); rintro e w' ⟨rfl, rfl⟩) | (go_at_call 11; (with_reducible refine (c2.out _).mono ?_); rintro e w' ⟨rfl, rfl⟩) | fail)
  go_ret
  exact ⟨rfl, (Below.refl _ _).alloc (Nat.le_refl _) _⟩
set_option maxHeartbeats 2000000 in
theorem words7_9 (k a b c d x A B : Int) (hk : k.tmod 14 = 9) (hA : bits .or .u64 (bits .and .u64 a 4294967295) (IntKind.u64.wrap (c * 4294967296)) = A) (hB : bits .or .u64 (bits .and .u64 b 4294967295) (IntKind.u64.wrap (d * 4294967296)) = B) (c0 : RowKit.Hid (∀ W, Calls Try.prog 13 #[.int .i64 44, (.int .u64 a), (.int .u64 b)] W fun e W' => e = .returned (.tuple #[.int .u64 x, .bool true]) ∧ W = W')) (c1 : RowKit.Hid (∀ W, Calls Try.prog 13 #[.int .i64 44, (.int .u64 A), (.int .u64 B)] W fun e W' => e = .returned (.tuple #[.int .u64 x, .bool true]) ∧ W = W')) (c2 : RowKit.Hid (∀ W, Calls Try.prog 11 #[(.int .u64 x)] W fun e W' => e = .returned (.int .u64 x) ∧ W = W')) (W : World) : Calls Try.prog 7 #[(.int .u64 k), (.int .u64 a), (.int .u64 b), (.int .u64 c), (.int .u64 d)] W fun e W' => e = .returned (.bool true) ∧ Below W.heap.size W W' := by
  go_enter Try.func7, Try.ntmps7
  go_wp2_with (first | (go_at_call 10; (with_reducible refine (awake_any _).mono ?_); rintro e w' ⟨rfl, rfl⟩) | (go_at_call 13; (with_reducible refine (c0.out _).mono ?_); rintro e w' ⟨rfl, rfl⟩) | (go_at_call 13; (with_reducible refine (c1.out _).mono ?_); rintro e w' ⟨rfl, rfl⟩) | (go_at_call 11; (with_reducible refine (c2.out _).mono ?_); rintro e w' ⟨rfl, rfl⟩) | fail)
  go_ret
  exact ⟨rfl, (Below.refl _ _).alloc (Nat.le_refl _) _⟩
set_option maxHeartbeats 2000000 in
theorem words7_10 (k a b c d x A B : Int) (hk : k.tmod 14 = 10) (hA : bits .or .u64 (bits .and .u64 a 4294967295) (IntKind.u64.wrap (c * 4294967296)) = A) (hB : bits .or .u64 (bits .and .u64 b 4294967295) (IntKind.u64.wrap (d * 4294967296)) = B) (c0 : RowKit.Hid (∀ W, Calls Try.prog 13 #[.int .i64 69, (.int .u64 a), (.int .u64 b)] W fun e W' => e = .returned (.tuple #[.int .u64 x, .bool true]) ∧ W = W')) (c1 : RowKit.Hid (∀ W, Calls Try.prog 13 #[.int .i64 69, (.int .u64 A), (.int .u64 B)] W fun e W' => e = .returned (.tuple #[.int .u64 x, .bool true]) ∧ W = W')) (c2 : RowKit.Hid (∀ W, Calls Try.prog 11 #[(.int .u64 x)] W fun e W' => e = .returned (.int .u64 x) ∧ W = W')) (W : World) : Calls Try.prog 7 #[(.int .u64 k), (.int .u64 a), (.int .u64 b), (.int .u64 c), (.int .u64 d)] W fun e W' => e = .returned (.bool true) ∧ Below W.heap.size W W' := by
  go_enter Try.func7, Try.ntmps7
  go_wp2_with (first | (go_at_call 10; (with_reducible refine (awake_any _).mono ?_); rintro e w' ⟨rfl, rfl⟩) | (go_at_call 13; (with_reducible refine (c0.out _).mono ?_); rintro e w' ⟨rfl, rfl⟩) | (go_at_call 13; (with_reducible refine (c1.out _).mono ?_); rintro e w' ⟨rfl, rfl⟩) | (go_at_call 11; (with_reducible refine (c2.out _).mono ?_); rintro e w' ⟨rfl, rfl⟩) | fail)
  go_ret
  exact ⟨rfl, (Below.refl _ _).alloc (Nat.le_refl _) _⟩
set_option maxHeartbeats 2000000 in
theorem words7_11 (k a b c d x A B : Int) (hk : k.tmod 14 = 11) (hA : bits .or .u64 (bits .and .u64 a 4294967295) (IntKind.u64.wrap (c * 4294967296)) = A) (hB : bits .or .u64 (bits .and .u64 b 4294967295) (IntKind.u64.wrap (d * 4294967296)) = B) (c0 : RowKit.Hid (∀ W, Calls Try.prog 13 #[.int .i64 70, (.int .u64 a), (.int .u64 b)] W fun e W' => e = .returned (.tuple #[.int .u64 x, .bool true]) ∧ W = W')) (c1 : RowKit.Hid (∀ W, Calls Try.prog 13 #[.int .i64 70, (.int .u64 A), (.int .u64 B)] W fun e W' => e = .returned (.tuple #[.int .u64 x, .bool true]) ∧ W = W')) (c2 : RowKit.Hid (∀ W, Calls Try.prog 11 #[(.int .u64 x)] W fun e W' => e = .returned (.int .u64 x) ∧ W = W')) (W : World) : Calls Try.prog 7 #[(.int .u64 k), (.int .u64 a), (.int .u64 b), (.int .u64 c), (.int .u64 d)] W fun e W' => e = .returned (.bool true) ∧ Below W.heap.size W W' := by
  go_enter Try.func7, Try.ntmps7
  go_wp2_with (first | (go_at_call 10; (with_reducible refine (awake_any _).mono ?_); rintro e w' ⟨rfl, rfl⟩) | (go_at_call 13; (with_reducible refine (c0.out _).mono ?_); rintro e w' ⟨rfl, rfl⟩) | (go_at_call 13; (with_reducible refine (c1.out _).mono ?_); rintro e w' ⟨rfl, rfl⟩) | (go_at_call 11; (with_reducible refine (c2.out _).mono ?_); rintro e w' ⟨rfl, rfl⟩) | fail)
  go_ret
  exact ⟨rfl, (Below.refl _ _).alloc (Nat.le_refl _) _⟩
set_option maxHeartbeats 2000000 in
theorem words7_12 (k a b c d x A B : Int) (hk : k.tmod 14 = 12) (hA : bits .or .u64 (bits .and .u64 a 4294967295) (IntKind.u64.wrap (c * 4294967296)) = A) (hB : bits .or .u64 (bits .and .u64 b 4294967295) (IntKind.u64.wrap (d * 4294967296)) = B) (c0 : RowKit.Hid (∀ W, Calls Try.prog 13 #[.int .i64 71, (.int .u64 a), (.int .u64 b)] W fun e W' => e = .returned (.tuple #[.int .u64 x, .bool true]) ∧ W = W')) (c1 : RowKit.Hid (∀ W, Calls Try.prog 13 #[.int .i64 71, (.int .u64 A), (.int .u64 B)] W fun e W' => e = .returned (.tuple #[.int .u64 x, .bool true]) ∧ W = W')) (c2 : RowKit.Hid (∀ W, Calls Try.prog 11 #[(.int .u64 x)] W fun e W' => e = .returned (.int .u64 x) ∧ W = W')) (W : World) : Calls Try.prog 7 #[(.int .u64 k), (.int .u64 a), (.int .u64 b), (.int .u64 c), (.int .u64 d)] W fun e W' => e = .returned (.bool true) ∧ Below W.heap.size W W' := by
  go_enter Try.func7, Try.ntmps7
  go_wp2_with (first | (go_at_call 10; (with_reducible refine (awake_any _).mono ?_); rintro e w' ⟨rfl, rfl⟩) | (go_at_call 13; (with_reducible refine (c0.out _).mono ?_); rintro e w' ⟨rfl, rfl⟩) | (go_at_call 13; (with_reducible refine (c1.out _).mono ?_); rintro e w' ⟨rfl, rfl⟩) | (go_at_call 11; (with_reducible refine (c2.out _).mono ?_); rintro e w' ⟨rfl, rfl⟩) | fail)
  go_ret
  exact ⟨rfl, (Below.refl _ _).alloc (Nat.le_refl _) _⟩
set_option maxHeartbeats 2000000 in
theorem words7_13 (k a b c d x A B : Int) (hk : k.tmod 14 = 13) (hA : bits .or .u64 (bits .and .u64 a 4294967295) (IntKind.u64.wrap (c * 4294967296)) = A) (hB : bits .or .u64 (bits .and .u64 b 4294967295) (IntKind.u64.wrap (d * 4294967296)) = B) (c0 : RowKit.Hid (∀ W, Calls Try.prog 13 #[.int .i64 72, (.int .u64 a), (.int .u64 b)] W fun e W' => e = .returned (.tuple #[.int .u64 x, .bool true]) ∧ W = W')) (c1 : RowKit.Hid (∀ W, Calls Try.prog 13 #[.int .i64 72, (.int .u64 A), (.int .u64 B)] W fun e W' => e = .returned (.tuple #[.int .u64 x, .bool true]) ∧ W = W')) (c2 : RowKit.Hid (∀ W, Calls Try.prog 11 #[(.int .u64 x)] W fun e W' => e = .returned (.int .u64 x) ∧ W = W')) (W : World) : Calls Try.prog 7 #[(.int .u64 k), (.int .u64 a), (.int .u64 b), (.int .u64 c), (.int .u64 d)] W fun e W' => e = .returned (.bool true) ∧ Below W.heap.size W W' := by
  go_enter Try.func7, Try.ntmps7
  go_wp2_with (first | (go_at_call 10; (with_reducible refine (awake_any _).mono ?_); rintro e w' ⟨rfl, rfl⟩) | (go_at_call 13; (with_reducible refine (c0.out _).mono ?_); rintro e w' ⟨rfl, rfl⟩) | (go_at_call 13; (with_reducible refine (c1.out _).mono ?_); rintro e w' ⟨rfl, rfl⟩) | (go_at_call 11; (with_reducible refine (c2.out _).mono ?_); rintro e w' ⟨rfl, rfl⟩) | fail)
  go_ret
  exact ⟨rfl, (Below.refl _ _).alloc (Nat.le_refl _) _⟩
theorem words_any (k a b c d : Int) (hk : 0 ≤ k) (ha : U64 a) (hb : U64 b) (W : World) : Calls Try.prog 7 #[(.int .u64 k), (.int .u64 a), (.int .u64 b), (.int .u64 c), (.int .u64 d)] W fun e W' => e = .returned (.bool true) ∧ Below W.heap.size W W' := by
  obtain ⟨uA, hA⟩ := mix a c ha
  obtain ⟨uB, hB⟩ := mix b d hb
  generalize eA : bits .or .u64 (bits .and .u64 a 4294967295) (IntKind.u64.wrap (c * 4294967296)) = A at *
  generalize eB : bits .or .u64 (bits .and .u64 b 4294967295) (IntKind.u64.wrap (d * 4294967296)) = B at *
  have h14 : k.tmod 14 = 0 ∨ k.tmod 14 = 1 ∨ k.tmod 14 = 2 ∨ k.tmod 14 = 3 ∨ k.tmod 14 = 4 ∨ k.tmod 14 = 5 ∨ k.tmod 14 = 6 ∨ k.tmod 14 = 7 ∨ k.tmod 14 = 8 ∨ k.tmod 14 = 9 ∨ k.tmod 14 = 10 ∨ k.tmod 14 = 11 ∨ k.tmod 14 = 12 ∨ k.tmod 14 = 13 := by
    rw [Int.tmod_eq_emod_of_nonneg hk]; omega
  rcases h14 with h | h | h | h | h | h | h | h | h | h | h | h | h | h
  · exact words7_0 k a b c d _ A B h eA eB (hid_do (do_45 a b ha hb) rfl) (hid_do (do_45 A B uA uB) (word_of_low (low_add hA hB))) (Lib.hid fun W => by have h := word_any (wordV (a + b)) W; rw [word_word _] at h; exact h) W
  · exact words7_1 k a b c d _ A B h eA eB (hid_do (do_41 a b ha hb) rfl) (hid_do (do_41 A B uA uB) (word_of_low (low_add hA hB))) (Lib.hid fun W => by have h := word_any (wordV (a + b)) W; rw [word_word _] at h; exact h) W
  · exact words7_2 k a b c d _ A B h eA eB (hid_do (do_46 a b ha hb) rfl) (hid_do (do_46 A B uA uB) (word_of_low (low_sub hA hB))) (Lib.hid fun W => by have h := word_any (wordV (a - b)) W; rw [word_word _] at h; exact h) W
  · exact words7_3 k a b c d _ A B h eA eB (hid_do (do_68 a b ha hb) rfl) (hid_do (do_68 A B uA uB) (word_of_low (low_mul hA hB))) (Lib.hid fun W => by have h := word_any (wordV (a * b)) W; rw [word_word _] at h; exact h) W
  · exact words7_4 k a b c d _ A B h eA eB (hid_do (do_47 a b ha hb) rfl) (hid_do (do_47 A B uA uB) (by rw [mod32_of_low hB]; exact word_of_low (low_mul hA rfl))) (Lib.hid fun W => by have h := word_any (wordV (a * 2 ^ (b % 32).toNat)) W; rw [word_word _] at h; exact h) W
  · exact words7_5 k a b c d _ A B h eA eB (hid_do (do_42 a b ha hb) rfl) (hid_do (do_42 A B uA uB) (by rw [mod32_of_low hB]; exact word_of_low (low_mul hA rfl))) (Lib.hid fun W => by have h := word_any (wordV (a * 2 ^ (b % 32).toNat)) W; rw [word_word _] at h; exact h) W
  · exact words7_6 k a b c d _ A B h eA eB (hid_do (do_48 a b ha hb) rfl) (hid_do (do_48 A B uA uB) (by rw [mod32_of_low hB, hA])) (Lib.hid fun W => by have h := word_any (wordV (lowV a / 2 ^ (b % 32).toNat)) W; rw [word_word _] at h; exact h) W
  · exact words7_7 k a b c d _ A B h eA eB (hid_do (do_43 a b ha hb) rfl) (hid_do (do_43 A B uA uB) (by rw [mod32_of_low hB, hA])) (Lib.hid fun W => by have h := word_any (wordV (lowV a / 2 ^ (b % 32).toNat)) W; rw [word_word _] at h; exact h) W
  · exact words7_8 k a b c d _ A B h eA eB (hid_do (do_49 a b ha hb) rfl) (hid_do (do_49 A B uA uB) (by rw [mod32_of_low hB, T_of_low hA])) (Lib.hid fun W => by have h := word_any (uV (wrap32 a / 2 ^ (b % 32).toNat)) W; rw [word_sra a _] at h; exact h) W
  · exact words7_9 k a b c d _ A B h eA eB (hid_do (do_44 a b ha hb) rfl) (hid_do (do_44 A B uA uB) (by rw [mod32_of_low hB, T_of_low hA])) (Lib.hid fun W => by have h := word_any (uV (wrap32 a / 2 ^ (b % 32).toNat)) W; rw [word_sra a _] at h; exact h) W
  · exact words7_10 k a b c d _ A B h eA eB (hid_do (do_69 a b ha hb) rfl) (hid_do (do_69 A B uA uB) (by rw [word_of_low hA, word_of_low hB])) (Lib.hid fun W => by have h := word_any (wordV (qsV (wordV a) (wordV b))) W; rw [word_word _] at h; exact h) W
  · exact words7_11 k a b c d _ A B h eA eB (hid_do (do_70 a b ha hb) rfl) (hid_do (do_70 A B uA uB) (by rw [hA, hB])) (Lib.hid fun W => by have h := word_any (wordV (quV (lowV a) (lowV b))) W; rw [word_word _] at h; exact h) W
  · exact words7_12 k a b c d _ A B h eA eB (hid_do (do_71 a b ha hb) rfl) (hid_do (do_71 A B uA uB) (by rw [word_of_low hA, word_of_low hB])) (Lib.hid fun W => by have h := word_any (wordV (rsV (wordV a) (wordV b))) W; rw [word_word _] at h; exact h) W
  · exact words7_13 k a b c d _ A B h eA eB (hid_do (do_72 a b ha hb) rfl) (hid_do (do_72 A B uA uB) (by rw [hA, hB])) (Lib.hid fun W => by have h := word_any (wordV (reV (lowV a) (lowV b))) W; rw [word_word _] at h; exact h) W

end Go.Proofs.Ytfkkjgcglmglhaa
