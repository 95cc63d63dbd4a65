/- Do, Amo and Branch of the program. -/
import Derived.Test.YtfkkjgcglmglhaaC
namespace Go.Proofs.Ytfkkjgcglmglhaa
open Go.RowKit Go.Deep Go.Joins

def minU (a b : Int) : Int := if a < b then a else b
def maxU (a b : Int) : Int := if b < a then a else b
def minS (a b : Int) : Int := if wrap64 a < wrap64 b then a else b
def maxS (a b : Int) : Int := if wrap64 b < wrap64 a then a else b
def minT (a b : Int) : Int := if wrap32 a < wrap32 b then lowV a else lowV b
def maxT (a b : Int) : Int := if wrap32 b < wrap32 a then lowV a else lowV b
theorem minU_y (a b : Int) (h : b < a) : b = minU a b := by
  unfold minU
  split <;> omega
theorem minU_n (a b : Int) (h : a ≤ b) : a = minU a b := by
  unfold minU
  split <;> omega
theorem maxU_y (a b : Int) (h : a < b) : b = maxU a b := by
  unfold maxU
  split <;> omega
theorem maxU_n (a b : Int) (h : b ≤ a) : a = maxU a b := by
  unfold maxU
  split <;> omega
theorem minS_y (a b : Int) (ha : U64 a) (hb : U64 b) (h : wrap64 b < wrap64 a) : IntKind.u64.wrap (wrap64 b) = minS a b := by
  unfold minS
  have A := S_eq a; have B := S_eq b; have ha1 := ha.1; have ha2 := ha.2; have hb1 := hb.1; have hb2 := hb.2
  simp only [IntKind.wrap_u64]
  split <;> omega
theorem minS_n (a b : Int) (ha : U64 a) (hb : U64 b) (h : wrap64 a ≤ wrap64 b) : IntKind.u64.wrap (wrap64 a) = minS a b := by
  unfold minS
  have A := S_eq a; have B := S_eq b; have ha1 := ha.1; have ha2 := ha.2; have hb1 := hb.1; have hb2 := hb.2
  simp only [IntKind.wrap_u64]
  split <;> omega
theorem maxS_y (a b : Int) (ha : U64 a) (hb : U64 b) (h : wrap64 a < wrap64 b) : IntKind.u64.wrap (wrap64 b) = maxS a b := by
  unfold maxS
  have A := S_eq a; have B := S_eq b; have ha1 := ha.1; have ha2 := ha.2; have hb1 := hb.1; have hb2 := hb.2
  simp only [IntKind.wrap_u64]
  split <;> omega
theorem maxS_n (a b : Int) (ha : U64 a) (hb : U64 b) (h : wrap64 b ≤ wrap64 a) : IntKind.u64.wrap (wrap64 a) = maxS a b := by
  unfold maxS
  have A := S_eq a; have B := S_eq b; have ha1 := ha.1; have ha2 := ha.2; have hb1 := hb.1; have hb2 := hb.2
  simp only [IntKind.wrap_u64]
  split <;> omega
theorem minT_y (a b : Int) (h : wrap32 b < wrap32 a) : wrap32 b % 4294967296 = minT a b := by
  unfold minT
  have A := T_eq a; have B := T_eq b
  simp only [lowV_eq]
  split <;> omega
theorem minT_n (a b : Int) (h : wrap32 a ≤ wrap32 b) : wrap32 a % 4294967296 = minT a b := by
  unfold minT
  have A := T_eq a; have B := T_eq b
  simp only [lowV_eq]
  split <;> omega
theorem maxT_y (a b : Int) (h : wrap32 a < wrap32 b) : wrap32 b % 4294967296 = maxT a b := by
  unfold maxT
  have A := T_eq a; have B := T_eq b
  simp only [lowV_eq]
  split <;> omega
theorem maxT_n (a b : Int) (h : wrap32 b ≤ wrap32 a) : wrap32 a % 4294967296 = maxT a b := by
  unfold maxT
  have A := T_eq a; have B := T_eq b
  simp only [lowV_eq]
  split <;> omega
set_option maxHeartbeats 1000000 in
theorem do_31 (a b : Int) (ha : U64 a) (hb : U64 b) (W : World) : Calls Try.prog 13 #[.int .i64 31, (.int .u64 a), (.int .u64 b)] W fun e W' => e = .returned (.tuple #[.int .u64 (uV (a + b)), .bool true]) ∧ W = W' := by
  have hU := And.intro ha hb
  clear hU
  go_enter Try.func13, Try.ntmps13
  go_wp2_with (first | (go_at_call 22; (with_reducible refine (sum_31 a b ha hb _).mono ?_); rintro e w' ⟨rfl, rfl⟩) | fail)
  go_ret2
  exact ⟨rfl, rfl⟩
set_option maxHeartbeats 1000000 in
theorem do_22 (a b : Int) (ha : U64 a) (hb : U64 b) (W : World) : Calls Try.prog 13 #[.int .i64 22, (.int .u64 a), (.int .u64 b)] W fun e W' => e = .returned (.tuple #[.int .u64 (uV (a + b)), .bool true]) ∧ W = W' := by
  have hU := And.intro ha hb
  clear hU
  go_enter Try.func13, Try.ntmps13
  go_wp2_with (first | (go_at_call 22; (with_reducible refine (sum_22 a b ha hb _).mono ?_); rintro e w' ⟨rfl, rfl⟩) | fail)
  go_ret2
  exact ⟨rfl, rfl⟩
set_option maxHeartbeats 1000000 in
theorem do_32 (a b : Int) (ha : U64 a) (hb : U64 b) (W : World) : Calls Try.prog 13 #[.int .i64 32, (.int .u64 a), (.int .u64 b)] W fun e W' => e = .returned (.tuple #[.int .u64 (uV (a - b)), .bool true]) ∧ W = W' := by
  have hU := And.intro ha hb
  clear hU
  go_enter Try.func13, Try.ntmps13
  go_wp2_with (first | (go_at_call 22; (with_reducible refine (sum_32 a b ha hb _).mono ?_); rintro e w' ⟨rfl, rfl⟩) | fail)
  go_ret2
  exact ⟨rfl, rfl⟩
set_option maxHeartbeats 1000000 in
theorem do_33 (a b : Int) (ha : U64 a) (hb : U64 b) (W : World) : Calls Try.prog 13 #[.int .i64 33, (.int .u64 a), (.int .u64 b)] W fun e W' => e = .returned (.tuple #[.int .u64 (uV (a * 2 ^ (b % 64).toNat)), .bool true]) ∧ W = W' := by
  have hU := And.intro ha hb
  clear hU
  go_enter Try.func13, Try.ntmps13
  go_wp2_with (first | (go_at_call 22; (with_reducible refine (sum_33 a b ha hb _).mono ?_); rintro e w' ⟨rfl, rfl⟩) | fail)
  go_ret2
  exact ⟨rfl, rfl⟩
set_option maxHeartbeats 1000000 in
theorem do_28 (a b : Int) (ha : U64 a) (hb : U64 b) (W : World) : Calls Try.prog 13 #[.int .i64 28, (.int .u64 a), (.int .u64 b)] W fun e W' => e = .returned (.tuple #[.int .u64 (uV (a * 2 ^ (b % 64).toNat)), .bool true]) ∧ W = W' := by
  have hU := And.intro ha hb
  clear hU
  go_enter Try.func13, Try.ntmps13
  go_wp2_with (first | (go_at_call 22; (with_reducible refine (sum_28 a b ha hb _).mono ?_); rintro e w' ⟨rfl, rfl⟩) | fail)
  go_ret2
  exact ⟨rfl, rfl⟩
set_option maxHeartbeats 1000000 in
theorem do_37 (a b : Int) (ha : U64 a) (hb : U64 b) (W : World) : Calls Try.prog 13 #[.int .i64 37, (.int .u64 a), (.int .u64 b)] W fun e W' => e = .returned (.tuple #[.int .u64 (a / 2 ^ (b % 64).toNat), .bool true]) ∧ W = W' := by
  have hU := And.intro ha hb
  clear hU
  go_enter Try.func13, Try.ntmps13
  go_wp2_with (first | (go_at_call 22; (with_reducible refine (sum_37 a b ha hb _).mono ?_); rintro e w' ⟨rfl, rfl⟩) | fail)
  go_ret2
  exact ⟨rfl, rfl⟩
set_option maxHeartbeats 1000000 in
theorem do_29 (a b : Int) (ha : U64 a) (hb : U64 b) (W : World) : Calls Try.prog 13 #[.int .i64 29, (.int .u64 a), (.int .u64 b)] W fun e W' => e = .returned (.tuple #[.int .u64 (a / 2 ^ (b % 64).toNat), .bool true]) ∧ W = W' := by
  have hU := And.intro ha hb
  clear hU
  go_enter Try.func13, Try.ntmps13
  go_wp2_with (first | (go_at_call 22; (with_reducible refine (sum_29 a b ha hb _).mono ?_); rintro e w' ⟨rfl, rfl⟩) | fail)
  go_ret2
  exact ⟨rfl, rfl⟩
set_option maxHeartbeats 1000000 in
theorem do_38 (a b : Int) (ha : U64 a) (hb : U64 b) (W : World) : Calls Try.prog 13 #[.int .i64 38, (.int .u64 a), (.int .u64 b)] W fun e W' => e = .returned (.tuple #[.int .u64 (uV (wrap64 a / 2 ^ (b % 64).toNat)), .bool true]) ∧ W = W' := by
  have hU := And.intro ha hb
  clear hU
  go_enter Try.func13, Try.ntmps13
  go_wp2_with (first | (go_at_call 22; (with_reducible refine (sum_38 a b ha hb _).mono ?_); rintro e w' ⟨rfl, rfl⟩) | fail)
  go_ret2
  exact ⟨rfl, rfl⟩
set_option maxHeartbeats 1000000 in
theorem do_30 (a b : Int) (ha : U64 a) (hb : U64 b) (W : World) : Calls Try.prog 13 #[.int .i64 30, (.int .u64 a), (.int .u64 b)] W fun e W' => e = .returned (.tuple #[.int .u64 (uV (wrap64 a / 2 ^ (b % 64).toNat)), .bool true]) ∧ W = W' := by
  have hU := And.intro ha hb
  clear hU
  go_enter Try.func13, Try.ntmps13
  go_wp2_with (first | (go_at_call 22; (with_reducible refine (sum_30 a b ha hb _).mono ?_); rintro e w' ⟨rfl, rfl⟩) | fail)
  go_ret2
  exact ⟨rfl, rfl⟩
set_option maxHeartbeats 1000000 in
theorem do_34 (a b : Int) (ha : U64 a) (hb : U64 b) (W : World) : Calls Try.prog 13 #[.int .i64 34, (.int .u64 a), (.int .u64 b)] W fun e W' => e = .returned (.tuple #[.int .u64 (oneV (decide (wrap64 a < wrap64 b))), .bool true]) ∧ W = W' := by
  have hU := And.intro ha hb
  clear hU
  go_enter Try.func13, Try.ntmps13
  go_wp2_with (first | (go_at_call 22; (with_reducible refine (sum_34 a b ha hb _).mono ?_); rintro e w' ⟨rfl, rfl⟩) | fail)
  go_ret2
  exact ⟨rfl, rfl⟩
set_option maxHeartbeats 1000000 in
theorem do_23 (a b : Int) (ha : U64 a) (hb : U64 b) (W : World) : Calls Try.prog 13 #[.int .i64 23, (.int .u64 a), (.int .u64 b)] W fun e W' => e = .returned (.tuple #[.int .u64 (oneV (decide (wrap64 a < wrap64 b))), .bool true]) ∧ W = W' := by
  have hU := And.intro ha hb
  clear hU
  go_enter Try.func13, Try.ntmps13
  go_wp2_with (first | (go_at_call 22; (with_reducible refine (sum_23 a b ha hb _).mono ?_); rintro e w' ⟨rfl, rfl⟩) | fail)
  go_ret2
  exact ⟨rfl, rfl⟩
set_option maxHeartbeats 1000000 in
theorem do_35 (a b : Int) (ha : U64 a) (hb : U64 b) (W : World) : Calls Try.prog 13 #[.int .i64 35, (.int .u64 a), (.int .u64 b)] W fun e W' => e = .returned (.tuple #[.int .u64 (oneV (decide (a < b))), .bool true]) ∧ W = W' := by
  have hU := And.intro ha hb
  clear hU
  go_enter Try.func13, Try.ntmps13
  go_wp2_with (first | (go_at_call 22; (with_reducible refine (sum_35 a b ha hb _).mono ?_); rintro e w' ⟨rfl, rfl⟩) | fail)
  go_ret2
  exact ⟨rfl, rfl⟩
set_option maxHeartbeats 1000000 in
theorem do_24 (a b : Int) (ha : U64 a) (hb : U64 b) (W : World) : Calls Try.prog 13 #[.int .i64 24, (.int .u64 a), (.int .u64 b)] W fun e W' => e = .returned (.tuple #[.int .u64 (oneV (decide (a < b))), .bool true]) ∧ W = W' := by
  have hU := And.intro ha hb
  clear hU
  go_enter Try.func13, Try.ntmps13
  go_wp2_with (first | (go_at_call 22; (with_reducible refine (sum_24 a b ha hb _).mono ?_); rintro e w' ⟨rfl, rfl⟩) | fail)
  go_ret2
  exact ⟨rfl, rfl⟩
set_option maxHeartbeats 1000000 in
theorem do_36 (a b : Int) (ha : U64 a) (hb : U64 b) (W : World) : Calls Try.prog 13 #[.int .i64 36, (.int .u64 a), (.int .u64 b)] W fun e W' => e = .returned (.tuple #[.int .u64 (bits .xor .u64 a b), .bool true]) ∧ W = W' := by
  have hU := And.intro ha hb
  clear hU
  go_enter Try.func13, Try.ntmps13
  go_wp2_with (first | (go_at_call 22; (with_reducible refine (sum_36 a b ha hb _).mono ?_); rintro e w' ⟨rfl, rfl⟩) | fail)
  go_ret2
  exact ⟨rfl, rfl⟩
set_option maxHeartbeats 1000000 in
theorem do_25 (a b : Int) (ha : U64 a) (hb : U64 b) (W : World) : Calls Try.prog 13 #[.int .i64 25, (.int .u64 a), (.int .u64 b)] W fun e W' => e = .returned (.tuple #[.int .u64 (bits .xor .u64 a b), .bool true]) ∧ W = W' := by
  have hU := And.intro ha hb
  clear hU
  go_enter Try.func13, Try.ntmps13
  go_wp2_with (first | (go_at_call 22; (with_reducible refine (sum_25 a b ha hb _).mono ?_); rintro e w' ⟨rfl, rfl⟩) | fail)
  go_ret2
  exact ⟨rfl, rfl⟩
set_option maxHeartbeats 1000000 in
theorem do_39 (a b : Int) (ha : U64 a) (hb : U64 b) (W : World) : Calls Try.prog 13 #[.int .i64 39, (.int .u64 a), (.int .u64 b)] W fun e W' => e = .returned (.tuple #[.int .u64 (bits .or .u64 a b), .bool true]) ∧ W = W' := by
  have hU := And.intro ha hb
  clear hU
  go_enter Try.func13, Try.ntmps13
  go_wp2_with (first | (go_at_call 22; (with_reducible refine (sum_39 a b ha hb _).mono ?_); rintro e w' ⟨rfl, rfl⟩) | fail)
  go_ret2
  exact ⟨rfl, rfl⟩
set_option maxHeartbeats 1000000 in
theorem do_26 (a b : Int) (ha : U64 a) (hb : U64 b) (W : World) : Calls Try.prog 13 #[.int .i64 26, (.int .u64 a), (.int .u64 b)] W fun e W' => e = .returned (.tuple #[.int .u64 (bits .or .u64 a b), .bool true]) ∧ W = W' := by
  have hU := And.intro ha hb
  clear hU
  go_enter Try.func13, Try.ntmps13
  go_wp2_with (first | (go_at_call 22; (with_reducible refine (sum_26 a b ha hb _).mono ?_); rintro e w' ⟨rfl, rfl⟩) | fail)
  go_ret2
  exact ⟨rfl, rfl⟩
set_option maxHeartbeats 1000000 in
theorem do_40 (a b : Int) (ha : U64 a) (hb : U64 b) (W : World) : Calls Try.prog 13 #[.int .i64 40, (.int .u64 a), (.int .u64 b)] W fun e W' => e = .returned (.tuple #[.int .u64 (bits .and .u64 a b), .bool true]) ∧ W = W' := by
  have hU := And.intro ha hb
  clear hU
  go_enter Try.func13, Try.ntmps13
  go_wp2_with (first | (go_at_call 22; (with_reducible refine (sum_40 a b ha hb _).mono ?_); rintro e w' ⟨rfl, rfl⟩) | fail)
  go_ret2
  exact ⟨rfl, rfl⟩
set_option maxHeartbeats 1000000 in
theorem do_27 (a b : Int) (ha : U64 a) (hb : U64 b) (W : World) : Calls Try.prog 13 #[.int .i64 27, (.int .u64 a), (.int .u64 b)] W fun e W' => e = .returned (.tuple #[.int .u64 (bits .and .u64 a b), .bool true]) ∧ W = W' := by
  have hU := And.intro ha hb
  clear hU
  go_enter Try.func13, Try.ntmps13
  go_wp2_with (first | (go_at_call 22; (with_reducible refine (sum_27 a b ha hb _).mono ?_); rintro e w' ⟨rfl, rfl⟩) | fail)
  go_ret2
  exact ⟨rfl, rfl⟩
set_option maxHeartbeats 1000000 in
theorem do_60 (a b : Int) (ha : U64 a) (hb : U64 b) (W : World) : Calls Try.prog 13 #[.int .i64 60, (.int .u64 a), (.int .u64 b)] W fun e W' => e = .returned (.tuple #[.int .u64 (uV (a * b)), .bool true]) ∧ W = W' := by
  have hU := And.intro ha hb
  clear hU
  go_enter Try.func13, Try.ntmps13
  go_wp2_with (first | (go_at_call 22; (with_reducible refine (sum_none 60 a b (by decide) _).mono ?_); rintro e w' ⟨rfl, rfl⟩) | (go_at_call 23; (with_reducible refine (product_60 a b ha hb _).mono ?_); rintro e w' ⟨rfl, rfl⟩) | fail)
  go_ret2
  exact ⟨rfl, rfl⟩
set_option maxHeartbeats 1000000 in
theorem do_61 (a b : Int) (ha : U64 a) (hb : U64 b) (W : World) : Calls Try.prog 13 #[.int .i64 61, (.int .u64 a), (.int .u64 b)] W fun e W' => e = .returned (.tuple #[.int .u64 (uV (a * b / 18446744073709551616 - lessV a b - lessV b a)), .bool true]) ∧ W = W' := by
  have hU := And.intro ha hb
  clear hU
  go_enter Try.func13, Try.ntmps13
  go_wp2_with (first | (go_at_call 22; (with_reducible refine (sum_none 61 a b (by decide) _).mono ?_); rintro e w' ⟨rfl, rfl⟩) | (go_at_call 23; (with_reducible refine (product_61 a b ha hb _).mono ?_); rintro e w' ⟨rfl, rfl⟩) | fail)
  go_ret2
  exact ⟨rfl, rfl⟩
set_option maxHeartbeats 1000000 in
theorem do_62 (a b : Int) (ha : U64 a) (hb : U64 b) (W : World) : Calls Try.prog 13 #[.int .i64 62, (.int .u64 a), (.int .u64 b)] W fun e W' => e = .returned (.tuple #[.int .u64 (uV (a * b / 18446744073709551616 - lessV a b)), .bool true]) ∧ W = W' := by
  have hU := And.intro ha hb
  clear hU
  go_enter Try.func13, Try.ntmps13
  go_wp2_with (first | (go_at_call 22; (with_reducible refine (sum_none 62 a b (by decide) _).mono ?_); rintro e w' ⟨rfl, rfl⟩) | (go_at_call 23; (with_reducible refine (product_62 a b ha hb _).mono ?_); rintro e w' ⟨rfl, rfl⟩) | fail)
  go_ret2
  exact ⟨rfl, rfl⟩
set_option maxHeartbeats 1000000 in
theorem do_63 (a b : Int) (ha : U64 a) (hb : U64 b) (W : World) : Calls Try.prog 13 #[.int .i64 63, (.int .u64 a), (.int .u64 b)] W fun e W' => e = .returned (.tuple #[.int .u64 (a * b / 18446744073709551616), .bool true]) ∧ W = W' := by
  have hU := And.intro ha hb
  clear hU
  go_enter Try.func13, Try.ntmps13
  go_wp2_with (first | (go_at_call 22; (with_reducible refine (sum_none 63 a b (by decide) _).mono ?_); rintro e w' ⟨rfl, rfl⟩) | (go_at_call 23; (with_reducible refine (product_63 a b ha hb _).mono ?_); rintro e w' ⟨rfl, rfl⟩) | fail)
  go_ret2
  exact ⟨rfl, rfl⟩
set_option maxHeartbeats 1000000 in
theorem do_64 (a b : Int) (ha : U64 a) (hb : U64 b) (W : World) : Calls Try.prog 13 #[.int .i64 64, (.int .u64 a), (.int .u64 b)] W fun e W' => e = .returned (.tuple #[.int .u64 (qsV a b), .bool true]) ∧ W = W' := by
  have hU := And.intro ha hb
  clear hU
  go_enter Try.func13, Try.ntmps13
  go_wp2_with (first | (go_at_call 22; (with_reducible refine (sum_none 64 a b (by decide) _).mono ?_); rintro e w' ⟨rfl, rfl⟩) | (go_at_call 23; (with_reducible refine (product_64 a b ha hb _).mono ?_); rintro e w' ⟨rfl, rfl⟩) | fail)
  go_ret2
  exact ⟨rfl, rfl⟩
set_option maxHeartbeats 1000000 in
theorem do_65 (a b : Int) (ha : U64 a) (hb : U64 b) (W : World) : Calls Try.prog 13 #[.int .i64 65, (.int .u64 a), (.int .u64 b)] W fun e W' => e = .returned (.tuple #[.int .u64 (quV a b), .bool true]) ∧ W = W' := by
  have hU := And.intro ha hb
  clear hU
  go_enter Try.func13, Try.ntmps13
  go_wp2_with (first | (go_at_call 22; (with_reducible refine (sum_none 65 a b (by decide) _).mono ?_); rintro e w' ⟨rfl, rfl⟩) | (go_at_call 23; (with_reducible refine (product_65 a b ha hb _).mono ?_); rintro e w' ⟨rfl, rfl⟩) | fail)
  go_ret2
  exact ⟨rfl, rfl⟩
set_option maxHeartbeats 1000000 in
theorem do_66 (a b : Int) (ha : U64 a) (hb : U64 b) (W : World) : Calls Try.prog 13 #[.int .i64 66, (.int .u64 a), (.int .u64 b)] W fun e W' => e = .returned (.tuple #[.int .u64 (rsV a b), .bool true]) ∧ W = W' := by
  have hU := And.intro ha hb
  clear hU
  go_enter Try.func13, Try.ntmps13
  go_wp2_with (first | (go_at_call 22; (with_reducible refine (sum_none 66 a b (by decide) _).mono ?_); rintro e w' ⟨rfl, rfl⟩) | (go_at_call 23; (with_reducible refine (product_66 a b ha hb _).mono ?_); rintro e w' ⟨rfl, rfl⟩) | fail)
  go_ret2
  exact ⟨rfl, rfl⟩
set_option maxHeartbeats 1000000 in
theorem do_67 (a b : Int) (ha : U64 a) (hb : U64 b) (W : World) : Calls Try.prog 13 #[.int .i64 67, (.int .u64 a), (.int .u64 b)] W fun e W' => e = .returned (.tuple #[.int .u64 (reV a b), .bool true]) ∧ W = W' := by
  have hU := And.intro ha hb
  clear hU
  go_enter Try.func13, Try.ntmps13
  go_wp2_with (first | (go_at_call 22; (with_reducible refine (sum_none 67 a b (by decide) _).mono ?_); rintro e w' ⟨rfl, rfl⟩) | (go_at_call 23; (with_reducible refine (product_67 a b ha hb _).mono ?_); rintro e w' ⟨rfl, rfl⟩) | fail)
  go_ret2
  exact ⟨rfl, rfl⟩
set_option maxHeartbeats 1000000 in
theorem do_45 (a b : Int) (ha : U64 a) (hb : U64 b) (W : World) : Calls Try.prog 13 #[.int .i64 45, (.int .u64 a), (.int .u64 b)] W fun e W' => e = .returned (.tuple #[.int .u64 (wordV (a + b)), .bool true]) ∧ W = W' := by
  have hU := And.intro ha hb
  clear hU
  go_enter Try.func13, Try.ntmps13
  go_wp2_with (first | (go_at_call 22; (with_reducible refine (sum_none 45 a b (by decide) _).mono ?_); rintro e w' ⟨rfl, rfl⟩) | (go_at_call 23; (with_reducible refine (product_none 45 a b (by decide) _).mono ?_); rintro e w' ⟨rfl, rfl⟩) | (go_at_call 24; (with_reducible refine (words_45 a b ha hb _).mono ?_); rintro e w' ⟨rfl, rfl⟩) | fail)
  go_ret2
  exact ⟨rfl, rfl⟩
set_option maxHeartbeats 1000000 in
theorem do_41 (a b : Int) (ha : U64 a) (hb : U64 b) (W : World) : Calls Try.prog 13 #[.int .i64 41, (.int .u64 a), (.int .u64 b)] W fun e W' => e = .returned (.tuple #[.int .u64 (wordV (a + b)), .bool true]) ∧ W = W' := by
  have hU := And.intro ha hb
  clear hU
  go_enter Try.func13, Try.ntmps13
  go_wp2_with (first | (go_at_call 22; (with_reducible refine (sum_none 41 a b (by decide) _).mono ?_); rintro e w' ⟨rfl, rfl⟩) | (go_at_call 23; (with_reducible refine (product_none 41 a b (by decide) _).mono ?_); rintro e w' ⟨rfl, rfl⟩) | (go_at_call 24; (with_reducible refine (words_41 a b ha hb _).mono ?_); rintro e w' ⟨rfl, rfl⟩) | fail)
  go_ret2
  exact ⟨rfl, rfl⟩
set_option maxHeartbeats 1000000 in
theorem do_46 (a b : Int) (ha : U64 a) (hb : U64 b) (W : World) : Calls Try.prog 13 #[.int .i64 46, (.int .u64 a), (.int .u64 b)] W fun e W' => e = .returned (.tuple #[.int .u64 (wordV (a - b)), .bool true]) ∧ W = W' := by
  have hU := And.intro ha hb
  clear hU
  go_enter Try.func13, Try.ntmps13
  go_wp2_with (first | (go_at_call 22; (with_reducible refine (sum_none 46 a b (by decide) _).mono ?_); rintro e w' ⟨rfl, rfl⟩) | (go_at_call 23; (with_reducible refine (product_none 46 a b (by decide) _).mono ?_); rintro e w' ⟨rfl, rfl⟩) | (go_at_call 24; (with_reducible refine (words_46 a b ha hb _).mono ?_); rintro e w' ⟨rfl, rfl⟩) | fail)
  go_ret2
  exact ⟨rfl, rfl⟩
set_option maxHeartbeats 1000000 in
theorem do_68 (a b : Int) (ha : U64 a) (hb : U64 b) (W : World) : Calls Try.prog 13 #[.int .i64 68, (.int .u64 a), (.int .u64 b)] W fun e W' => e = .returned (.tuple #[.int .u64 (wordV (a * b)), .bool true]) ∧ W = W' := by
  have hU := And.intro ha hb
  clear hU
  go_enter Try.func13, Try.ntmps13
  go_wp2_with (first | (go_at_call 22; (with_reducible refine (sum_none 68 a b (by decide) _).mono ?_); rintro e w' ⟨rfl, rfl⟩) | (go_at_call 23; (with_reducible refine (product_none 68 a b (by decide) _).mono ?_); rintro e w' ⟨rfl, rfl⟩) | (go_at_call 24; (with_reducible refine (words_68 a b ha hb _).mono ?_); rintro e w' ⟨rfl, rfl⟩) | fail)
  go_ret2
  exact ⟨rfl, rfl⟩
set_option maxHeartbeats 1000000 in
theorem do_47 (a b : Int) (ha : U64 a) (hb : U64 b) (W : World) : Calls Try.prog 13 #[.int .i64 47, (.int .u64 a), (.int .u64 b)] W fun e W' => e = .returned (.tuple #[.int .u64 (wordV (a * 2 ^ (b % 32).toNat)), .bool true]) ∧ W = W' := by
  have hU := And.intro ha hb
  clear hU
  go_enter Try.func13, Try.ntmps13
  go_wp2_with (first | (go_at_call 22; (with_reducible refine (sum_none 47 a b (by decide) _).mono ?_); rintro e w' ⟨rfl, rfl⟩) | (go_at_call 23; (with_reducible refine (product_none 47 a b (by decide) _).mono ?_); rintro e w' ⟨rfl, rfl⟩) | (go_at_call 24; (with_reducible refine (words_47 a b ha hb _).mono ?_); rintro e w' ⟨rfl, rfl⟩) | fail)
  go_ret2
  exact ⟨rfl, rfl⟩
set_option maxHeartbeats 1000000 in
theorem do_42 (a b : Int) (ha : U64 a) (hb : U64 b) (W : World) : Calls Try.prog 13 #[.int .i64 42, (.int .u64 a), (.int .u64 b)] W fun e W' => e = .returned (.tuple #[.int .u64 (wordV (a * 2 ^ (b % 32).toNat)), .bool true]) ∧ W = W' := by
  have hU := And.intro ha hb
  clear hU
  go_enter Try.func13, Try.ntmps13
  go_wp2_with (first | (go_at_call 22; (with_reducible refine (sum_none 42 a b (by decide) _).mono ?_); rintro e w' ⟨rfl, rfl⟩) | (go_at_call 23; (with_reducible refine (product_none 42 a b (by decide) _).mono ?_); rintro e w' ⟨rfl, rfl⟩) | (go_at_call 24; (with_reducible refine (words_42 a b ha hb _).mono ?_); rintro e w' ⟨rfl, rfl⟩) | fail)
  go_ret2
  exact ⟨rfl, rfl⟩
set_option maxHeartbeats 1000000 in
theorem do_48 (a b : Int) (ha : U64 a) (hb : U64 b) (W : World) : Calls Try.prog 13 #[.int .i64 48, (.int .u64 a), (.int .u64 b)] W fun e W' => e = .returned (.tuple #[.int .u64 (wordV (lowV a / 2 ^ (b % 32).toNat)), .bool true]) ∧ W = W' := by
  have hU := And.intro ha hb
  clear hU
  go_enter Try.func13, Try.ntmps13
  go_wp2_with (first | (go_at_call 22; (with_reducible refine (sum_none 48 a b (by decide) _).mono ?_); rintro e w' ⟨rfl, rfl⟩) | (go_at_call 23; (with_reducible refine (product_none 48 a b (by decide) _).mono ?_); rintro e w' ⟨rfl, rfl⟩) | (go_at_call 24; (with_reducible refine (words_48 a b ha hb _).mono ?_); rintro e w' ⟨rfl, rfl⟩) | fail)
  go_ret2
  exact ⟨rfl, rfl⟩
set_option maxHeartbeats 1000000 in
theorem do_43 (a b : Int) (ha : U64 a) (hb : U64 b) (W : World) : Calls Try.prog 13 #[.int .i64 43, (.int .u64 a), (.int .u64 b)] W fun e W' => e = .returned (.tuple #[.int .u64 (wordV (lowV a / 2 ^ (b % 32).toNat)), .bool true]) ∧ W = W' := by
  have hU := And.intro ha hb
  clear hU
  go_enter Try.func13, Try.ntmps13
  go_wp2_with (first | (go_at_call 22; (with_reducible refine (sum_none 43 a b (by decide) _).mono ?_); rintro e w' ⟨rfl, rfl⟩) | (go_at_call 23; (with_reducible refine (product_none 43 a b (by decide) _).mono ?_); rintro e w' ⟨rfl, rfl⟩) | (go_at_call 24; (with_reducible refine (words_43 a b ha hb _).mono ?_); rintro e w' ⟨rfl, rfl⟩) | fail)
  go_ret2
  exact ⟨rfl, rfl⟩
set_option maxHeartbeats 1000000 in
theorem do_49 (a b : Int) (ha : U64 a) (hb : U64 b) (W : World) : Calls Try.prog 13 #[.int .i64 49, (.int .u64 a), (.int .u64 b)] W fun e W' => e = .returned (.tuple #[.int .u64 (uV (wrap32 a / 2 ^ (b % 32).toNat)), .bool true]) ∧ W = W' := by
  have hU := And.intro ha hb
  clear hU
  go_enter Try.func13, Try.ntmps13
  go_wp2_with (first | (go_at_call 22; (with_reducible refine (sum_none 49 a b (by decide) _).mono ?_); rintro e w' ⟨rfl, rfl⟩) | (go_at_call 23; (with_reducible refine (product_none 49 a b (by decide) _).mono ?_); rintro e w' ⟨rfl, rfl⟩) | (go_at_call 24; (with_reducible refine (words_49 a b ha hb _).mono ?_); rintro e w' ⟨rfl, rfl⟩) | fail)
  go_ret2
  exact ⟨rfl, rfl⟩
set_option maxHeartbeats 1000000 in
theorem do_44 (a b : Int) (ha : U64 a) (hb : U64 b) (W : World) : Calls Try.prog 13 #[.int .i64 44, (.int .u64 a), (.int .u64 b)] W fun e W' => e = .returned (.tuple #[.int .u64 (uV (wrap32 a / 2 ^ (b % 32).toNat)), .bool true]) ∧ W = W' := by
  have hU := And.intro ha hb
  clear hU
  go_enter Try.func13, Try.ntmps13
  go_wp2_with (first | (go_at_call 22; (with_reducible refine (sum_none 44 a b (by decide) _).mono ?_); rintro e w' ⟨rfl, rfl⟩) | (go_at_call 23; (with_reducible refine (product_none 44 a b (by decide) _).mono ?_); rintro e w' ⟨rfl, rfl⟩) | (go_at_call 24; (with_reducible refine (words_44 a b ha hb _).mono ?_); rintro e w' ⟨rfl, rfl⟩) | fail)
  go_ret2
  exact ⟨rfl, rfl⟩
set_option maxHeartbeats 1000000 in
theorem do_69 (a b : Int) (ha : U64 a) (hb : U64 b) (W : World) : Calls Try.prog 13 #[.int .i64 69, (.int .u64 a), (.int .u64 b)] W fun e W' => e = .returned (.tuple #[.int .u64 (wordV (qsV (wordV a) (wordV b))), .bool true]) ∧ W = W' := by
  have hU := And.intro ha hb
  clear hU
  go_enter Try.func13, Try.ntmps13
  go_wp2_with (first | (go_at_call 22; (with_reducible refine (sum_none 69 a b (by decide) _).mono ?_); rintro e w' ⟨rfl, rfl⟩) | (go_at_call 23; (with_reducible refine (product_none 69 a b (by decide) _).mono ?_); rintro e w' ⟨rfl, rfl⟩) | (go_at_call 24; (with_reducible refine (words_69 a b ha hb _).mono ?_); rintro e w' ⟨rfl, rfl⟩) | fail)
  go_ret2
  exact ⟨rfl, rfl⟩
set_option maxHeartbeats 1000000 in
theorem do_70 (a b : Int) (ha : U64 a) (hb : U64 b) (W : World) : Calls Try.prog 13 #[.int .i64 70, (.int .u64 a), (.int .u64 b)] W fun e W' => e = .returned (.tuple #[.int .u64 (wordV (quV (lowV a) (lowV b))), .bool true]) ∧ W = W' := by
  have hU := And.intro ha hb
  clear hU
  go_enter Try.func13, Try.ntmps13
  go_wp2_with (first | (go_at_call 22; (with_reducible refine (sum_none 70 a b (by decide) _).mono ?_); rintro e w' ⟨rfl, rfl⟩) | (go_at_call 23; (with_reducible refine (product_none 70 a b (by decide) _).mono ?_); rintro e w' ⟨rfl, rfl⟩) | (go_at_call 24; (with_reducible refine (words_70 a b ha hb _).mono ?_); rintro e w' ⟨rfl, rfl⟩) | fail)
  go_ret2
  exact ⟨rfl, rfl⟩
set_option maxHeartbeats 1000000 in
theorem do_71 (a b : Int) (ha : U64 a) (hb : U64 b) (W : World) : Calls Try.prog 13 #[.int .i64 71, (.int .u64 a), (.int .u64 b)] W fun e W' => e = .returned (.tuple #[.int .u64 (wordV (rsV (wordV a) (wordV b))), .bool true]) ∧ W = W' := by
  have hU := And.intro ha hb
  clear hU
  go_enter Try.func13, Try.ntmps13
  go_wp2_with (first | (go_at_call 22; (with_reducible refine (sum_none 71 a b (by decide) _).mono ?_); rintro e w' ⟨rfl, rfl⟩) | (go_at_call 23; (with_reducible refine (product_none 71 a b (by decide) _).mono ?_); rintro e w' ⟨rfl, rfl⟩) | (go_at_call 24; (with_reducible refine (words_71 a b ha hb _).mono ?_); rintro e w' ⟨rfl, rfl⟩) | fail)
  go_ret2
  exact ⟨rfl, rfl⟩
set_option maxHeartbeats 1000000 in
theorem do_72 (a b : Int) (ha : U64 a) (hb : U64 b) (W : World) : Calls Try.prog 13 #[.int .i64 72, (.int .u64 a), (.int .u64 b)] W fun e W' => e = .returned (.tuple #[.int .u64 (wordV (reV (lowV a) (lowV b))), .bool true]) ∧ W = W' := by
  have hU := And.intro ha hb
  clear hU
  go_enter Try.func13, Try.ntmps13
  go_wp2_with (first | (go_at_call 22; (with_reducible refine (sum_none 72 a b (by decide) _).mono ?_); rintro e w' ⟨rfl, rfl⟩) | (go_at_call 23; (with_reducible refine (product_none 72 a b (by decide) _).mono ?_); rintro e w' ⟨rfl, rfl⟩) | (go_at_call 24; (with_reducible refine (words_72 a b ha hb _).mono ?_); rintro e w' ⟨rfl, rfl⟩) | fail)
  go_ret2
  exact ⟨rfl, rfl⟩

theorem not_in {op : Int} {L M : List Int} (h : ∀ k ∈ L, op ≠ k) (g : ∀ k ∈ M, k ∈ L) : ∀ k ∈ M, op ≠ k := fun k hk => h k (g k hk)
set_option maxHeartbeats 1000000 in
theorem do_none (op : Int) (a b : Int) (h : ∀ k ∈ ([31, 22, 32, 33, 28, 37, 29, 38, 30, 34, 23, 35, 24, 36, 25, 39, 26, 40, 27, 60, 61, 62, 63, 64, 65, 66, 67, 45, 41, 46, 68, 47, 42, 48, 43, 49, 44, 69, 70, 71, 72] : List Int), op ≠ k) (W : World) : Calls Try.prog 13 #[.int .i64 op, (.int .u64 a), (.int .u64 b)] W fun e W' => e = .returned (.tuple #[.int .u64 0, .bool false]) ∧ W = W' := by
  have h1 := Lib.hid (not_in h (M := [31, 22, 32, 33, 28, 37, 29, 38, 30, 34, 23, 35, 24, 36, 25, 39, 26, 40, 27]) (by decide))
  have h2 := Lib.hid (not_in h (M := [60, 61, 62, 63, 64, 65, 66, 67]) (by decide))
  have h3 := Lib.hid (not_in h (M := [45, 41, 46, 68, 47, 42, 48, 43, 49, 44, 69, 70, 71, 72]) (by decide))
  clear h
  go_enter Try.func13, Try.ntmps13
  go_wp2_with (first | (go_at_call 22; (with_reducible refine (sum_none op a b h1.out _).mono ?_); rintro e w' ⟨rfl, rfl⟩) | (go_at_call 23; (with_reducible refine (product_none op a b h2.out _).mono ?_); rintro e w' ⟨rfl, rfl⟩) | (go_at_call 24; (with_reducible refine (words_none op a b h3.out _).mono ?_); rintro e w' ⟨rfl, rfl⟩) | fail)
  go_ret2
  exact ⟨rfl, rfl⟩
set_option maxHeartbeats 1000000 in
theorem amoD_86 (a b : Int) (ha : U64 a) (hb : U64 b) (W : World) : Calls Try.prog 33 #[.int .i64 86, (.int .u64 a), (.int .u64 b)] W fun e W' => e = .returned (.tuple #[.int .u64 b, .bool true]) ∧ W = W' := by
  have hU := And.intro ha hb
  clear hU
  go_enter Try.func33, Try.ntmps33
  go_wp2
  go_ret2
  exact ⟨rfl, rfl⟩
set_option maxHeartbeats 1000000 in
theorem amoD_87 (a b : Int) (ha : U64 a) (hb : U64 b) (W : World) : Calls Try.prog 33 #[.int .i64 87, (.int .u64 a), (.int .u64 b)] W fun e W' => e = .returned (.tuple #[.int .u64 (uV (a + b)), .bool true]) ∧ W = W' := by
  have hU := And.intro ha hb
  clear hU
  go_enter Try.func33, Try.ntmps33
  go_wp2
  go_ret2
  exact ⟨rfl, rfl⟩
set_option maxHeartbeats 1000000 in
theorem amoD_88 (a b : Int) (ha : U64 a) (hb : U64 b) (W : World) : Calls Try.prog 33 #[.int .i64 88, (.int .u64 a), (.int .u64 b)] W fun e W' => e = .returned (.tuple #[.int .u64 (bits .xor .u64 a b), .bool true]) ∧ W = W' := by
  have hU := And.intro ha hb
  clear hU
  go_enter Try.func33, Try.ntmps33
  go_wp2
  go_ret2
  exact ⟨rfl, rfl⟩
set_option maxHeartbeats 1000000 in
theorem amoD_89 (a b : Int) (ha : U64 a) (hb : U64 b) (W : World) : Calls Try.prog 33 #[.int .i64 89, (.int .u64 a), (.int .u64 b)] W fun e W' => e = .returned (.tuple #[.int .u64 (bits .and .u64 a b), .bool true]) ∧ W = W' := by
  have hU := And.intro ha hb
  clear hU
  go_enter Try.func33, Try.ntmps33
  go_wp2
  go_ret2
  exact ⟨rfl, rfl⟩
set_option maxHeartbeats 1000000 in
theorem amoD_90 (a b : Int) (ha : U64 a) (hb : U64 b) (W : World) : Calls Try.prog 33 #[.int .i64 90, (.int .u64 a), (.int .u64 b)] W fun e W' => e = .returned (.tuple #[.int .u64 (bits .or .u64 a b), .bool true]) ∧ W = W' := by
  have hU := And.intro ha hb
  clear hU
  go_enter Try.func33, Try.ntmps33
  go_wp2
  go_ret2
  exact ⟨rfl, rfl⟩
set_option maxHeartbeats 1000000 in
theorem amoD_91 (a b : Int) (ha : U64 a) (hb : U64 b) (W : World) : Calls Try.prog 33 #[.int .i64 91, (.int .u64 a), (.int .u64 b)] W fun e W' => e = .returned (.tuple #[.int .u64 (minS a b), .bool true]) ∧ W = W' := by
  have hU := And.intro ha hb
  clear hU
  by_cases h : wrap64 b < wrap64 a
  · go_enter Try.func33, Try.ntmps33
    go_wp2
    go_ret2
    exact ⟨ret_pair (minS_y a b ha hb h) rfl, rfl⟩
  · have h := Int.not_lt.mp h
    go_enter Try.func33, Try.ntmps33
    go_wp2
    go_ret2
    exact ⟨ret_pair (minS_n a b ha hb h) rfl, rfl⟩
set_option maxHeartbeats 1000000 in
theorem amoD_92 (a b : Int) (ha : U64 a) (hb : U64 b) (W : World) : Calls Try.prog 33 #[.int .i64 92, (.int .u64 a), (.int .u64 b)] W fun e W' => e = .returned (.tuple #[.int .u64 (maxS a b), .bool true]) ∧ W = W' := by
  have hU := And.intro ha hb
  clear hU
  by_cases h : wrap64 a < wrap64 b
  · go_enter Try.func33, Try.ntmps33
    go_wp2
    go_ret2
    exact ⟨ret_pair (maxS_y a b ha hb h) rfl, rfl⟩
  · have h := Int.not_lt.mp h
    go_enter Try.func33, Try.ntmps33
    go_wp2
    go_ret2
    exact ⟨ret_pair (maxS_n a b ha hb h) rfl, rfl⟩
set_option maxHeartbeats 1000000 in
theorem amoD_93 (a b : Int) (ha : U64 a) (hb : U64 b) (W : World) : Calls Try.prog 33 #[.int .i64 93, (.int .u64 a), (.int .u64 b)] W fun e W' => e = .returned (.tuple #[.int .u64 (minU a b), .bool true]) ∧ W = W' := by
  have hU := And.intro ha hb
  clear hU
  by_cases h : b < a
  · go_enter Try.func33, Try.ntmps33
    go_wp2
    go_ret2
    exact ⟨ret_pair (minU_y a b h) rfl, rfl⟩
  · have h := Int.not_lt.mp h
    go_enter Try.func33, Try.ntmps33
    go_wp2
    go_ret2
    exact ⟨ret_pair (minU_n a b h) rfl, rfl⟩
set_option maxHeartbeats 1000000 in
theorem amoD_94 (a b : Int) (ha : U64 a) (hb : U64 b) (W : World) : Calls Try.prog 33 #[.int .i64 94, (.int .u64 a), (.int .u64 b)] W fun e W' => e = .returned (.tuple #[.int .u64 (maxU a b), .bool true]) ∧ W = W' := by
  have hU := And.intro ha hb
  clear hU
  by_cases h : a < b
  · go_enter Try.func33, Try.ntmps33
    go_wp2
    go_ret2
    exact ⟨ret_pair (maxU_y a b h) rfl, rfl⟩
  · have h := Int.not_lt.mp h
    go_enter Try.func33, Try.ntmps33
    go_wp2
    go_ret2
    exact ⟨ret_pair (maxU_n a b h) rfl, rfl⟩
set_option maxHeartbeats 1000000 in
theorem amoD_none (op : Int) (a b : Int) (h : ∀ k ∈ ([86, 87, 88, 89, 90, 91, 92, 93, 94] : List Int), op ≠ k) (W : World) : Calls Try.prog 33 #[.int .i64 op, (.int .u64 a), (.int .u64 b)] W fun e W' => e = .returned (.tuple #[.int .u64 0, .bool false]) ∧ W = W' := by
  have g86 : (op == 86) = false := by rw [beq_eq_false_iff_ne]; exact h 86 (by decide)
  have g87 : (op == 87) = false := by rw [beq_eq_false_iff_ne]; exact h 87 (by decide)
  have g88 : (op == 88) = false := by rw [beq_eq_false_iff_ne]; exact h 88 (by decide)
  have g89 : (op == 89) = false := by rw [beq_eq_false_iff_ne]; exact h 89 (by decide)
  have g90 : (op == 90) = false := by rw [beq_eq_false_iff_ne]; exact h 90 (by decide)
  have g91 : (op == 91) = false := by rw [beq_eq_false_iff_ne]; exact h 91 (by decide)
  have g92 : (op == 92) = false := by rw [beq_eq_false_iff_ne]; exact h 92 (by decide)
  have g93 : (op == 93) = false := by rw [beq_eq_false_iff_ne]; exact h 93 (by decide)
  have g94 : (op == 94) = false := by rw [beq_eq_false_iff_ne]; exact h 94 (by decide)
  clear h
  go_enter Try.func33, Try.ntmps33
  go_wp2
  go_ret2
  exact ⟨rfl, rfl⟩
set_option maxHeartbeats 1000000 in
theorem amoW_75 (a b : Int) (ha : U64 a) (hb : U64 b) (W : World) : Calls Try.prog 34 #[.int .i64 75, (.int .u64 a), (.int .u64 b)] W fun e W' => e = .returned (.tuple #[.int .u64 (lowV b), .bool true]) ∧ W = W' := by
  have hU := And.intro ha hb
  clear hU
  go_enter Try.func34, Try.ntmps34
  go_wp2_with (first | (go_at_call 43; (with_reducible refine (low_any _ _).mono ?_); rintro e w' ⟨rfl, rfl⟩) | fail)
  go_ret2
  exact ⟨rfl, rfl⟩
set_option maxHeartbeats 1000000 in
theorem amoW_76 (a b : Int) (ha : U64 a) (hb : U64 b) (W : World) : Calls Try.prog 34 #[.int .i64 76, (.int .u64 a), (.int .u64 b)] W fun e W' => e = .returned (.tuple #[.int .u64 (lowV (a + b)), .bool true]) ∧ W = W' := by
  have hU := And.intro ha hb
  clear hU
  go_enter Try.func34, Try.ntmps34
  go_wp2_with (first | (go_at_call 43; (with_reducible refine (low_any _ _).mono ?_); rintro e w' ⟨rfl, rfl⟩) | fail)
  go_ret2
  refine ⟨ret_pair ?_ rfl, rfl⟩
  simp only [IntKind.wrap_u64, lowV_eq]
  try omega
set_option maxHeartbeats 1000000 in
theorem amoW_77 (a b : Int) (ha : U64 a) (hb : U64 b) (W : World) : Calls Try.prog 34 #[.int .i64 77, (.int .u64 a), (.int .u64 b)] W fun e W' => e = .returned (.tuple #[.int .u64 (lowV (bits .xor .u64 a b)), .bool true]) ∧ W = W' := by
  have hU := And.intro ha hb
  clear hU
  go_enter Try.func34, Try.ntmps34
  go_wp2_with (first | (go_at_call 43; (with_reducible refine (low_any _ _).mono ?_); rintro e w' ⟨rfl, rfl⟩) | fail)
  go_ret2
  exact ⟨rfl, rfl⟩
set_option maxHeartbeats 1000000 in
theorem amoW_78 (a b : Int) (ha : U64 a) (hb : U64 b) (W : World) : Calls Try.prog 34 #[.int .i64 78, (.int .u64 a), (.int .u64 b)] W fun e W' => e = .returned (.tuple #[.int .u64 (lowV (bits .and .u64 a b)), .bool true]) ∧ W = W' := by
  have hU := And.intro ha hb
  clear hU
  go_enter Try.func34, Try.ntmps34
  go_wp2_with (first | (go_at_call 43; (with_reducible refine (low_any _ _).mono ?_); rintro e w' ⟨rfl, rfl⟩) | fail)
  go_ret2
  exact ⟨rfl, rfl⟩
set_option maxHeartbeats 1000000 in
theorem amoW_79 (a b : Int) (ha : U64 a) (hb : U64 b) (W : World) : Calls Try.prog 34 #[.int .i64 79, (.int .u64 a), (.int .u64 b)] W fun e W' => e = .returned (.tuple #[.int .u64 (lowV (bits .or .u64 a b)), .bool true]) ∧ W = W' := by
  have hU := And.intro ha hb
  clear hU
  go_enter Try.func34, Try.ntmps34
  go_wp2_with (first | (go_at_call 43; (with_reducible refine (low_any _ _).mono ?_); rintro e w' ⟨rfl, rfl⟩) | fail)
  go_ret2
  exact ⟨rfl, rfl⟩
set_option maxHeartbeats 1000000 in
theorem amoW_80 (a b : Int) (ha : U64 a) (hb : U64 b) (W : World) : Calls Try.prog 34 #[.int .i64 80, (.int .u64 a), (.int .u64 b)] W fun e W' => e = .returned (.tuple #[.int .u64 (minT a b), .bool true]) ∧ W = W' := by
  have hU := And.intro ha hb
  clear hU
  by_cases h : wrap32 b < wrap32 a
  · go_enter Try.func34, Try.ntmps34
    go_wp2
    go_ret2
    exact ⟨ret_pair (minT_y a b h) rfl, rfl⟩
  · have h := Int.not_lt.mp h
    go_enter Try.func34, Try.ntmps34
    go_wp2
    go_ret2
    exact ⟨ret_pair (minT_n a b h) rfl, rfl⟩
set_option maxHeartbeats 1000000 in
theorem amoW_81 (a b : Int) (ha : U64 a) (hb : U64 b) (W : World) : Calls Try.prog 34 #[.int .i64 81, (.int .u64 a), (.int .u64 b)] W fun e W' => e = .returned (.tuple #[.int .u64 (maxT a b), .bool true]) ∧ W = W' := by
  have hU := And.intro ha hb
  clear hU
  by_cases h : wrap32 a < wrap32 b
  · go_enter Try.func34, Try.ntmps34
    go_wp2
    go_ret2
    exact ⟨ret_pair (maxT_y a b h) rfl, rfl⟩
  · have h := Int.not_lt.mp h
    go_enter Try.func34, Try.ntmps34
    go_wp2
    go_ret2
    exact ⟨ret_pair (maxT_n a b h) rfl, rfl⟩
set_option maxHeartbeats 1000000 in
theorem amoW_82 (a b : Int) (ha : U64 a) (hb : U64 b) (W : World) : Calls Try.prog 34 #[.int .i64 82, (.int .u64 a), (.int .u64 b)] W fun e W' => e = .returned (.tuple #[.int .u64 (minU (lowV a) (lowV b)), .bool true]) ∧ W = W' := by
  have hU := And.intro ha hb
  clear hU
  by_cases h : lowV b < lowV a
  · go_enter Try.func34, Try.ntmps34
    go_wp2_with (first | (go_at_call 43; (with_reducible refine (low_any _ _).mono ?_); rintro e w' ⟨rfl, rfl⟩) | fail)
    go_ret2
    exact ⟨ret_pair (minU_y (lowV a) (lowV b) h) rfl, rfl⟩
  · have h := Int.not_lt.mp h
    go_enter Try.func34, Try.ntmps34
    go_wp2_with (first | (go_at_call 43; (with_reducible refine (low_any _ _).mono ?_); rintro e w' ⟨rfl, rfl⟩) | fail)
    go_ret2
    exact ⟨ret_pair (minU_n (lowV a) (lowV b) h) rfl, rfl⟩
set_option maxHeartbeats 1000000 in
theorem amoW_83 (a b : Int) (ha : U64 a) (hb : U64 b) (W : World) : Calls Try.prog 34 #[.int .i64 83, (.int .u64 a), (.int .u64 b)] W fun e W' => e = .returned (.tuple #[.int .u64 (maxU (lowV a) (lowV b)), .bool true]) ∧ W = W' := by
  have hU := And.intro ha hb
  clear hU
  by_cases h : lowV a < lowV b
  · go_enter Try.func34, Try.ntmps34
    go_wp2_with (first | (go_at_call 43; (with_reducible refine (low_any _ _).mono ?_); rintro e w' ⟨rfl, rfl⟩) | fail)
    go_ret2
    exact ⟨ret_pair (maxU_y (lowV a) (lowV b) h) rfl, rfl⟩
  · have h := Int.not_lt.mp h
    go_enter Try.func34, Try.ntmps34
    go_wp2_with (first | (go_at_call 43; (with_reducible refine (low_any _ _).mono ?_); rintro e w' ⟨rfl, rfl⟩) | fail)
    go_ret2
    exact ⟨ret_pair (maxU_n (lowV a) (lowV b) h) rfl, rfl⟩
set_option maxHeartbeats 1000000 in
theorem amoW_none (op : Int) (a b : Int) (h : ∀ k ∈ ([75, 76, 77, 78, 79, 80, 81, 82, 83] : List Int), op ≠ k) (W : World) : Calls Try.prog 34 #[.int .i64 op, (.int .u64 a), (.int .u64 b)] W fun e W' => e = .returned (.tuple #[.int .u64 0, .bool false]) ∧ W = W' := by
  have g75 : (op == 75) = false := by rw [beq_eq_false_iff_ne]; exact h 75 (by decide)
  have g76 : (op == 76) = false := by rw [beq_eq_false_iff_ne]; exact h 76 (by decide)
  have g77 : (op == 77) = false := by rw [beq_eq_false_iff_ne]; exact h 77 (by decide)
  have g78 : (op == 78) = false := by rw [beq_eq_false_iff_ne]; exact h 78 (by decide)
  have g79 : (op == 79) = false := by rw [beq_eq_false_iff_ne]; exact h 79 (by decide)
  have g80 : (op == 80) = false := by rw [beq_eq_false_iff_ne]; exact h 80 (by decide)
  have g81 : (op == 81) = false := by rw [beq_eq_false_iff_ne]; exact h 81 (by decide)
  have g82 : (op == 82) = false := by rw [beq_eq_false_iff_ne]; exact h 82 (by decide)
  have g83 : (op == 83) = false := by rw [beq_eq_false_iff_ne]; exact h 83 (by decide)
  clear h
  go_enter Try.func34, Try.ntmps34
  go_wp2
  go_ret2
  exact ⟨rfl, rfl⟩
set_option maxHeartbeats 1000000 in
theorem amo_86 (a b : Int) (ha : U64 a) (hb : U64 b) (W : World) : Calls Try.prog 17 #[.int .i64 86, (.int .u64 a), (.int .u64 b)] W fun e W' => e = .returned (.tuple #[.int .u64 b, .bool true]) ∧ W = W' := by
  have hU := And.intro ha hb
  clear hU
  go_enter Try.func17, Try.ntmps17
  go_wp2_with (first | (go_at_call 33; (with_reducible refine (amoD_86 a b ha hb _).mono ?_); rintro e w' ⟨rfl, rfl⟩) | fail)
  go_ret2
  exact ⟨rfl, rfl⟩
set_option maxHeartbeats 1000000 in
theorem amo_87 (a b : Int) (ha : U64 a) (hb : U64 b) (W : World) : Calls Try.prog 17 #[.int .i64 87, (.int .u64 a), (.int .u64 b)] W fun e W' => e = .returned (.tuple #[.int .u64 (uV (a + b)), .bool true]) ∧ W = W' := by
  have hU := And.intro ha hb
  clear hU
  go_enter Try.func17, Try.ntmps17
  go_wp2_with (first | (go_at_call 33; (with_reducible refine (amoD_87 a b ha hb _).mono ?_); rintro e w' ⟨rfl, rfl⟩) | fail)
  go_ret2
  exact ⟨rfl, rfl⟩
set_option maxHeartbeats 1000000 in
theorem amo_88 (a b : Int) (ha : U64 a) (hb : U64 b) (W : World) : Calls Try.prog 17 #[.int .i64 88, (.int .u64 a), (.int .u64 b)] W fun e W' => e = .returned (.tuple #[.int .u64 (bits .xor .u64 a b), .bool true]) ∧ W = W' := by
  have hU := And.intro ha hb
  clear hU
  go_enter Try.func17, Try.ntmps17
  go_wp2_with (first | (go_at_call 33; (with_reducible refine (amoD_88 a b ha hb _).mono ?_); rintro e w' ⟨rfl, rfl⟩) | fail)
  go_ret2
  exact ⟨rfl, rfl⟩
set_option maxHeartbeats 1000000 in
theorem amo_89 (a b : Int) (ha : U64 a) (hb : U64 b) (W : World) : Calls Try.prog 17 #[.int .i64 89, (.int .u64 a), (.int .u64 b)] W fun e W' => e = .returned (.tuple #[.int .u64 (bits .and .u64 a b), .bool true]) ∧ W = W' := by
  have hU := And.intro ha hb
  clear hU
  go_enter Try.func17, Try.ntmps17
  go_wp2_with (first | (go_at_call 33; (with_reducible refine (amoD_89 a b ha hb _).mono ?_); rintro e w' ⟨rfl, rfl⟩) | fail)
  go_ret2
  exact ⟨rfl, rfl⟩
set_option maxHeartbeats 1000000 in
theorem amo_90 (a b : Int) (ha : U64 a) (hb : U64 b) (W : World) : Calls Try.prog 17 #[.int .i64 90, (.int .u64 a), (.int .u64 b)] W fun e W' => e = .returned (.tuple #[.int .u64 (bits .or .u64 a b), .bool true]) ∧ W = W' := by
  have hU := And.intro ha hb
  clear hU
  go_enter Try.func17, Try.ntmps17
  go_wp2_with (first | (go_at_call 33; (with_reducible refine (amoD_90 a b ha hb _).mono ?_); rintro e w' ⟨rfl, rfl⟩) | fail)
  go_ret2
  exact ⟨rfl, rfl⟩
set_option maxHeartbeats 1000000 in
theorem amo_91 (a b : Int) (ha : U64 a) (hb : U64 b) (W : World) : Calls Try.prog 17 #[.int .i64 91, (.int .u64 a), (.int .u64 b)] W fun e W' => e = .returned (.tuple #[.int .u64 (minS a b), .bool true]) ∧ W = W' := by
  have hU := And.intro ha hb
  clear hU
  go_enter Try.func17, Try.ntmps17
  go_wp2_with (first | (go_at_call 33; (with_reducible refine (amoD_91 a b ha hb _).mono ?_); rintro e w' ⟨rfl, rfl⟩) | fail)
  go_ret2
  exact ⟨rfl, rfl⟩
set_option maxHeartbeats 1000000 in
theorem amo_92 (a b : Int) (ha : U64 a) (hb : U64 b) (W : World) : Calls Try.prog 17 #[.int .i64 92, (.int .u64 a), (.int .u64 b)] W fun e W' => e = .returned (.tuple #[.int .u64 (maxS a b), .bool true]) ∧ W = W' := by
  have hU := And.intro ha hb
  clear hU
  go_enter Try.func17, Try.ntmps17
  go_wp2_with (first | (go_at_call 33; (with_reducible refine (amoD_92 a b ha hb _).mono ?_); rintro e w' ⟨rfl, rfl⟩) | fail)
  go_ret2
  exact ⟨rfl, rfl⟩
set_option maxHeartbeats 1000000 in
theorem amo_93 (a b : Int) (ha : U64 a) (hb : U64 b) (W : World) : Calls Try.prog 17 #[.int .i64 93, (.int .u64 a), (.int .u64 b)] W fun e W' => e = .returned (.tuple #[.int .u64 (minU a b), .bool true]) ∧ W = W' := by
  have hU := And.intro ha hb
  clear hU
  go_enter Try.func17, Try.ntmps17
  go_wp2_with (first | (go_at_call 33; (with_reducible refine (amoD_93 a b ha hb _).mono ?_); rintro e w' ⟨rfl, rfl⟩) | fail)
  go_ret2
  exact ⟨rfl, rfl⟩
set_option maxHeartbeats 1000000 in
theorem amo_94 (a b : Int) (ha : U64 a) (hb : U64 b) (W : World) : Calls Try.prog 17 #[.int .i64 94, (.int .u64 a), (.int .u64 b)] W fun e W' => e = .returned (.tuple #[.int .u64 (maxU a b), .bool true]) ∧ W = W' := by
  have hU := And.intro ha hb
  clear hU
  go_enter Try.func17, Try.ntmps17
  go_wp2_with (first | (go_at_call 33; (with_reducible refine (amoD_94 a b ha hb _).mono ?_); rintro e w' ⟨rfl, rfl⟩) | fail)
  go_ret2
  exact ⟨rfl, rfl⟩
set_option maxHeartbeats 1000000 in
theorem amo_75 (a b : Int) (ha : U64 a) (hb : U64 b) (W : World) : Calls Try.prog 17 #[.int .i64 75, (.int .u64 a), (.int .u64 b)] W fun e W' => e = .returned (.tuple #[.int .u64 (lowV b), .bool true]) ∧ W = W' := by
  have hU := And.intro ha hb
  clear hU
  go_enter Try.func17, Try.ntmps17
  go_wp2_with (first | (go_at_call 33; (with_reducible refine (amoD_none 75 a b (by decide) _).mono ?_); rintro e w' ⟨rfl, rfl⟩) | (go_at_call 34; (with_reducible refine (amoW_75 a b ha hb _).mono ?_); rintro e w' ⟨rfl, rfl⟩) | fail)
  go_ret2
  exact ⟨rfl, rfl⟩
set_option maxHeartbeats 1000000 in
theorem amo_76 (a b : Int) (ha : U64 a) (hb : U64 b) (W : World) : Calls Try.prog 17 #[.int .i64 76, (.int .u64 a), (.int .u64 b)] W fun e W' => e = .returned (.tuple #[.int .u64 (lowV (a + b)), .bool true]) ∧ W = W' := by
  have hU := And.intro ha hb
  clear hU
  go_enter Try.func17, Try.ntmps17
  go_wp2_with (first | (go_at_call 33; (with_reducible refine (amoD_none 76 a b (by decide) _).mono ?_); rintro e w' ⟨rfl, rfl⟩) | (go_at_call 34; (with_reducible refine (amoW_76 a b ha hb _).mono ?_); rintro e w' ⟨rfl, rfl⟩) | fail)
  go_ret2
  exact ⟨rfl, rfl⟩
set_option maxHeartbeats 1000000 in
theorem amo_77 (a b : Int) (ha : U64 a) (hb : U64 b) (W : World) : Calls Try.prog 17 #[.int .i64 77, (.int .u64 a), (.int .u64 b)] W fun e W' => e = .returned (.tuple #[.int .u64 (lowV (bits .xor .u64 a b)), .bool true]) ∧ W = W' := by
  have hU := And.intro ha hb
  clear hU
  go_enter Try.func17, Try.ntmps17
  go_wp2_with (first | (go_at_call 33; (with_reducible refine (amoD_none 77 a b (by decide) _).mono ?_); rintro e w' ⟨rfl, rfl⟩) | (go_at_call 34; (with_reducible refine (amoW_77 a b ha hb _).mono ?_); rintro e w' ⟨rfl, rfl⟩) | fail)
  go_ret2
  exact ⟨rfl, rfl⟩
set_option maxHeartbeats 1000000 in
theorem amo_78 (a b : Int) (ha : U64 a) (hb : U64 b) (W : World) : Calls Try.prog 17 #[.int .i64 78, (.int .u64 a), (.int .u64 b)] W fun e W' => e = .returned (.tuple #[.int .u64 (lowV (bits .and .u64 a b)), .bool true]) ∧ W = W' := by
  have hU := And.intro ha hb
  clear hU
  go_enter Try.func17, Try.ntmps17
  go_wp2_with (first | (go_at_call 33; (with_reducible refine (amoD_none 78 a b (by decide) _).mono ?_); rintro e w' ⟨rfl, rfl⟩) | (go_at_call 34; (with_reducible refine (amoW_78 a b ha hb _).mono ?_); rintro e w' ⟨rfl, rfl⟩) | fail)
  go_ret2
  exact ⟨rfl, rfl⟩
set_option maxHeartbeats 1000000 in
theorem amo_79 (a b : Int) (ha : U64 a) (hb : U64 b) (W : World) : Calls Try.prog 17 #[.int .i64 79, (.int .u64 a), (.int .u64 b)] W fun e W' => e = .returned (.tuple #[.int .u64 (lowV (bits .or .u64 a b)), .bool true]) ∧ W = W' := by
  have hU := And.intro ha hb
  clear hU
  go_enter Try.func17, Try.ntmps17
  go_wp2_with (first | (go_at_call 33; (with_reducible refine (amoD_none 79 a b (by decide) _).mono ?_); rintro e w' ⟨rfl, rfl⟩) | (go_at_call 34; (with_reducible refine (amoW_79 a b ha hb _).mono ?_); rintro e w' ⟨rfl, rfl⟩) | fail)
  go_ret2
  exact ⟨rfl, rfl⟩
set_option maxHeartbeats 1000000 in
theorem amo_80 (a b : Int) (ha : U64 a) (hb : U64 b) (W : World) : Calls Try.prog 17 #[.int .i64 80, (.int .u64 a), (.int .u64 b)] W fun e W' => e = .returned (.tuple #[.int .u64 (minT a b), .bool true]) ∧ W = W' := by
  have hU := And.intro ha hb
  clear hU
  go_enter Try.func17, Try.ntmps17
  go_wp2_with (first | (go_at_call 33; (with_reducible refine (amoD_none 80 a b (by decide) _).mono ?_); rintro e w' ⟨rfl, rfl⟩) | (go_at_call 34; (with_reducible refine (amoW_80 a b ha hb _).mono ?_); rintro e w' ⟨rfl, rfl⟩) | fail)
  go_ret2
  exact ⟨rfl, rfl⟩
set_option maxHeartbeats 1000000 in
theorem amo_81 (a b : Int) (ha : U64 a) (hb : U64 b) (W : World) : Calls Try.prog 17 #[.int .i64 81, (.int .u64 a), (.int .u64 b)] W fun e W' => e = .returned (.tuple #[.int .u64 (maxT a b), .bool true]) ∧ W = W' := by
  have hU := And.intro ha hb
  clear hU
  go_enter Try.func17, Try.ntmps17
  go_wp2_with (first | (go_at_call 33; (with_reducible refine (amoD_none 81 a b (by decide) _).mono ?_); rintro e w' ⟨rfl, rfl⟩) | (go_at_call 34; (with_reducible refine (amoW_81 a b ha hb _).mono ?_); rintro e w' ⟨rfl, rfl⟩) | fail)
  go_ret2
  exact ⟨rfl, rfl⟩
set_option maxHeartbeats 1000000 in
theorem amo_82 (a b : Int) (ha : U64 a) (hb : U64 b) (W : World) : Calls Try.prog 17 #[.int .i64 82, (.int .u64 a), (.int .u64 b)] W fun e W' => e = .returned (.tuple #[.int .u64 (minU (lowV a) (lowV b)), .bool true]) ∧ W = W' := by
  have hU := And.intro ha hb
  clear hU
  go_enter Try.func17, Try.ntmps17
  go_wp2_with (first | (go_at_call 33; (with_reducible refine (amoD_none 82 a b (by decide) _).mono ?_); rintro e w' ⟨rfl, rfl⟩) | (go_at_call 34; (with_reducible refine (amoW_82 a b ha hb _).mono ?_); rintro e w' ⟨rfl, rfl⟩) | fail)
  go_ret2
  exact ⟨rfl, rfl⟩
set_option maxHeartbeats 1000000 in
theorem amo_83 (a b : Int) (ha : U64 a) (hb : U64 b) (W : World) : Calls Try.prog 17 #[.int .i64 83, (.int .u64 a), (.int .u64 b)] W fun e W' => e = .returned (.tuple #[.int .u64 (maxU (lowV a) (lowV b)), .bool true]) ∧ W = W' := by
  have hU := And.intro ha hb
  clear hU
  go_enter Try.func17, Try.ntmps17
  go_wp2_with (first | (go_at_call 33; (with_reducible refine (amoD_none 83 a b (by decide) _).mono ?_); rintro e w' ⟨rfl, rfl⟩) | (go_at_call 34; (with_reducible refine (amoW_83 a b ha hb _).mono ?_); rintro e w' ⟨rfl, rfl⟩) | fail)
  go_ret2
  exact ⟨rfl, rfl⟩
set_option maxHeartbeats 1000000 in
theorem amo_none (op : Int) (a b : Int) (h : ∀ k ∈ ([86, 87, 88, 89, 90, 91, 92, 93, 94, 75, 76, 77, 78, 79, 80, 81, 82, 83] : List Int), op ≠ k) (W : World) : Calls Try.prog 17 #[.int .i64 op, (.int .u64 a), (.int .u64 b)] W fun e W' => e = .returned (.tuple #[.int .u64 0, .bool false]) ∧ W = W' := by
  have h1 := Lib.hid (not_in h (M := [86, 87, 88, 89, 90, 91, 92, 93, 94]) (by decide))
  have h2 := Lib.hid (not_in h (M := [75, 76, 77, 78, 79, 80, 81, 82, 83]) (by decide))
  clear h
  go_enter Try.func17, Try.ntmps17
  go_wp2_with (first | (go_at_call 33; (with_reducible refine (amoD_none op a b h1.out _).mono ?_); rintro e w' ⟨rfl, rfl⟩) | (go_at_call 34; (with_reducible refine (amoW_none op a b h2.out _).mono ?_); rintro e w' ⟨rfl, rfl⟩) | fail)
  go_ret2
  exact ⟨rfl, rfl⟩
set_option maxHeartbeats 1000000 in
theorem branch_5 (a b : Int) (W : World) : Calls Try.prog 15 #[.int .i64 5, (.int .u64 a), (.int .u64 b)] W fun e W' => e = .returned (.tuple #[.bool (a == b), .bool true]) ∧ W = W' := by
  go_enter Try.func15, Try.ntmps15
  go_wp2
  go_ret2
  exact ⟨rfl, rfl⟩
set_option maxHeartbeats 1000000 in
theorem branch_6 (a b : Int) (W : World) : Calls Try.prog 15 #[.int .i64 6, (.int .u64 a), (.int .u64 b)] W fun e W' => e = .returned (.tuple #[.bool (a != b), .bool true]) ∧ W = W' := by
  go_enter Try.func15, Try.ntmps15
  go_wp2
  go_ret2
  exact ⟨rfl, rfl⟩
set_option maxHeartbeats 1000000 in
theorem branch_7 (a b : Int) (W : World) : Calls Try.prog 15 #[.int .i64 7, (.int .u64 a), (.int .u64 b)] W fun e W' => e = .returned (.tuple #[.bool (decide (wrap64 a < wrap64 b)), .bool true]) ∧ W = W' := by
  go_enter Try.func15, Try.ntmps15
  go_wp2_with (first | (go_at_call 32; (with_reducible refine (below_any _ _ _).mono ?_); rintro e w' ⟨rfl, rfl⟩) | fail)
  go_ret2
  exact ⟨rfl, rfl⟩
set_option maxHeartbeats 1000000 in
theorem branch_8 (a b : Int) (W : World) : Calls Try.prog 15 #[.int .i64 8, (.int .u64 a), (.int .u64 b)] W fun e W' => e = .returned (.tuple #[.bool (!decide (wrap64 a < wrap64 b)), .bool true]) ∧ W = W' := by
  go_enter Try.func15, Try.ntmps15
  go_wp2_with (first | (go_at_call 32; (with_reducible refine (below_any _ _ _).mono ?_); rintro e w' ⟨rfl, rfl⟩) | fail)
  go_ret2
  exact ⟨rfl, rfl⟩
set_option maxHeartbeats 1000000 in
theorem branch_9 (a b : Int) (W : World) : Calls Try.prog 15 #[.int .i64 9, (.int .u64 a), (.int .u64 b)] W fun e W' => e = .returned (.tuple #[.bool (decide (a < b)), .bool true]) ∧ W = W' := by
  go_enter Try.func15, Try.ntmps15
  go_wp2
  go_ret2
  exact ⟨rfl, rfl⟩
set_option maxHeartbeats 1000000 in
theorem branch_10 (a b : Int) (W : World) : Calls Try.prog 15 #[.int .i64 10, (.int .u64 a), (.int .u64 b)] W fun e W' => e = .returned (.tuple #[.bool (decide (b ≤ a)), .bool true]) ∧ W = W' := by
  go_enter Try.func15, Try.ntmps15
  go_wp2
  go_ret2
  exact ⟨rfl, rfl⟩
set_option maxHeartbeats 1000000 in
theorem branch_none (op : Int) (a b : Int) (h : ∀ k ∈ ([5, 6, 7, 8, 9, 10] : List Int), op ≠ k) (W : World) : Calls Try.prog 15 #[.int .i64 op, (.int .u64 a), (.int .u64 b)] W fun e W' => e = .returned (.tuple #[.bool false, .bool false]) ∧ W = W' := by
  have g5 : (op == 5) = false := by rw [beq_eq_false_iff_ne]; exact h 5 (by decide)
  have g6 : (op == 6) = false := by rw [beq_eq_false_iff_ne]; exact h 6 (by decide)
  have g7 : (op == 7) = false := by rw [beq_eq_false_iff_ne]; exact h 7 (by decide)
  have g8 : (op == 8) = false := by rw [beq_eq_false_iff_ne]; exact h 8 (by decide)
  have g9 : (op == 9) = false := by rw [beq_eq_false_iff_ne]; exact h 9 (by decide)
  have g10 : (op == 10) = false := by rw [beq_eq_false_iff_ne]; exact h 10 (by decide)
  clear h
  go_enter Try.func15, Try.ntmps15
  go_wp2
  go_ret2
  exact ⟨rfl, rfl⟩

end Go.Proofs.Ytfkkjgcglmglhaa
