/- Numbers of 64 bits; the small functions of the program. -/
import Derived.Test.YtfkkjgcglmglhaaRows
import Derived.Below
import Derived.Deep.Draws
import Derived.Deep.Slices
import Derived.BigQuiet
import Derived.Carry
import Derived.ChangeMaps
import Derived.Deep.DeepCutAuto
import Derived.Deep.RegionHeld3
import Derived.Deep.RegionWith
import Derived.IntWalk
import Derived.Laws.BitsAllLaws
import Derived.Laws.Bits64b
import Derived.Lib.Hide
import Derived.Lib.Mul64
import Derived.Lib.SmallJoins
import Derived.OpenShut
import Derived.ProofKit
import Derived.SizedLaws
import Derived.WalkKit
import Derived.WalkLawsBesides
namespace Go.Proofs.Ytfkkjgcglmglhaa
open Go.RowKit Go.Deep Go.Joins

theorem ret_int {k : IntKind} {a b : Int} (h : a = b) : Ending.returned (.int k a) = .returned (.int k b) := by rw [h]
theorem ret_pair {a b : Int} {p q : Bool} (h : a = b) (g : p = q) : Ending.returned (.tuple #[.int .u64 a, .bool p]) = .returned (.tuple #[.int .u64 b, .bool q]) := by rw [h, g]
theorem ret_bool {a b : Bool} (h : a = b) : Ending.returned (.bool a) = .returned (.bool b) := by rw [h]
/-- A number of 64 bits. -/
def U64 (x : Int) : Prop := 0 ≤ x ∧ x < 18446744073709551616
def uV (x : Int) : Int := IntKind.u64.wrap x
def wordV (x : Int) : Int := IntKind.u64.wrap (wrap32 x)
def lowV (x : Int) : Int := IntKind.u32.wrap x
theorem uV_eq (x : Int) : uV x = x % 18446744073709551616 := IntKind.wrap_u64 x
theorem S_eq (x : Int) : wrap64 x = (x + 9223372036854775808) % 18446744073709551616 - 9223372036854775808 := by unfold wrap64; omega
theorem S_zero : wrap64 0 = 0 := by rw [S_eq]; omega
theorem T_eq (x : Int) : wrap32 x = (x + 2147483648) % 4294967296 - 2147483648 := by unfold wrap32; omega
theorem wordV_eq (x : Int) : wordV x = ((x + 2147483648) % 4294967296 - 2147483648) % 18446744073709551616 := by unfold wordV; rw [IntKind.wrap_u64, T_eq]
theorem lowV_eq (x : Int) : lowV x = x % 4294967296 := IntKind.wrap_u32 x
theorem u64_uV (x : Int) : U64 (uV x) := by rw [uV_eq]; unfold U64; omega
theorem u64_wordV (x : Int) : U64 (wordV x) := by rw [wordV_eq]; unfold U64; omega
theorem u64_lowV (x : Int) : U64 (lowV x) := by rw [lowV_eq]; unfold U64; omega
set_option maxHeartbeats 1000000 in
theorem word_any (n : Int) (W : World) : Calls Try.prog 11 #[(.int .u64 n)] W fun e W' => e = .returned (.int .u64 (wordV n)) ∧ W = W' := by
  go_enter Try.func11, Try.ntmps11
  go_wp2
  go_ret
  exact ⟨rfl, rfl⟩
set_option maxHeartbeats 1000000 in
theorem below_any (a b : Int) (W : World) : Calls Try.prog 32 #[(.int .u64 a), (.int .u64 b)] W fun e W' => e = .returned (.bool (decide (wrap64 a < wrap64 b))) ∧ W = W' := by
  go_enter Try.func32, Try.ntmps32
  go_wp2
  go_ret
  exact ⟨rfl, rfl⟩
set_option maxHeartbeats 1000000 in
theorem low_any (n : Int) (W : World) : Calls Try.prog 43 #[(.int .u64 n)] W fun e W' => e = .returned (.int .u64 (lowV n)) ∧ W = W' := by
  go_enter Try.func43, Try.ntmps43
  go_wp2
  go_ret
  refine ⟨ret_int ?_, rfl⟩
  rw [lowV_eq]
def oneV (p : Bool) : Int := bif p then 1 else 0
theorem oneIf_any (p : Bool) (W : World) : Calls Try.prog 36 #[.bool p] W fun e W' => e = .returned (.int .u64 (oneV p)) ∧ W = W' := by
  cases p
  · go_enter Try.func36, Try.ntmps36
    go_wp2
    go_ret
    exact ⟨rfl, rfl⟩
  · go_enter Try.func36, Try.ntmps36
    go_wp2
    go_ret
    exact ⟨rfl, rfl⟩
theorem bit_any (p : Bool) (W : World) : Calls Try.prog 44 #[.bool p] W fun e W' => e = .returned (.int .u64 (oneV p)) ∧ W = W' := by
  cases p
  · go_enter Try.func44, Try.ntmps44
    go_wp2
    go_ret
    exact ⟨rfl, rfl⟩
  · go_enter Try.func44, Try.ntmps44
    go_wp2
    go_ret
    exact ⟨rfl, rfl⟩

namespace MulN
theorem maskN (a : Nat) (ha : a < 18446744073709551616) : bits .and .u64 (a : Int) 4294967295 = ((a % 4294967296 : Nat) : Int) := by
  have h := bits_and_u64_nat a 4294967295 ha (by omega)
  have e : a &&& 4294967295 = a % 4294967296 := Nat.and_two_pow_sub_one_eq_mod a 32
  rw [e] at h
  exact h
theorem divN (a : Nat) : (a : Int) / 4294967296 = ((a / 4294967296 : Nat) : Int) := by omega
theorem mulN (a b : Nat) : (a : Int) * (b : Int) = ((a * b : Nat) : Int) := (Int.natCast_mul a b).symm
theorem addN (a b : Nat) : (a : Int) + (b : Int) = ((a + b : Nat) : Int) := (Int.natCast_add a b).symm
theorem wrapN (a : Nat) (ha : a < 18446744073709551616) : IntKind.u64.wrap (a : Int) = (a : Int) := by rw [IntKind.wrap_u64]; omega
theorem wrapM (a : Nat) : IntKind.u64.wrap (a : Int) = ((a % 18446744073709551616 : Nat) : Int) := by rw [IntKind.wrap_u64]; omega
end MulN
open MulN in
set_option maxHeartbeats 1000000 in
theorem mul64_nat (x y : Nat) (hx : x < 18446744073709551616) (hy : y < 18446744073709551616) (W : World) :
    Calls Try.prog 19 #[.int .u64 x, .int .u64 y] W fun e W' => e = .returned (.tuple #[.int .u64 ((x * y / 18446744073709551616 : Nat) : Int), .int .u64 ((x * y % 18446744073709551616 : Nat) : Int)]) ∧ W = W' := by
  obtain ⟨bd, bt, bw, hhi⟩ := Lib.mul64_hi x y hx hy
  have ba := Lib.half_mul_le (a := x / 4294967296) (b := y / 4294967296) (by omega) (by omega)
  have bb := Lib.half_mul_le (a := x / 4294967296) (b := y % 4294967296) (by omega) (by omega)
  have bc := Lib.half_mul_le (a := x % 4294967296) (b := y / 4294967296) (by omega) (by omega)
  have ba' : x / 4294967296 * (y / 4294967296) < 18446744073709551616 := by omega
  have bb' : x / 4294967296 * (y % 4294967296) < 18446744073709551616 := by omega
  have bc' : x % 4294967296 * (y / 4294967296) < 18446744073709551616 := by omega
  have bh1 : x / 4294967296 * (y / 4294967296) + (x / 4294967296 * (y % 4294967296) + x % 4294967296 * (y % 4294967296) / 4294967296) / 4294967296 < 18446744073709551616 := by omega
  have bh : x / 4294967296 * (y / 4294967296) + (x / 4294967296 * (y % 4294967296) + x % 4294967296 * (y % 4294967296) / 4294967296) / 4294967296 + ((x / 4294967296 * (y % 4294967296) + x % 4294967296 * (y % 4294967296) / 4294967296) % 4294967296 + x % 4294967296 * (y / 4294967296)) / 4294967296 < 18446744073709551616 := by omega
  go_enter Try.func19, Try.ntmps19
  go_wp2
  simp only [maskN x hx, maskN y hy, divN, mulN, addN, wrapN _ bd, wrapN _ bb', wrapN _ bt, maskN _ bt, wrapN _ bc', wrapN _ bw, wrapN _ ba', wrapN _ bh1, wrapN _ bh, wrapM (x * y)]
  rw [hhi]
  go_ret2
  exact ⟨rfl, rfl⟩
theorem mul64_any (x y : Int) (hx : U64 x) (hy : U64 y) (W : World) : Calls Try.prog 19 #[(.int .u64 x), (.int .u64 y)] W fun e W' => e = .returned (.tuple #[.int .u64 (x * y / 18446744073709551616), .int .u64 (uV (x * y))]) ∧ W = W' := by
  obtain ⟨a, rfl⟩ := Int.eq_ofNat_of_zero_le hx.1
  obtain ⟨b, rfl⟩ := Int.eq_ofNat_of_zero_le hy.1
  refine (mul64_nat a b (by have := hx.2; omega) (by have := hy.2; omega) W).mono ?_
  rintro e w ⟨rfl, rfl⟩
  refine ⟨?_, rfl⟩
  simp only [uV_eq, Int.natCast_ediv, Int.natCast_emod, Int.natCast_mul, Int.cast_ofNat_Int]
set_option maxHeartbeats 1000000 in
theorem upper_any (a b : Int) (ha : U64 a) (hb : U64 b) (W : World) : Calls Try.prog 37 #[(.int .u64 a), (.int .u64 b)] W fun e W' => e = .returned (.int .u64 (a * b / 18446744073709551616)) ∧ W = W' := by
  go_enter Try.func37, Try.ntmps37
  go_wp2_with (first | (go_at_call 19; (with_reducible refine (mul64_any a b ha hb _).mono ?_); rintro e w' ⟨rfl, rfl⟩) | fail)
  go_ret
  exact ⟨rfl, rfl⟩
def lessV (a b : Int) : Int := bif decide (wrap64 a < 0) then b else 0
set_option maxHeartbeats 1000000 in
theorem less_y (a b : Int) (h : decide (wrap64 a < 0) = true) (W : World) : Calls Try.prog 38 #[(.int .u64 a), (.int .u64 b)] W fun e W' => e = .returned (.int .u64 b) ∧ W = W' := by
  have h0 : decide (wrap64 a < wrap64 0) = true := by rw [S_zero]; exact h
  go_enter Try.func38, Try.ntmps38
  go_wp2_with (first | (go_at_call 32; (with_reducible refine (below_any a 0 _).mono ?_); rintro e w' ⟨rfl, rfl⟩) | fail)
  go_ret
  exact ⟨rfl, rfl⟩
set_option maxHeartbeats 1000000 in
theorem less_n (a b : Int) (h : decide (wrap64 a < 0) = false) (W : World) : Calls Try.prog 38 #[(.int .u64 a), (.int .u64 b)] W fun e W' => e = .returned (.int .u64 0) ∧ W = W' := by
  have h0 : decide (wrap64 a < wrap64 0) = false := by rw [S_zero]; exact h
  go_enter Try.func38, Try.ntmps38
  go_wp2_with (first | (go_at_call 32; (with_reducible refine (below_any a 0 _).mono ?_); rintro e w' ⟨rfl, rfl⟩) | fail)
  go_ret
  exact ⟨rfl, rfl⟩
theorem less_any (a b : Int) (W : World) : Calls Try.prog 38 #[(.int .u64 a), (.int .u64 b)] W fun e W' => e = .returned (.int .u64 (lessV a b)) ∧ W = W' := by
  unfold lessV
  cases h : decide (wrap64 a < 0)
  · exact less_n a b h W
  · exact less_y a b h W

end Go.Proofs.Ytfkkjgcglmglhaa
