/- Arithmetic of the laws. -/
import Derived.Test.YtfkkjgcglmglhaaD
namespace Go.Proofs.Ytfkkjgcglmglhaa
open Go.RowKit Go.Deep Go.Joins

theorem bits_sum (x : Nat) : ∀ y : Nat, (x &&& y) + (x ||| y) = x + y ∧ (x ^^^ y) + (x &&& y) = (x ||| y) := by
  induction x using Nat.strongRecOn with
  | ind x ih =>
    intro y
    by_cases hx : x = 0
    · subst hx; simp
    obtain ⟨h1, h2⟩ := ih (x / 2) (by omega) (y / 2)
    have a1 : (x &&& y) / 2 = x / 2 &&& y / 2 := Nat.and_div_two
    have a2 : (x ||| y) / 2 = x / 2 ||| y / 2 := Nat.or_div_two
    have a3 : (x ^^^ y) / 2 = x / 2 ^^^ y / 2 := Nat.xor_div_two
    have m1 : (x &&& y) % 2 = x % 2 &&& y % 2 := Nat.and_mod_two_pow (n := 1)
    have m2 : (x ||| y) % 2 = x % 2 ||| y % 2 := Nat.or_mod_two_pow (n := 1)
    have m3 : (x ^^^ y) % 2 = x % 2 ^^^ y % 2 := Nat.xor_mod_two_pow (n := 1)
    rw [← a1, ← a2] at h1
    rw [← a1, ← a2, ← a3] at h2
    have hx2 : x % 2 = 0 ∨ x % 2 = 1 := by omega
    have hy2 : y % 2 = 0 ∨ y % 2 = 1 := by omega
    rcases hx2 with p | p <;> rcases hy2 with q | q <;> rw [p, q] at m1 m2 m3 <;>
      simp only [Nat.and_self, Nat.or_self, Nat.xor_self, Nat.and_zero, Nat.zero_and, Nat.or_zero, Nat.zero_or, Nat.xor_zero, Nat.zero_xor] at m1 m2 m3 <;>
      constructor <;> omega
theorem and_or (a b : Int) (ha : U64 a) (hb : U64 b) : IntKind.u64.wrap (bits .and .u64 a b + bits .or .u64 a b) = uV (a + b) ∧ IntKind.u64.wrap (bits .or .u64 a b - bits .and .u64 a b) = bits .xor .u64 a b := by
  obtain ⟨a, rfl⟩ := Int.eq_ofNat_of_zero_le ha.1
  obtain ⟨b, rfl⟩ := Int.eq_ofNat_of_zero_le hb.1
  have h1 : a < 18446744073709551616 := by have := ha.2; omega
  have h2 : b < 18446744073709551616 := by have := hb.2; omega
  rw [bits_and_u64_nat a b h1 h2, bits_or_u64_nat a b h1 h2, bits_xor_u64_nat a b h1 h2]
  obtain ⟨s1, s2⟩ := bits_sum a b
  have h3 : (a ^^^ b) < 2 ^ 64 := Nat.xor_lt_two_pow h1 h2
  generalize a &&& b = n at *
  generalize a ||| b = m at *
  generalize a ^^^ b = x at *
  rw [IntKind.wrap_u64, IntKind.wrap_u64, uV_eq]
  constructor <;> omega
theorem add_back (a b : Int) (ha : U64 a) : uV (uV (a + b) - b) = a := by
  have := ha.1; have := ha.2
  rw [uV_eq, uV_eq]; omega
/-- A rest with its sign. -/
theorem tmod_bound (A B : Int) : (0 ≤ A → 0 ≤ A.tmod B ∧ A.tmod B ≤ A) ∧ (A ≤ 0 → A ≤ A.tmod B ∧ A.tmod B ≤ 0) := by
  have pos : ∀ (n : Nat) (B : Int), 0 ≤ (n : Int).tmod B ∧ (n : Int).tmod B ≤ n := by
    intro n B
    have h : ∃ m : Nat, (n : Int).tmod B = (n : Int).tmod (m : Int) := by
      rcases Int.natAbs_eq B with e | e
      · exact ⟨B.natAbs, by rw [← e]⟩
      · exact ⟨B.natAbs, by rw [e, Int.tmod_neg, Int.natAbs_neg, Int.natAbs_natCast]⟩
    obtain ⟨m, hm⟩ := h
    rw [hm, ← Int.ofNat_tmod]
    have := Nat.mod_le n m
    constructor <;> omega
  constructor
  · intro h
    obtain ⟨n, rfl⟩ := Int.eq_ofNat_of_zero_le h
    exact pos n B
  · intro h
    obtain ⟨n, hn⟩ := Int.eq_ofNat_of_zero_le (show 0 ≤ -A by omega)
    have hA : A = -(n : Int) := by omega
    have := pos n B
    rw [hA, Int.neg_tmod]
    constructor <;> omega
theorem S_bound (a : Int) : -9223372036854775808 ≤ wrap64 a ∧ wrap64 a ≤ 9223372036854775807 := by
  have := S_eq a; constructor <;> omega
theorem S_shift (a : Int) (ha : U64 a) : ∃ k : Int, a = wrap64 a + 18446744073709551616 * k := by
  have := S_eq a; have := ha.1; have := ha.2
  by_cases h : a < 9223372036854775808
  · exact ⟨0, by omega⟩
  · exact ⟨1, by omega⟩
theorem S_mod (a : Int) : wrap64 a % 18446744073709551616 = a % 18446744073709551616 := by
  have := S_eq a; omega
theorem divided (a b : Int) (ha : U64 a) (hb : U64 b) (h : b ≠ 0) : IntKind.u64.wrap (IntKind.u64.wrap (qsV a b * b) + rsV a b) = a := by
  unfold qsV rsV
  rw [if_neg h, if_neg h]
  simp only [IntKind.wrap_u64, uV_eq]
  rw [S_mod]
  obtain ⟨k, hk⟩ := S_shift b hb
  have E := Int.mul_tdiv_add_tmod (wrap64 a) (wrap64 b)
  have A := S_mod a
  have a1 := ha.1; have a2 := ha.2
  generalize (wrap64 a).tdiv (wrap64 b) = q at *
  generalize (wrap64 a).tmod (wrap64 b) = r at *
  have e0 : q % 18446744073709551616 * b % 18446744073709551616 = q * b % 18446744073709551616 := by rw [Int.mul_emod, Int.emod_emod, ← Int.mul_emod]
  rw [e0, ← Int.add_emod]
  have e : q * b + r = wrap64 a + 18446744073709551616 * (q * k) := by
    rw [← E]
    conv => lhs; rw [hk]
    rw [Int.mul_add, Int.mul_comm q (wrap64 b), Int.mul_left_comm q]
    omega
  rw [e, Int.add_mul_emod_self_left, A]
  omega
theorem divided_u (a b : Int) (ha : U64 a) (h : b ≠ 0) : IntKind.u64.wrap (IntKind.u64.wrap (quV a b * b) + reV a b) = a := by
  unfold quV reV
  rw [if_neg h, if_neg h]
  simp only [IntKind.wrap_u64]
  have E := Int.mul_ediv_add_emod a b
  rw [Int.mul_comm] at E
  have a1 := ha.1; have a2 := ha.2
  have r1 := Int.emod_nonneg a h
  generalize a / b * b = q at *
  generalize a % b = r at *
  omega
theorem rest_sign (a b : Int) (h : b ≠ 0) : rsV a b = 0 ∨ (rsV a b ≠ 0 ∧ decide (wrap64 (rsV a b) < 0) = decide (wrap64 a < 0)) := by
  by_cases e : rsV a b = 0
  · exact .inl e
  · refine .inr ⟨e, ?_⟩
    unfold rsV at *
    rw [if_neg h] at *
    have B := tmod_bound (wrap64 a) (wrap64 b)
    have C := S_bound a
    generalize (wrap64 a).tmod (wrap64 b) = r at *
    generalize wrap64 a = A at *
    have : wrap64 (uV r) = r := by
      rw [S_eq, uV_eq]
      rcases Int.le_total 0 A with g | g
      · have := B.1 g; omega
      · have := B.2 g; omega
    rw [this]
    have hr : r ≠ 0 := fun z => e (by rw [z, uV_eq]; rfl)
    rcases Int.le_total 0 A with g | g
    · have := B.1 g
      rw [decide_eq_false (by omega), decide_eq_false (by omega)]
    · have := B.2 g
      rw [decide_eq_true (by omega), decide_eq_true (by omega)]

end Go.Proofs.Ytfkkjgcglmglhaa
