/- there, loads, spot. -/
import Derived.Test.YtnedhjaphfjdmaaRA
namespace Go.Proofs.Ytnedhjaphfjdmaa
open Go.RowKit Go.Deep Go.Joins
theorem there_iff {n : Nat} {t size : Int} : thereB n t size = true ↔ 0 ≤ size ∧ 2147483648 ≤ t ∧ t - 2147483648 + size ≤ n := by
  unfold thereB; simp [and_assoc]
theorem there_no {n : Nat} {t size : Int} : thereB n t size = false ↔ ¬ (0 ≤ size ∧ 2147483648 ≤ t ∧ t - 2147483648 + size ≤ n) := by
  rw [← there_iff]; simp
theorem u64_under (t : Int) (h0 : 0 ≤ t) (h1 : t < 2147483648) : IntKind.u64.wrap (t - 2147483648) = t - 2147483648 + 18446744073709551616 := by
  rw [IntKind.wrap_u64]; omega
set_option maxHeartbeats 400000 in
theorem there_any (p : Option Addr) (n cap : Nat) (mv ev : Value) (t size : Int) (w : World) (hn : n ≤ 9223372036854775807) (ht0 : 0 ≤ t) (ht1 : t ≤ 18446744073709551615) (hs0 : -9223372036854775808 ≤ size) (hs1 : size ≤ 9223372036854775807) :
    Calls Try.prog 55 #[.agg #[.slice p n cap, mv, ev], .int .u64 t, .int .i64 size] w fun e w' => e = .returned (.bool (thereB n t size)) ∧ Below w.heap.size w w' := by
  by_cases h0 : size < 0
  · have E := Lib.hid ((there_no (n := n) (t := t) (size := size)).2 (by omega))
    go_enter Try.func55, Try.ntmps55
    go_wp2
    go_ret
    exact ⟨ret_bool E.out.symm, (Below.refl _ _).alloc (Nat.le_refl _) _⟩
  by_cases h1 : (n : Int) < size
  · have E := Lib.hid ((there_no (n := n) (t := t) (size := size)).2 (by omega))
    go_enter Try.func55, Try.ntmps55
    go_wp2
    go_ret
    exact ⟨ret_bool E.out.symm, (Below.refl _ _).alloc (Nat.le_refl _) _⟩
  by_cases h2 : t < 2147483648
  · have E := Lib.hid ((there_no (n := n) (t := t) (size := size)).2 (by omega))
    have F := Lib.hid (u64_under t ht0 h2)
    go_enter Try.func55, Try.ntmps55
    go_wp2
    go_ret
    exact ⟨ret_bool (by rw [E.out, F.out]; exact decide_eq_false (by omega)), (Below.refl _ _).alloc (Nat.le_refl _) _⟩
  · by_cases h3 : t - 2147483648 + size ≤ n
    · have E := Lib.hid ((there_iff (n := n) (t := t) (size := size)).2 (by omega))
      go_enter Try.func55, Try.ntmps55
      go_wp2
      go_ret
      exact ⟨ret_bool (by rw [E.out]; exact decide_eq_true (by omega)), (Below.refl _ _).alloc (Nat.le_refl _) _⟩
    · have E := Lib.hid ((there_no (n := n) (t := t) (size := size)).2 (by omega))
      go_enter Try.func55, Try.ntmps55
      go_wp2
      go_ret
      exact ⟨ret_bool (by rw [E.out]; exact decide_eq_false (by omega)), (Below.refl _ _).alloc (Nat.le_refl _) _⟩

def leafB (n : Nat) (k : Int) : Bool := decide (0 ≤ k ∧ k < ((n / 256 : Nat) : Int))
def loadsB (size : Int) : Bool := decide (size = 1 ∨ size = 2 ∨ size = 4 ∨ size = 8)
set_option maxHeartbeats 400000 in
theorem loads_any (size : Int) (w : World) : Calls Try.prog 60 #[.int .i64 size] w fun e w' => e = .returned (.bool (loadsB size)) ∧ w = w' := by
  go_enter Try.func60, Try.ntmps60
  go_wp2
  all_goals go_ret
  all_goals refine ⟨ret_bool ?_, rfl⟩
  all_goals (unfold loadsB; apply Bool.eq_iff_iff.2; simp only [Bool.or_eq_true, decide_eq_true_eq, beq_iff_eq]; try (first | omega | (simp only [true_iff]; omega)))

/-- Where the reference finds bytes: -1, or how far on. -/
def spotV (n : Nat) (t size : Int) : Int := if 1 ≤ size ∧ thereB n t size = true then t - 2147483648 else -1
set_option maxHeartbeats 1000000 in
theorem spot_any (p : Option Addr) (n cap : Nat) (mv ev : Value) (t size : Int) (w : World) (hn : n ≤ 9223372036854775807) (ht0 : 0 ≤ t) (ht1 : t ≤ 18446744073709551615) (hs0 : -9223372036854775808 ≤ size) (hs1 : size ≤ 9223372036854775807) :
    Calls Try.prog 39 #[.agg #[.slice p n cap, mv, ev], .int .u64 t, .int .i64 size] w fun e w' => e = .returned (.int .i64 (spotV n t size)) ∧ Below w.heap.size w w' := by
  have E1 : ¬ (1 ≤ size ∧ thereB n t size = true) → Hid (spotV n t size = -1) := fun h => Lib.hid (if_neg h)
  have E2 : 1 ≤ size → 2147483648 ≤ t → t - 2147483648 + size ≤ n → Hid (spotV n t size = t - 2147483648) := fun h1 h2 h3 => Lib.hid (if_pos ⟨h1, there_iff.2 ⟨by omega, h2, h3⟩⟩)
  by_cases h0 : size < 1
  · have E := E1 (by omega)
    clear E1 E2
    go_enter Try.func39, Try.ntmps39
    go_wp2
    go_ret
    exact ⟨ret_int E.out.symm, (Below.refl _ _).alloc (Nat.le_refl _) _⟩
  by_cases h1 : t < 2147483648
  · have E := E1 (by rw [there_iff]; omega)
    clear E1 E2
    go_enter Try.func39, Try.ntmps39
    go_wp2
    go_ret
    exact ⟨ret_int E.out.symm, (Below.refl _ _).alloc (Nat.le_refl _) _⟩
  by_cases h2 : (n : Int) ≤ t - 2147483648
  · have E := E1 (by rw [there_iff]; omega)
    clear E1 E2
    go_enter Try.func39, Try.ntmps39
    go_wp2
    go_ret
    exact ⟨ret_int E.out.symm, (Below.refl _ _).alloc (Nat.le_refl _) _⟩
  by_cases h3 : (n : Int) - (t - 2147483648) < size
  · have E := E1 (by rw [there_iff]; omega)
    clear E1 E2
    go_enter Try.func39, Try.ntmps39
    go_wp2
    go_ret
    exact ⟨ret_int E.out.symm, (Below.refl _ _).alloc (Nat.le_refl _) _⟩
  · have E := E2 (by omega) (by omega) (by omega)
    clear E1 E2
    go_enter Try.func39, Try.ntmps39
    go_wp2
    go_ret
    exact ⟨ret_int E.out.symm, (Below.refl _ _).alloc (Nat.le_refl _) _⟩
end Go.Proofs.Ytnedhjaphfjdmaa
