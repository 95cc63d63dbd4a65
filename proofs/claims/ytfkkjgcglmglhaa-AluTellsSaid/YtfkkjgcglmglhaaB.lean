/- Quotients and rests of the program. -/
import Derived.Test.YtfkkjgcglmglhaaA
namespace Go.Proofs.Ytfkkjgcglmglhaa
open Go.RowKit Go.Deep Go.Joins

def quV (a b : Int) : Int := if b = 0 then 18446744073709551615 else a / b
def reV (a b : Int) : Int := if b = 0 then a else a % b
def qsV (a b : Int) : Int := if b = 0 then 18446744073709551615 else uV (wrap64 ((wrap64 a).tdiv (wrap64 b)))
def rsV (a b : Int) : Int := if b = 0 then a else uV ((wrap64 a).tmod (wrap64 b))
theorem u64_quV (a b : Int) (ha : U64 a) (hb : U64 b) : U64 (quV a b) := by
  unfold quV
  split
  · exact ⟨by omega, by omega⟩
  · obtain ⟨a, rfl⟩ := Int.eq_ofNat_of_zero_le ha.1
    obtain ⟨b, rfl⟩ := Int.eq_ofNat_of_zero_le hb.1
    have h1 := Nat.div_le_self a b
    have h2 : (a : Int) < 18446744073709551616 := ha.2
    rw [← Int.natCast_ediv]
    generalize a / b = q at *
    exact ⟨by omega, by omega⟩
theorem u64_reV (a b : Int) (ha : U64 a) (hb : U64 b) : U64 (reV a b) := by
  unfold reV
  split
  · exact ha
  · obtain ⟨a, rfl⟩ := Int.eq_ofNat_of_zero_le ha.1
    obtain ⟨b, rfl⟩ := Int.eq_ofNat_of_zero_le hb.1
    have h1 := Nat.mod_le a b
    have h2 : (a : Int) < 18446744073709551616 := ha.2
    rw [← Int.natCast_emod]
    generalize a % b = q at *
    exact ⟨by omega, by omega⟩
theorem S_ne (b : Int) (hb : U64 b) (h : b ≠ 0) : wrap64 b ≠ 0 := by
  rw [S_eq]; have := hb.1; have := hb.2; omega
theorem tdiv_u64 (a b : Int) (ha : U64 a) (hb : U64 b) (h : b ≠ 0) : a.tdiv b = a / b ∧ uV (a / b) = a / b := by
  have h1 := u64_quV a b ha hb
  unfold quV at h1
  rw [if_neg h] at h1
  refine ⟨Int.tdiv_eq_ediv_of_nonneg ha.1, ?_⟩
  rw [uV_eq]
  have := h1.1; have := h1.2
  omega
theorem tmod_u64 (a b : Int) (ha : U64 a) (hb : U64 b) (h : b ≠ 0) : a.tmod b = a % b ∧ uV (a % b) = a % b := by
  have h1 := u64_reV a b ha hb
  unfold reV at h1
  rw [if_neg h] at h1
  refine ⟨Int.tmod_eq_emod_of_nonneg ha.1, ?_⟩
  rw [uV_eq]
  have := h1.1; have := h1.2
  omega
set_option maxHeartbeats 1000000 in
theorem quotient_z (a b : Int) (h : b = 0) (W : World) : Calls Try.prog 40 #[(.int .u64 a), (.int .u64 b)] W fun e W' => e = .returned (.int .u64 18446744073709551615) ∧ W = W' := by
  subst h
  go_enter Try.func40, Try.ntmps40
  go_wp2
  go_ret
  exact ⟨rfl, rfl⟩
set_option maxHeartbeats 1000000 in
theorem quotient_n (a b : Int) (ha : U64 a) (hb : U64 b) (h : b ≠ 0) (W : World) : Calls Try.prog 40 #[(.int .u64 a), (.int .u64 b)] W fun e W' => e = .returned (.int .u64 (a / b)) ∧ W = W' := by
  have p : (b == 0) = false := by rw [beq_eq_false_iff_ne]; exact h
  go_enter Try.func40, Try.ntmps40
  go_wp2
  go_ret
  refine ⟨ret_int ?_, rfl⟩
  have E := tdiv_u64 a b ha hb h
  rw [← E.2, E.1]
  rfl
theorem quotient_any (a b : Int) (ha : U64 a) (hb : U64 b) (W : World) : Calls Try.prog 40 #[(.int .u64 a), (.int .u64 b)] W fun e W' => e = .returned (.int .u64 (quV a b)) ∧ W = W' := by
  unfold quV
  by_cases h : b = 0
  · rw [if_pos h]; exact quotient_z a b h W
  · rw [if_neg h]; exact quotient_n a b ha hb h W
set_option maxHeartbeats 1000000 in
theorem rest_z (a b : Int) (h : b = 0) (W : World) : Calls Try.prog 42 #[(.int .u64 a), (.int .u64 b)] W fun e W' => e = .returned (.int .u64 a) ∧ W = W' := by
  subst h
  go_enter Try.func42, Try.ntmps42
  go_wp2
  go_ret
  exact ⟨rfl, rfl⟩
set_option maxHeartbeats 1000000 in
theorem rest_n (a b : Int) (ha : U64 a) (hb : U64 b) (h : b ≠ 0) (W : World) : Calls Try.prog 42 #[(.int .u64 a), (.int .u64 b)] W fun e W' => e = .returned (.int .u64 (a % b)) ∧ W = W' := by
  have p : (b == 0) = false := by rw [beq_eq_false_iff_ne]; exact h
  go_enter Try.func42, Try.ntmps42
  go_wp2
  go_ret
  refine ⟨ret_int ?_, rfl⟩
  have E := tmod_u64 a b ha hb h
  rw [← E.2, E.1]
  exact E.2.symm
theorem rest_any (a b : Int) (ha : U64 a) (hb : U64 b) (W : World) : Calls Try.prog 42 #[(.int .u64 a), (.int .u64 b)] W fun e W' => e = .returned (.int .u64 (reV a b)) ∧ W = W' := by
  unfold reV
  by_cases h : b = 0
  · rw [if_pos h]; exact rest_z a b h W
  · rw [if_neg h]; exact rest_n a b ha hb h W
set_option maxHeartbeats 1000000 in
theorem quotientS_z (a b : Int) (h : b = 0) (W : World) : Calls Try.prog 39 #[(.int .u64 a), (.int .u64 b)] W fun e W' => e = .returned (.int .u64 18446744073709551615) ∧ W = W' := by
  subst h
  go_enter Try.func39, Try.ntmps39
  go_wp2
  go_ret
  exact ⟨rfl, rfl⟩
set_option maxHeartbeats 1000000 in
theorem quotientS_n (a b : Int) (hb : U64 b) (h : b ≠ 0) (W : World) : Calls Try.prog 39 #[(.int .u64 a), (.int .u64 b)] W fun e W' => e = .returned (.int .u64 (uV (wrap64 ((wrap64 a).tdiv (wrap64 b))))) ∧ W = W' := by
  have p : (b == 0) = false := by rw [beq_eq_false_iff_ne]; exact h
  have p2 : ¬ wrap64 b = 0 := S_ne b hb h
  go_enter Try.func39, Try.ntmps39
  go_wp2
  go_ret
  exact ⟨rfl, rfl⟩
theorem quotientS_any (a b : Int) (hb : U64 b) (W : World) : Calls Try.prog 39 #[(.int .u64 a), (.int .u64 b)] W fun e W' => e = .returned (.int .u64 (qsV a b)) ∧ W = W' := by
  unfold qsV
  by_cases h : b = 0
  · rw [if_pos h]; exact quotientS_z a b h W
  · rw [if_neg h]; exact quotientS_n a b hb h W
set_option maxHeartbeats 1000000 in
theorem restS_z (a b : Int) (h : b = 0) (W : World) : Calls Try.prog 41 #[(.int .u64 a), (.int .u64 b)] W fun e W' => e = .returned (.int .u64 a) ∧ W = W' := by
  subst h
  go_enter Try.func41, Try.ntmps41
  go_wp2
  go_ret
  exact ⟨rfl, rfl⟩
set_option maxHeartbeats 1000000 in
theorem restS_n (a b : Int) (hb : U64 b) (h : b ≠ 0) (W : World) : Calls Try.prog 41 #[(.int .u64 a), (.int .u64 b)] W fun e W' => e = .returned (.int .u64 (uV ((wrap64 a).tmod (wrap64 b)))) ∧ W = W' := by
  have p : (b == 0) = false := by rw [beq_eq_false_iff_ne]; exact h
  have p2 : ¬ wrap64 b = 0 := S_ne b hb h
  go_enter Try.func41, Try.ntmps41
  go_wp2
  go_ret
  exact ⟨rfl, rfl⟩
theorem restS_any (a b : Int) (hb : U64 b) (W : World) : Calls Try.prog 41 #[(.int .u64 a), (.int .u64 b)] W fun e W' => e = .returned (.int .u64 (rsV a b)) ∧ W = W' := by
  unfold rsV
  by_cases h : b = 0
  · rw [if_pos h]; exact restS_z a b h W
  · rw [if_neg h]; exact restS_n a b hb h W

end Go.Proofs.Ytfkkjgcglmglhaa
