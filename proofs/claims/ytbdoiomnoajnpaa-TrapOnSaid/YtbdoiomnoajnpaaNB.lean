/- Right, its ways: the second half. -/
import Derived.Test.YtbdoiomnoajnpaaA
import Derived.BigQuiet
import Derived.Deep.QuietTactic
namespace Go.Proofs.Ytbdoiomnoajnpaa
open Go.RowKit Go.Deep Go.Joins
set_option maxHeartbeats 1000000 in
theorem rright_5 (c : Reg) (h0 : (c.s0 == stV c.s0) = true) (h1 : ((bits .andNot .u64 c.s1 46079) == 0) = true) (h2 : ((bits .andNot .u64 c.s2 546) == 0) = true) (h3 : ((bits .andNot .u64 c.s3 2730) == 0) = true) (h4 : ((bits .andNot .u64 c.s4 546) == 0) = true) (g : ((bits .and .u64 c.s5 2) == 0) = false) (W : World) : Calls Try.prog 30 #[regV c] W fun e W' => e = .returned (.bool false) ∧ Below W.heap.size W W' := by
  go_enter Try.func30, Try.ntmps30
  go_wp2_with fail
  go_quiet (first | (go_at_call 32; exact Calls.quiet_of_same ((rstatus_any _ _).mono fun _ _ h => And.intro h.1 h.2.symm)) | (go_at_call 33; exact Calls.quiet_of_same ((satp_any _ _ _).mono fun _ _ h => And.intro h.1 h.2.symm)))
  go_wp2
  go_ret
  exact ⟨rfl, below_drewN ((Below.refl _ _).alloc (Nat.le_refl _) _) _⟩
set_option maxHeartbeats 1000000 in
theorem rright_6 (c : Reg) (h0 : (c.s0 == stV c.s0) = true) (h1 : ((bits .andNot .u64 c.s1 46079) == 0) = true) (h2 : ((bits .andNot .u64 c.s2 546) == 0) = true) (h3 : ((bits .andNot .u64 c.s3 2730) == 0) = true) (h4 : ((bits .andNot .u64 c.s4 546) == 0) = true) (h5 : ((bits .and .u64 c.s5 2) == 0) = true) (g : ((bits .and .u64 c.s10 2) == 0) = false) (W : World) : Calls Try.prog 30 #[regV c] W fun e W' => e = .returned (.bool false) ∧ Below W.heap.size W W' := by
  go_enter Try.func30, Try.ntmps30
  go_wp2_with fail
  go_quiet (first | (go_at_call 32; exact Calls.quiet_of_same ((rstatus_any _ _).mono fun _ _ h => And.intro h.1 h.2.symm)) | (go_at_call 33; exact Calls.quiet_of_same ((satp_any _ _ _).mono fun _ _ h => And.intro h.1 h.2.symm)))
  go_wp2
  go_ret
  exact ⟨rfl, below_drewN ((Below.refl _ _).alloc (Nat.le_refl _) _) _⟩
set_option maxHeartbeats 1000000 in
theorem rright_7 (c : Reg) (h0 : (c.s0 == stV c.s0) = true) (h1 : ((bits .andNot .u64 c.s1 46079) == 0) = true) (h2 : ((bits .andNot .u64 c.s2 546) == 0) = true) (h3 : ((bits .andNot .u64 c.s3 2730) == 0) = true) (h4 : ((bits .andNot .u64 c.s4 546) == 0) = true) (h5 : ((bits .and .u64 c.s5 2) == 0) = true) (h6 : ((bits .and .u64 c.s10 2) == 0) = true) (g : ((bits .and .u64 c.s7 1) == 0) = false) (W : World) : Calls Try.prog 30 #[regV c] W fun e W' => e = .returned (.bool false) ∧ Below W.heap.size W W' := by
  go_enter Try.func30, Try.ntmps30
  go_wp2_with fail
  go_quiet (first | (go_at_call 32; exact Calls.quiet_of_same ((rstatus_any _ _).mono fun _ _ h => And.intro h.1 h.2.symm)) | (go_at_call 33; exact Calls.quiet_of_same ((satp_any _ _ _).mono fun _ _ h => And.intro h.1 h.2.symm)))
  go_wp2
  go_ret
  exact ⟨rfl, below_drewN ((Below.refl _ _).alloc (Nat.le_refl _) _) _⟩
set_option maxHeartbeats 1000000 in
theorem rright_8 (c : Reg) (h0 : (c.s0 == stV c.s0) = true) (h1 : ((bits .andNot .u64 c.s1 46079) == 0) = true) (h2 : ((bits .andNot .u64 c.s2 546) == 0) = true) (h3 : ((bits .andNot .u64 c.s3 2730) == 0) = true) (h4 : ((bits .andNot .u64 c.s4 546) == 0) = true) (h5 : ((bits .and .u64 c.s5 2) == 0) = true) (h6 : ((bits .and .u64 c.s10 2) == 0) = true) (h7 : ((bits .and .u64 c.s7 1) == 0) = true) (g : ((bits .and .u64 c.s12 1) == 0) = false) (W : World) : Calls Try.prog 30 #[regV c] W fun e W' => e = .returned (.bool false) ∧ Below W.heap.size W W' := by
  go_enter Try.func30, Try.ntmps30
  go_wp2_with fail
  go_quiet (first | (go_at_call 32; exact Calls.quiet_of_same ((rstatus_any _ _).mono fun _ _ h => And.intro h.1 h.2.symm)) | (go_at_call 33; exact Calls.quiet_of_same ((satp_any _ _ _).mono fun _ _ h => And.intro h.1 h.2.symm)))
  go_wp2
  go_ret
  exact ⟨rfl, below_drewN ((Below.refl _ _).alloc (Nat.le_refl _) _) _⟩
set_option maxHeartbeats 1000000 in
theorem rright_9 (c : Reg) (h0 : (c.s0 == stV c.s0) = true) (h1 : ((bits .andNot .u64 c.s1 46079) == 0) = true) (h2 : ((bits .andNot .u64 c.s2 546) == 0) = true) (h3 : ((bits .andNot .u64 c.s3 2730) == 0) = true) (h4 : ((bits .andNot .u64 c.s4 546) == 0) = true) (h5 : ((bits .and .u64 c.s5 2) == 0) = true) (h6 : ((bits .and .u64 c.s10 2) == 0) = true) (h7 : ((bits .and .u64 c.s7 1) == 0) = true) (h8 : ((bits .and .u64 c.s12 1) == 0) = true) (g : (spV 0 c.s15 == c.s15) = false) (W : World) : Calls Try.prog 30 #[regV c] W fun e W' => e = .returned (.bool false) ∧ Below W.heap.size W W' := by
  go_enter Try.func30, Try.ntmps30
  go_wp2_with fail
  go_quiet (first | (go_at_call 32; exact Calls.quiet_of_same ((rstatus_any _ _).mono fun _ _ h => And.intro h.1 h.2.symm)) | (go_at_call 33; exact Calls.quiet_of_same ((satp_any _ _ _).mono fun _ _ h => And.intro h.1 h.2.symm)))
  go_wp2
  go_ret
  exact ⟨rfl, below_drewN ((Below.refl _ _).alloc (Nat.le_refl _) _) _⟩
set_option maxHeartbeats 1000000 in
theorem rright_all (c : Reg) (h0 : (c.s0 == stV c.s0) = true) (h1 : ((bits .andNot .u64 c.s1 46079) == 0) = true) (h2 : ((bits .andNot .u64 c.s2 546) == 0) = true) (h3 : ((bits .andNot .u64 c.s3 2730) == 0) = true) (h4 : ((bits .andNot .u64 c.s4 546) == 0) = true) (h5 : ((bits .and .u64 c.s5 2) == 0) = true) (h6 : ((bits .and .u64 c.s10 2) == 0) = true) (h7 : ((bits .and .u64 c.s7 1) == 0) = true) (h8 : ((bits .and .u64 c.s12 1) == 0) = true) (h9 : (spV 0 c.s15 == c.s15) = true) (W : World) : Calls Try.prog 30 #[regV c] W fun e W' => e = .returned (.bool true) ∧ Below W.heap.size W W' := by
  go_enter Try.func30, Try.ntmps30
  go_wp2_with fail
  go_quiet (first | (go_at_call 32; exact Calls.quiet_of_same ((rstatus_any _ _).mono fun _ _ h => And.intro h.1 h.2.symm)) | (go_at_call 33; exact Calls.quiet_of_same ((satp_any _ _ _).mono fun _ _ h => And.intro h.1 h.2.symm)))
  go_wp2
  go_ret
  exact ⟨rfl, below_drewN ((Below.refl _ _).alloc (Nat.le_refl _) _) _⟩

end Go.Proofs.Ytbdoiomnoajnpaa
