/- Right, its ways: the second half. -/
import Derived.Test.YthchakfffenoiaaFA
import Derived.BigQuiet
import Derived.Deep.QuietTactic
namespace Go.Proofs.Ythchakfffenoiaa
open Go.RowKit Go.Deep Go.Joins
set_option maxHeartbeats 1000000 in
theorem right_6 (c : Reg) (h0 : (stV c.s0 == c.s0) = true) (h1 : ((bits .andNot .u64 c.s1 46079) == 0) = true) (h2 : ((bits .andNot .u64 c.s2 546) == 0) = true) (h3 : ((bits .andNot .u64 c.s3 2730) == 0) = true) (h4 : ((bits .andNot .u64 c.s4 546) == 0) = true) (h5 : ((bits .andNot .u64 c.s5 18446744073709551613) == 0) = true) (g : ((bits .andNot .u64 c.s10 18446744073709551613) == 0) = false) (W : World) : Calls Try.prog 9 #[regV c] W fun e W' => e = .returned (.bool false) ∧ Below W.heap.size W W' := by
  go_enter Try.func9, Try.ntmps9
  go_wp2_with fail
  go_quiet (first | (go_at_call 15; exact Calls.quiet_of_same ((status_any _ _).mono fun _ _ h => And.intro h.1 h.2.symm)) | (go_at_call 16; exact Calls.quiet_of_same ((only_any _ _ _).mono fun _ _ h => And.intro h.1 h.2.symm)) | (go_at_call 17; exact Calls.quiet_of_same ((table_any _ _).mono fun _ _ h => And.intro h.1 h.2.symm)))
  go_wp2
  go_ret
  exact ⟨rfl, below_drewN ((Below.refl _ _).alloc (Nat.le_refl _) _) _⟩
set_option maxHeartbeats 1000000 in
theorem right_7 (c : Reg) (h0 : (stV c.s0 == c.s0) = true) (h1 : ((bits .andNot .u64 c.s1 46079) == 0) = true) (h2 : ((bits .andNot .u64 c.s2 546) == 0) = true) (h3 : ((bits .andNot .u64 c.s3 2730) == 0) = true) (h4 : ((bits .andNot .u64 c.s4 546) == 0) = true) (h5 : ((bits .andNot .u64 c.s5 18446744073709551613) == 0) = true) (h6 : ((bits .andNot .u64 c.s10 18446744073709551613) == 0) = true) (g : ((bits .andNot .u64 c.s7 18446744073709551614) == 0) = false) (W : World) : Calls Try.prog 9 #[regV c] W fun e W' => e = .returned (.bool false) ∧ Below W.heap.size W W' := by
  go_enter Try.func9, Try.ntmps9
  go_wp2_with fail
  go_quiet (first | (go_at_call 15; exact Calls.quiet_of_same ((status_any _ _).mono fun _ _ h => And.intro h.1 h.2.symm)) | (go_at_call 16; exact Calls.quiet_of_same ((only_any _ _ _).mono fun _ _ h => And.intro h.1 h.2.symm)) | (go_at_call 17; exact Calls.quiet_of_same ((table_any _ _).mono fun _ _ h => And.intro h.1 h.2.symm)))
  go_wp2
  go_ret
  exact ⟨rfl, below_drewN ((Below.refl _ _).alloc (Nat.le_refl _) _) _⟩
set_option maxHeartbeats 1000000 in
theorem right_8 (c : Reg) (h0 : (stV c.s0 == c.s0) = true) (h1 : ((bits .andNot .u64 c.s1 46079) == 0) = true) (h2 : ((bits .andNot .u64 c.s2 546) == 0) = true) (h3 : ((bits .andNot .u64 c.s3 2730) == 0) = true) (h4 : ((bits .andNot .u64 c.s4 546) == 0) = true) (h5 : ((bits .andNot .u64 c.s5 18446744073709551613) == 0) = true) (h6 : ((bits .andNot .u64 c.s10 18446744073709551613) == 0) = true) (h7 : ((bits .andNot .u64 c.s7 18446744073709551614) == 0) = true) (g : ((bits .andNot .u64 c.s12 18446744073709551614) == 0) = false) (W : World) : Calls Try.prog 9 #[regV c] W fun e W' => e = .returned (.bool false) ∧ Below W.heap.size W W' := by
  go_enter Try.func9, Try.ntmps9
  go_wp2_with fail
  go_quiet (first | (go_at_call 15; exact Calls.quiet_of_same ((status_any _ _).mono fun _ _ h => And.intro h.1 h.2.symm)) | (go_at_call 16; exact Calls.quiet_of_same ((only_any _ _ _).mono fun _ _ h => And.intro h.1 h.2.symm)) | (go_at_call 17; exact Calls.quiet_of_same ((table_any _ _).mono fun _ _ h => And.intro h.1 h.2.symm)))
  go_wp2
  go_ret
  exact ⟨rfl, below_drewN ((Below.refl _ _).alloc (Nat.le_refl _) _) _⟩
set_option maxHeartbeats 1000000 in
theorem right_9 (c : Reg) (h0 : (stV c.s0 == c.s0) = true) (h1 : ((bits .andNot .u64 c.s1 46079) == 0) = true) (h2 : ((bits .andNot .u64 c.s2 546) == 0) = true) (h3 : ((bits .andNot .u64 c.s3 2730) == 0) = true) (h4 : ((bits .andNot .u64 c.s4 546) == 0) = true) (h5 : ((bits .andNot .u64 c.s5 18446744073709551613) == 0) = true) (h6 : ((bits .andNot .u64 c.s10 18446744073709551613) == 0) = true) (h7 : ((bits .andNot .u64 c.s7 18446744073709551614) == 0) = true) (h8 : ((bits .andNot .u64 c.s12 18446744073709551614) == 0) = true) (g : ((bits .andNot .u64 c.s15 17293840161288749055) == 0) = false) (W : World) : Calls Try.prog 9 #[regV c] W fun e W' => e = .returned (.bool false) ∧ Below W.heap.size W W' := by
  go_enter Try.func9, Try.ntmps9
  go_wp2_with fail
  go_quiet (first | (go_at_call 15; exact Calls.quiet_of_same ((status_any _ _).mono fun _ _ h => And.intro h.1 h.2.symm)) | (go_at_call 16; exact Calls.quiet_of_same ((only_any _ _ _).mono fun _ _ h => And.intro h.1 h.2.symm)) | (go_at_call 17; exact Calls.quiet_of_same ((table_any _ _).mono fun _ _ h => And.intro h.1 h.2.symm)))
  go_wp2
  go_ret
  exact ⟨rfl, below_drewN ((Below.refl _ _).alloc (Nat.le_refl _) _) _⟩
set_option maxHeartbeats 1000000 in
theorem right_10 (c : Reg) (h0 : (stV c.s0 == c.s0) = true) (h1 : ((bits .andNot .u64 c.s1 46079) == 0) = true) (h2 : ((bits .andNot .u64 c.s2 546) == 0) = true) (h3 : ((bits .andNot .u64 c.s3 2730) == 0) = true) (h4 : ((bits .andNot .u64 c.s4 546) == 0) = true) (h5 : ((bits .andNot .u64 c.s5 18446744073709551613) == 0) = true) (h6 : ((bits .andNot .u64 c.s10 18446744073709551613) == 0) = true) (h7 : ((bits .andNot .u64 c.s7 18446744073709551614) == 0) = true) (h8 : ((bits .andNot .u64 c.s12 18446744073709551614) == 0) = true) (h9 : ((bits .andNot .u64 c.s15 17293840161288749055) == 0) = true) (g : (tbB c.s15) = false) (W : World) : Calls Try.prog 9 #[regV c] W fun e W' => e = .returned (.bool false) ∧ Below W.heap.size W W' := by
  go_enter Try.func9, Try.ntmps9
  go_wp2_with fail
  go_quiet (first | (go_at_call 15; exact Calls.quiet_of_same ((status_any _ _).mono fun _ _ h => And.intro h.1 h.2.symm)) | (go_at_call 16; exact Calls.quiet_of_same ((only_any _ _ _).mono fun _ _ h => And.intro h.1 h.2.symm)) | (go_at_call 17; exact Calls.quiet_of_same ((table_any _ _).mono fun _ _ h => And.intro h.1 h.2.symm)))
  go_wp2
  go_ret
  exact ⟨rfl, below_drewN ((Below.refl _ _).alloc (Nat.le_refl _) _) _⟩
set_option maxHeartbeats 1000000 in
theorem right_all (c : Reg) (h0 : (stV c.s0 == c.s0) = true) (h1 : ((bits .andNot .u64 c.s1 46079) == 0) = true) (h2 : ((bits .andNot .u64 c.s2 546) == 0) = true) (h3 : ((bits .andNot .u64 c.s3 2730) == 0) = true) (h4 : ((bits .andNot .u64 c.s4 546) == 0) = true) (h5 : ((bits .andNot .u64 c.s5 18446744073709551613) == 0) = true) (h6 : ((bits .andNot .u64 c.s10 18446744073709551613) == 0) = true) (h7 : ((bits .andNot .u64 c.s7 18446744073709551614) == 0) = true) (h8 : ((bits .andNot .u64 c.s12 18446744073709551614) == 0) = true) (h9 : ((bits .andNot .u64 c.s15 17293840161288749055) == 0) = true) (h10 : (tbB c.s15) = true) (W : World) : Calls Try.prog 9 #[regV c] W fun e W' => e = .returned (.bool true) ∧ Below W.heap.size W W' := by
  go_enter Try.func9, Try.ntmps9
  go_wp2_with fail
  go_quiet (first | (go_at_call 15; exact Calls.quiet_of_same ((status_any _ _).mono fun _ _ h => And.intro h.1 h.2.symm)) | (go_at_call 16; exact Calls.quiet_of_same ((only_any _ _ _).mono fun _ _ h => And.intro h.1 h.2.symm)) | (go_at_call 17; exact Calls.quiet_of_same ((table_any _ _).mono fun _ _ h => And.intro h.1 h.2.symm)))
  go_wp2
  go_ret
  exact ⟨rfl, below_drewN ((Below.refl _ _).alloc (Nat.le_refl _) _) _⟩

end Go.Proofs.Ythchakfffenoiaa
