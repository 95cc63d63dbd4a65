/- Right, its ways: the second half. Right, its ways together. -/
import Derived.Test.YtgflnfmnjlmenaaYCFB
namespace Go.Proofs.Ytgflnfmnjlmenaa.Cs
open Go.RowKit Go.Deep Go.Joins
set_option maxRecDepth 100000
set_option maxHeartbeats 1000000 in
theorem right_6 (c : Reg) (h0 : (stV c.s0 == c.s0) = true) (h1 : ((bits .andNot .u64 c.s1 46079) == 0) = true) (h2 : ((bits .andNot .u64 c.s2 546) == 0) = true) (h3 : ((bits .andNot .u64 c.s3 2730) == 0) = true) (h4 : ((bits .andNot .u64 c.s4 546) == 0) = true) (h5 : ((bits .andNot .u64 c.s5 18446744073709551613) == 0) = true) (g : ((bits .andNot .u64 c.s10 18446744073709551613) == 0) = false) (W : World) : Calls Try.prog 41 #[regV c] W fun e W' => e = .returned (.bool false) ∧ Below W.heap.size W W' := by
  go_enter Try.func41, Try.ntmps41
  go_wp2_with fail
  go_quiet (first | (go_at_call 46; exact Calls.quiet_of_same ((status_any _ _).mono fun _ _ h => And.intro h.1 h.2.symm)) | (go_at_call 47; exact Calls.quiet_of_same ((only_any _ _ _).mono fun _ _ h => And.intro h.1 h.2.symm)) | (go_at_call 48; exact Calls.quiet_of_same ((table_any _ _).mono fun _ _ h => And.intro h.1 h.2.symm)))
  go_wp2
  go_ret
  exact ⟨rfl, below_drewN ((Below.refl _ _).alloc (Nat.le_refl _) _) _⟩
set_option maxHeartbeats 1000000 in
theorem right_7 (c : Reg) (h0 : (stV c.s0 == c.s0) = true) (h1 : ((bits .andNot .u64 c.s1 46079) == 0) = true) (h2 : ((bits .andNot .u64 c.s2 546) == 0) = true) (h3 : ((bits .andNot .u64 c.s3 2730) == 0) = true) (h4 : ((bits .andNot .u64 c.s4 546) == 0) = true) (h5 : ((bits .andNot .u64 c.s5 18446744073709551613) == 0) = true) (h6 : ((bits .andNot .u64 c.s10 18446744073709551613) == 0) = true) (g : ((bits .andNot .u64 c.s7 18446744073709551614) == 0) = false) (W : World) : Calls Try.prog 41 #[regV c] W fun e W' => e = .returned (.bool false) ∧ Below W.heap.size W W' := by
  go_enter Try.func41, Try.ntmps41
  go_wp2_with fail
  go_quiet (first | (go_at_call 46; exact Calls.quiet_of_same ((status_any _ _).mono fun _ _ h => And.intro h.1 h.2.symm)) | (go_at_call 47; exact Calls.quiet_of_same ((only_any _ _ _).mono fun _ _ h => And.intro h.1 h.2.symm)) | (go_at_call 48; exact Calls.quiet_of_same ((table_any _ _).mono fun _ _ h => And.intro h.1 h.2.symm)))
  go_wp2
  go_ret
  exact ⟨rfl, below_drewN ((Below.refl _ _).alloc (Nat.le_refl _) _) _⟩
set_option maxHeartbeats 1000000 in
theorem right_8 (c : Reg) (h0 : (stV c.s0 == c.s0) = true) (h1 : ((bits .andNot .u64 c.s1 46079) == 0) = true) (h2 : ((bits .andNot .u64 c.s2 546) == 0) = true) (h3 : ((bits .andNot .u64 c.s3 2730) == 0) = true) (h4 : ((bits .andNot .u64 c.s4 546) == 0) = true) (h5 : ((bits .andNot .u64 c.s5 18446744073709551613) == 0) = true) (h6 : ((bits .andNot .u64 c.s10 18446744073709551613) == 0) = true) (h7 : ((bits .andNot .u64 c.s7 18446744073709551614) == 0) = true) (g : ((bits .andNot .u64 c.s12 18446744073709551614) == 0) = false) (W : World) : Calls Try.prog 41 #[regV c] W fun e W' => e = .returned (.bool false) ∧ Below W.heap.size W W' := by
  go_enter Try.func41, Try.ntmps41
  go_wp2_with fail
  go_quiet (first | (go_at_call 46; exact Calls.quiet_of_same ((status_any _ _).mono fun _ _ h => And.intro h.1 h.2.symm)) | (go_at_call 47; exact Calls.quiet_of_same ((only_any _ _ _).mono fun _ _ h => And.intro h.1 h.2.symm)) | (go_at_call 48; exact Calls.quiet_of_same ((table_any _ _).mono fun _ _ h => And.intro h.1 h.2.symm)))
  go_wp2
  go_ret
  exact ⟨rfl, below_drewN ((Below.refl _ _).alloc (Nat.le_refl _) _) _⟩
set_option maxHeartbeats 1000000 in
theorem right_9 (c : Reg) (h0 : (stV c.s0 == c.s0) = true) (h1 : ((bits .andNot .u64 c.s1 46079) == 0) = true) (h2 : ((bits .andNot .u64 c.s2 546) == 0) = true) (h3 : ((bits .andNot .u64 c.s3 2730) == 0) = true) (h4 : ((bits .andNot .u64 c.s4 546) == 0) = true) (h5 : ((bits .andNot .u64 c.s5 18446744073709551613) == 0) = true) (h6 : ((bits .andNot .u64 c.s10 18446744073709551613) == 0) = true) (h7 : ((bits .andNot .u64 c.s7 18446744073709551614) == 0) = true) (h8 : ((bits .andNot .u64 c.s12 18446744073709551614) == 0) = true) (g : ((bits .andNot .u64 c.s15 17293840161288749055) == 0) = false) (W : World) : Calls Try.prog 41 #[regV c] W fun e W' => e = .returned (.bool false) ∧ Below W.heap.size W W' := by
  go_enter Try.func41, Try.ntmps41
  go_wp2_with fail
  go_quiet (first | (go_at_call 46; exact Calls.quiet_of_same ((status_any _ _).mono fun _ _ h => And.intro h.1 h.2.symm)) | (go_at_call 47; exact Calls.quiet_of_same ((only_any _ _ _).mono fun _ _ h => And.intro h.1 h.2.symm)) | (go_at_call 48; exact Calls.quiet_of_same ((table_any _ _).mono fun _ _ h => And.intro h.1 h.2.symm)))
  go_wp2
  go_ret
  exact ⟨rfl, below_drewN ((Below.refl _ _).alloc (Nat.le_refl _) _) _⟩
set_option maxHeartbeats 1000000 in
theorem right_10 (c : Reg) (h0 : (stV c.s0 == c.s0) = true) (h1 : ((bits .andNot .u64 c.s1 46079) == 0) = true) (h2 : ((bits .andNot .u64 c.s2 546) == 0) = true) (h3 : ((bits .andNot .u64 c.s3 2730) == 0) = true) (h4 : ((bits .andNot .u64 c.s4 546) == 0) = true) (h5 : ((bits .andNot .u64 c.s5 18446744073709551613) == 0) = true) (h6 : ((bits .andNot .u64 c.s10 18446744073709551613) == 0) = true) (h7 : ((bits .andNot .u64 c.s7 18446744073709551614) == 0) = true) (h8 : ((bits .andNot .u64 c.s12 18446744073709551614) == 0) = true) (h9 : ((bits .andNot .u64 c.s15 17293840161288749055) == 0) = true) (g : (tbB c.s15) = false) (W : World) : Calls Try.prog 41 #[regV c] W fun e W' => e = .returned (.bool false) ∧ Below W.heap.size W W' := by
  go_enter Try.func41, Try.ntmps41
  go_wp2_with fail
  go_quiet (first | (go_at_call 46; exact Calls.quiet_of_same ((status_any _ _).mono fun _ _ h => And.intro h.1 h.2.symm)) | (go_at_call 47; exact Calls.quiet_of_same ((only_any _ _ _).mono fun _ _ h => And.intro h.1 h.2.symm)) | (go_at_call 48; exact Calls.quiet_of_same ((table_any _ _).mono fun _ _ h => And.intro h.1 h.2.symm)))
  go_wp2
  go_ret
  exact ⟨rfl, below_drewN ((Below.refl _ _).alloc (Nat.le_refl _) _) _⟩
set_option maxHeartbeats 1000000 in
theorem right_all (c : Reg) (h0 : (stV c.s0 == c.s0) = true) (h1 : ((bits .andNot .u64 c.s1 46079) == 0) = true) (h2 : ((bits .andNot .u64 c.s2 546) == 0) = true) (h3 : ((bits .andNot .u64 c.s3 2730) == 0) = true) (h4 : ((bits .andNot .u64 c.s4 546) == 0) = true) (h5 : ((bits .andNot .u64 c.s5 18446744073709551613) == 0) = true) (h6 : ((bits .andNot .u64 c.s10 18446744073709551613) == 0) = true) (h7 : ((bits .andNot .u64 c.s7 18446744073709551614) == 0) = true) (h8 : ((bits .andNot .u64 c.s12 18446744073709551614) == 0) = true) (h9 : ((bits .andNot .u64 c.s15 17293840161288749055) == 0) = true) (h10 : (tbB c.s15) = true) (W : World) : Calls Try.prog 41 #[regV c] W fun e W' => e = .returned (.bool true) ∧ Below W.heap.size W W' := by
  go_enter Try.func41, Try.ntmps41
  go_wp2_with fail
  go_quiet (first | (go_at_call 46; exact Calls.quiet_of_same ((status_any _ _).mono fun _ _ h => And.intro h.1 h.2.symm)) | (go_at_call 47; exact Calls.quiet_of_same ((only_any _ _ _).mono fun _ _ h => And.intro h.1 h.2.symm)) | (go_at_call 48; exact Calls.quiet_of_same ((table_any _ _).mono fun _ _ h => And.intro h.1 h.2.symm)))
  go_wp2
  go_ret
  exact ⟨rfl, below_drewN ((Below.refl _ _).alloc (Nat.le_refl _) _) _⟩

end Go.Proofs.Ytgflnfmnjlmenaa.Cs
namespace Go.Proofs.Ytgflnfmnjlmenaa.Cs
open Go.RowKit Go.Deep Go.Joins
set_option maxRecDepth 100000
def rightB (c : Reg) : Bool := (stV c.s0 == c.s0) && ((bits .andNot .u64 c.s1 46079) == 0) && ((bits .andNot .u64 c.s2 546) == 0) && ((bits .andNot .u64 c.s3 2730) == 0) && ((bits .andNot .u64 c.s4 546) == 0) && ((bits .andNot .u64 c.s5 18446744073709551613) == 0) && ((bits .andNot .u64 c.s10 18446744073709551613) == 0) && ((bits .andNot .u64 c.s7 18446744073709551614) == 0) && ((bits .andNot .u64 c.s12 18446744073709551614) == 0) && ((bits .andNot .u64 c.s15 17293840161288749055) == 0) && (tbB c.s15)
theorem right_any (c : Reg) (W : World) : Calls Try.prog 41 #[regV c] W fun e W' => e = .returned (.bool (rightB c)) ∧ Below W.heap.size W W' := by
  rcases Bool.eq_false_or_eq_true (stV c.s0 == c.s0) with h0 | h0
  rotate_left
  · have e : rightB c = false := by unfold rightB; simp [h0]
    rw [e]; exact right_0 c  h0 W
  rcases Bool.eq_false_or_eq_true ((bits .andNot .u64 c.s1 46079) == 0) with h1 | h1
  rotate_left
  · have e : rightB c = false := by unfold rightB; simp [h0, h1]
    rw [e]; exact right_1 c h0 h1 W
  rcases Bool.eq_false_or_eq_true ((bits .andNot .u64 c.s2 546) == 0) with h2 | h2
  rotate_left
  · have e : rightB c = false := by unfold rightB; simp [h0, h1, h2]
    rw [e]; exact right_2 c h0 h1 h2 W
  rcases Bool.eq_false_or_eq_true ((bits .andNot .u64 c.s3 2730) == 0) with h3 | h3
  rotate_left
  · have e : rightB c = false := by unfold rightB; simp [h0, h1, h2, h3]
    rw [e]; exact right_3 c h0 h1 h2 h3 W
  rcases Bool.eq_false_or_eq_true ((bits .andNot .u64 c.s4 546) == 0) with h4 | h4
  rotate_left
  · have e : rightB c = false := by unfold rightB; simp [h0, h1, h2, h3, h4]
    rw [e]; exact right_4 c h0 h1 h2 h3 h4 W
  rcases Bool.eq_false_or_eq_true ((bits .andNot .u64 c.s5 18446744073709551613) == 0) with h5 | h5
  rotate_left
  · have e : rightB c = false := by unfold rightB; simp [h0, h1, h2, h3, h4, h5]
    rw [e]; exact right_5 c h0 h1 h2 h3 h4 h5 W
  rcases Bool.eq_false_or_eq_true ((bits .andNot .u64 c.s10 18446744073709551613) == 0) with h6 | h6
  rotate_left
  · have e : rightB c = false := by unfold rightB; simp [h0, h1, h2, h3, h4, h5, h6]
    rw [e]; exact right_6 c h0 h1 h2 h3 h4 h5 h6 W
  rcases Bool.eq_false_or_eq_true ((bits .andNot .u64 c.s7 18446744073709551614) == 0) with h7 | h7
  rotate_left
  · have e : rightB c = false := by unfold rightB; simp [h0, h1, h2, h3, h4, h5, h6, h7]
    rw [e]; exact right_7 c h0 h1 h2 h3 h4 h5 h6 h7 W
  rcases Bool.eq_false_or_eq_true ((bits .andNot .u64 c.s12 18446744073709551614) == 0) with h8 | h8
  rotate_left
  · have e : rightB c = false := by unfold rightB; simp [h0, h1, h2, h3, h4, h5, h6, h7, h8]
    rw [e]; exact right_8 c h0 h1 h2 h3 h4 h5 h6 h7 h8 W
  rcases Bool.eq_false_or_eq_true ((bits .andNot .u64 c.s15 17293840161288749055) == 0) with h9 | h9
  rotate_left
  · have e : rightB c = false := by unfold rightB; simp [h0, h1, h2, h3, h4, h5, h6, h7, h8, h9]
    rw [e]; exact right_9 c h0 h1 h2 h3 h4 h5 h6 h7 h8 h9 W
  rcases Bool.eq_false_or_eq_true (tbB c.s15) with h10 | h10
  rotate_left
  · have e : rightB c = false := by unfold rightB; simp [h0, h1, h2, h3, h4, h5, h6, h7, h8, h9, h10]
    rw [e]; exact right_10 c h0 h1 h2 h3 h4 h5 h6 h7 h8 h9 h10 W
  · have e : rightB c = true := by unfold rightB; simp [h0, h1, h2, h3, h4, h5, h6, h7, h8, h9, h10]
    rw [e]; exact right_all c h0 h1 h2 h3 h4 h5 h6 h7 h8 h9 h10 W

end Go.Proofs.Ytgflnfmnjlmenaa.Cs
