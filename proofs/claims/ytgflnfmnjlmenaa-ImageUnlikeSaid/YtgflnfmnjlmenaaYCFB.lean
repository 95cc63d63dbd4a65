/- Numbers of the control registers; the small functions of both sides. Draws leave all blocks. Right, its ways: the first half. -/
import Derived.Test.YtgflnfmnjlmenaaYBM
namespace Go.Proofs.Ytgflnfmnjlmenaa.Cs
open Go.RowKit Go.Deep Go.Joins
set_option maxRecDepth 100000

theorem ret_int {k : IntKind} {a b : Int} (h : a = b) : Ending.returned (.int k a) = .returned (.int k b) := by rw [h]
theorem ret_bool {a b : Bool} (h : a = b) : Ending.returned (.bool a) = .returned (.bool b) := by rw [h]
theorem below_then {B : Nat} {a b c : World} (h : Below B a b) (hB : B ≤ a.heap.size) (k : Below b.heap.size b c) : Below B a c := h.trans (k.mono (Nat.le_trans hB h.size))
/-- What Mstatus takes of v. -/
def stV (v : Int) : Int := if (bits .and .u64 (bits .and .u64 v 924074 / 2048) 3 == 2) = true then bits .andNot .u64 (bits .and .u64 v 924074) 6144 else bits .and .u64 v 924074
/-- A way to find addresses that is there. -/
def tbB (v : Int) : Bool := v / 1152921504606846976 == 0 || v / 1152921504606846976 == 8
theorem only_any (n b : Int) (W : World) : Calls Try.prog 47 #[.int .u64 n, .int .u64 b] W fun e W' => e = .returned (.bool (bits .andNot .u64 n b == 0)) ∧ W = W' := by
  go_enter Try.func47, Try.ntmps47
  go_wp2
  go_ret
  exact ⟨rfl, rfl⟩
theorem status_any (v : Int) (W : World) : Calls Try.prog 46 #[.int .u64 v] W fun e W' => e = .returned (.int .u64 (stV v)) ∧ W = W' := by
  have h1 : RowKit.Hid ((bits .and .u64 (bits .and .u64 v 924074 / 2048) 3 == 2) = true → stV v = bits .andNot .u64 (bits .and .u64 v 924074) 6144) := Lib.hid fun h => if_pos h
  have h2 : RowKit.Hid ((bits .and .u64 (bits .and .u64 v 924074 / 2048) 3 == 2) = false → stV v = bits .and .u64 v 924074) := Lib.hid fun h => if_neg (by rw [h]; decide)
  rcases Bool.eq_false_or_eq_true (bits .and .u64 (bits .and .u64 v 924074 / 2048) 3 == 2) with h | h
  · have h3 := Lib.hid (h1.out h)
    go_enter Try.func46, Try.ntmps46
    go_wp2
    go_ret
    exact ⟨ret_int h3.out.symm, rfl⟩
  · have h3 := Lib.hid (h2.out h)
    go_enter Try.func46, Try.ntmps46
    go_wp2
    go_ret
    exact ⟨ret_int h3.out.symm, rfl⟩
theorem table_any (v : Int) (W : World) : Calls Try.prog 48 #[.int .u64 v] W fun e W' => e = .returned (.bool (tbB v)) ∧ W = W' := by
  go_enter Try.func48, Try.ntmps48
  go_wp2
  all_goals go_ret
  · exact ⟨ret_bool (by unfold tbB; rename_i h; rw [h]; rfl), rfl⟩
  · exact ⟨rfl, rfl⟩
end Go.Proofs.Ytgflnfmnjlmenaa.Cs
namespace Go.Proofs.Ytgflnfmnjlmenaa.Cs
open Go.RowKit Go.Deep Go.Joins
set_option maxRecDepth 100000
theorem below_drewN {B : Nat} {a w : World} (h : Below B a w) (n : Nat) : Below B a (w.drewN n) := ⟨h.os, h.tape, h.output, h.size, h.block⟩

end Go.Proofs.Ytgflnfmnjlmenaa.Cs
namespace Go.Proofs.Ytgflnfmnjlmenaa.Cs
open Go.RowKit Go.Deep Go.Joins
set_option maxRecDepth 100000
set_option maxHeartbeats 1000000 in
theorem right_0 (c : Reg)  (g : (stV c.s0 == c.s0) = false) (W : World) : Calls Try.prog 41 #[regV c] W fun e W' => e = .returned (.bool false) ∧ Below W.heap.size W W' := by
  go_enter Try.func41, Try.ntmps41
  go_wp2_with fail
  go_quiet (first | (go_at_call 46; exact Calls.quiet_of_same ((status_any _ _).mono fun _ _ h => And.intro h.1 h.2.symm)) | (go_at_call 47; exact Calls.quiet_of_same ((only_any _ _ _).mono fun _ _ h => And.intro h.1 h.2.symm)) | (go_at_call 48; exact Calls.quiet_of_same ((table_any _ _).mono fun _ _ h => And.intro h.1 h.2.symm)))
  go_wp2
  go_ret
  exact ⟨rfl, below_drewN ((Below.refl _ _).alloc (Nat.le_refl _) _) _⟩
set_option maxHeartbeats 1000000 in
theorem right_1 (c : Reg) (h0 : (stV c.s0 == c.s0) = true) (g : ((bits .andNot .u64 c.s1 46079) == 0) = false) (W : World) : Calls Try.prog 41 #[regV c] W fun e W' => e = .returned (.bool false) ∧ Below W.heap.size W W' := by
  go_enter Try.func41, Try.ntmps41
  go_wp2_with fail
  go_quiet (first | (go_at_call 46; exact Calls.quiet_of_same ((status_any _ _).mono fun _ _ h => And.intro h.1 h.2.symm)) | (go_at_call 47; exact Calls.quiet_of_same ((only_any _ _ _).mono fun _ _ h => And.intro h.1 h.2.symm)) | (go_at_call 48; exact Calls.quiet_of_same ((table_any _ _).mono fun _ _ h => And.intro h.1 h.2.symm)))
  go_wp2
  go_ret
  exact ⟨rfl, below_drewN ((Below.refl _ _).alloc (Nat.le_refl _) _) _⟩
set_option maxHeartbeats 1000000 in
theorem right_2 (c : Reg) (h0 : (stV c.s0 == c.s0) = true) (h1 : ((bits .andNot .u64 c.s1 46079) == 0) = true) (g : ((bits .andNot .u64 c.s2 546) == 0) = false) (W : World) : Calls Try.prog 41 #[regV c] W fun e W' => e = .returned (.bool false) ∧ Below W.heap.size W W' := by
  go_enter Try.func41, Try.ntmps41
  go_wp2_with fail
  go_quiet (first | (go_at_call 46; exact Calls.quiet_of_same ((status_any _ _).mono fun _ _ h => And.intro h.1 h.2.symm)) | (go_at_call 47; exact Calls.quiet_of_same ((only_any _ _ _).mono fun _ _ h => And.intro h.1 h.2.symm)) | (go_at_call 48; exact Calls.quiet_of_same ((table_any _ _).mono fun _ _ h => And.intro h.1 h.2.symm)))
  go_wp2
  go_ret
  exact ⟨rfl, below_drewN ((Below.refl _ _).alloc (Nat.le_refl _) _) _⟩
set_option maxHeartbeats 1000000 in
theorem right_3 (c : Reg) (h0 : (stV c.s0 == c.s0) = true) (h1 : ((bits .andNot .u64 c.s1 46079) == 0) = true) (h2 : ((bits .andNot .u64 c.s2 546) == 0) = true) (g : ((bits .andNot .u64 c.s3 2730) == 0) = false) (W : World) : Calls Try.prog 41 #[regV c] W fun e W' => e = .returned (.bool false) ∧ Below W.heap.size W W' := by
  go_enter Try.func41, Try.ntmps41
  go_wp2_with fail
  go_quiet (first | (go_at_call 46; exact Calls.quiet_of_same ((status_any _ _).mono fun _ _ h => And.intro h.1 h.2.symm)) | (go_at_call 47; exact Calls.quiet_of_same ((only_any _ _ _).mono fun _ _ h => And.intro h.1 h.2.symm)) | (go_at_call 48; exact Calls.quiet_of_same ((table_any _ _).mono fun _ _ h => And.intro h.1 h.2.symm)))
  go_wp2
  go_ret
  exact ⟨rfl, below_drewN ((Below.refl _ _).alloc (Nat.le_refl _) _) _⟩
set_option maxHeartbeats 1000000 in
theorem right_4 (c : Reg) (h0 : (stV c.s0 == c.s0) = true) (h1 : ((bits .andNot .u64 c.s1 46079) == 0) = true) (h2 : ((bits .andNot .u64 c.s2 546) == 0) = true) (h3 : ((bits .andNot .u64 c.s3 2730) == 0) = true) (g : ((bits .andNot .u64 c.s4 546) == 0) = false) (W : World) : Calls Try.prog 41 #[regV c] W fun e W' => e = .returned (.bool false) ∧ Below W.heap.size W W' := by
  go_enter Try.func41, Try.ntmps41
  go_wp2_with fail
  go_quiet (first | (go_at_call 46; exact Calls.quiet_of_same ((status_any _ _).mono fun _ _ h => And.intro h.1 h.2.symm)) | (go_at_call 47; exact Calls.quiet_of_same ((only_any _ _ _).mono fun _ _ h => And.intro h.1 h.2.symm)) | (go_at_call 48; exact Calls.quiet_of_same ((table_any _ _).mono fun _ _ h => And.intro h.1 h.2.symm)))
  go_wp2
  go_ret
  exact ⟨rfl, below_drewN ((Below.refl _ _).alloc (Nat.le_refl _) _) _⟩
set_option maxHeartbeats 1000000 in
theorem right_5 (c : Reg) (h0 : (stV c.s0 == c.s0) = true) (h1 : ((bits .andNot .u64 c.s1 46079) == 0) = true) (h2 : ((bits .andNot .u64 c.s2 546) == 0) = true) (h3 : ((bits .andNot .u64 c.s3 2730) == 0) = true) (h4 : ((bits .andNot .u64 c.s4 546) == 0) = true) (g : ((bits .andNot .u64 c.s5 18446744073709551613) == 0) = false) (W : World) : Calls Try.prog 41 #[regV c] W fun e W' => e = .returned (.bool false) ∧ Below W.heap.size W W' := by
  go_enter Try.func41, Try.ntmps41
  go_wp2_with fail
  go_quiet (first | (go_at_call 46; exact Calls.quiet_of_same ((status_any _ _).mono fun _ _ h => And.intro h.1 h.2.symm)) | (go_at_call 47; exact Calls.quiet_of_same ((only_any _ _ _).mono fun _ _ h => And.intro h.1 h.2.symm)) | (go_at_call 48; exact Calls.quiet_of_same ((table_any _ _).mono fun _ _ h => And.intro h.1 h.2.symm)))
  go_wp2
  go_ret
  exact ⟨rfl, below_drewN ((Below.refl _ _).alloc (Nat.le_refl _) _) _⟩

end Go.Proofs.Ytgflnfmnjlmenaa.Cs
