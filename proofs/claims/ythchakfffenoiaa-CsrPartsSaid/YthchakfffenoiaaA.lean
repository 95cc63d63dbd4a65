/- Numbers of the control registers; the small functions of both sides. -/
import Derived.Test.YthchakfffenoiaaRows
import Derived.Below
import Derived.Deep.Draws
import Derived.Deep.Slices
import Derived.BigQuiet
import Derived.Carry
import Derived.ChangeMaps
import Derived.Deep.DeepCutAuto
import Derived.Deep.RegionHeld3
import Derived.Deep.RegionWith
import Derived.IntWalk
import Derived.Laws.BitsAllLaws
import Derived.Laws.Bits64b
import Derived.Lib.Hide
import Derived.Lib.SmallJoins
import Derived.OpenShut
import Derived.ProofKit
import Derived.SizedLaws
import Derived.WalkKit
import Derived.WalkLawsBesides
namespace Go.Proofs.Ythchakfffenoiaa
open Go.RowKit Go.Deep Go.Joins

theorem ret_int {k : IntKind} {a b : Int} (h : a = b) : Ending.returned (.int k a) = .returned (.int k b) := by rw [h]
theorem ret_bool {a b : Bool} (h : a = b) : Ending.returned (.bool a) = .returned (.bool b) := by rw [h]
theorem below_then {B : Nat} {a b c : World} (h : Below B a b) (hB : B ≤ a.heap.size) (k : Below b.heap.size b c) : Below B a c := h.trans (k.mono (Nat.le_trans hB h.size))
/-- The control registers, in the order in which the program has them. -/
structure Reg where
  s0 : Int
  s1 : Int
  s2 : Int
  s3 : Int
  s4 : Int
  s5 : Int
  s6 : Int
  s7 : Int
  s8 : Int
  s9 : Int
  s10 : Int
  s11 : Int
  s12 : Int
  s13 : Int
  s14 : Int
  s15 : Int

abbrev regV (c : Reg) : Value := .agg #[.int .u64 c.s0, .int .u64 c.s1, .int .u64 c.s2, .int .u64 c.s3, .int .u64 c.s4, .int .u64 c.s5, .int .u64 c.s6, .int .u64 c.s7, .int .u64 c.s8, .int .u64 c.s9, .int .u64 c.s10, .int .u64 c.s11, .int .u64 c.s12, .int .u64 c.s13, .int .u64 c.s14, .int .u64 c.s15]
abbrev boxO (c : Reg) : Obj := .cells #[.int .u64 c.s0, .int .u64 c.s1, .int .u64 c.s2, .int .u64 c.s3, .int .u64 c.s4, .int .u64 c.s5, .int .u64 c.s6, .int .u64 c.s7, .int .u64 c.s8, .int .u64 c.s9, .int .u64 c.s10, .int .u64 c.s11, .int .u64 c.s12, .int .u64 c.s13, .int .u64 c.s14, .int .u64 c.s15] 24
/-- What Mstatus takes of v. -/
def stV (v : Int) : Int := if (bits .and .u64 (bits .and .u64 v 924074 / 2048) 3 == 2) = true then bits .andNot .u64 (bits .and .u64 v 924074) 6144 else bits .and .u64 v 924074
/-- A way to find addresses that is there. -/
def tbB (v : Int) : Bool := v / 1152921504606846976 == 0 || v / 1152921504606846976 == 8
def spV (w v : Int) : Int := if tbB v = true then bits .and .u64 v 17293840161288749055 else w
def mxV (n v b : Int) : Int := bits .or .u64 (bits .andNot .u64 n b) (bits .and .u64 v b)
def rsV (p l : Int) : Int := bits .or .u64 (bits .and .u64 p 546) (bits .and .u64 l 2730)
def leastV (n : Int) : Int := bits .and .i64 (n / 256) 3
def onceV (n : Int) : Int := bits .and .i64 (n / 1024) 3
theorem may_any (m n : Int) (b : Bool) (hb : decide (leastV n ≤ m) = b) (W : World) : Calls Try.prog 20 #[.int .i64 m, .int .i64 n] W fun e W' => e = .returned (.bool b) ∧ W = W' := by
  subst hb
  go_enter Try.func20, Try.ntmps20
  go_wp2
  go_ret
  exact ⟨rfl, rfl⟩
theorem maywrite_no (m n : Int) (hb : decide (leastV n ≤ m) = false) (W : World) : Calls Try.prog 25 #[.int .i64 m, .int .i64 n] W fun e W' => e = .returned (.bool false) ∧ W = W' := by
  go_enter Try.func25, Try.ntmps25
  go_wp2_with (first | (go_at_call 20; (with_reducible refine (may_any m n false hb _).mono ?_); rintro e w' ⟨rfl, rfl⟩) | fail)
  go_ret
  exact ⟨rfl, rfl⟩
theorem maywrite_yes (m n : Int) (b : Bool) (hb : decide (leastV n ≤ m) = true) (ho : (onceV n != 3) = b) (W : World) : Calls Try.prog 25 #[.int .i64 m, .int .i64 n] W fun e W' => e = .returned (.bool b) ∧ W = W' := by
  subst ho
  go_enter Try.func25, Try.ntmps25
  go_wp2_with (first | (go_at_call 20; (with_reducible refine (may_any m n true hb _).mono ?_); rintro e w' ⟨rfl, rfl⟩) | fail)
  go_ret
  exact ⟨rfl, rfl⟩
theorem only_any (n b : Int) (W : World) : Calls Try.prog 16 #[.int .u64 n, .int .u64 b] W fun e W' => e = .returned (.bool (bits .andNot .u64 n b == 0)) ∧ W = W' := by
  go_enter Try.func16, Try.ntmps16
  go_wp2
  go_ret
  exact ⟨rfl, rfl⟩
theorem mixed_any (n v b : Int) (W : World) : Calls Try.prog 27 #[.int .u64 n, .int .u64 v, .int .u64 b] W fun e W' => e = .returned (.int .u64 (mxV n v b)) ∧ W = W' := by
  go_enter Try.func27, Try.ntmps27
  go_wp2
  go_ret
  exact ⟨rfl, rfl⟩
theorem status_any (v : Int) (W : World) : Calls Try.prog 15 #[.int .u64 v] W fun e W' => e = .returned (.int .u64 (stV v)) ∧ W = W' := by
  have h1 : RowKit.Hid ((bits .and .u64 (bits .and .u64 v 924074 / 2048) 3 == 2) = true → stV v = bits .andNot .u64 (bits .and .u64 v 924074) 6144) := Lib.hid fun h => if_pos h
  have h2 : RowKit.Hid ((bits .and .u64 (bits .and .u64 v 924074 / 2048) 3 == 2) = false → stV v = bits .and .u64 v 924074) := Lib.hid fun h => if_neg (by rw [h]; decide)
  rcases Bool.eq_false_or_eq_true (bits .and .u64 (bits .and .u64 v 924074 / 2048) 3 == 2) with h | h
  · have h3 := Lib.hid (h1.out h)
    go_enter Try.func15, Try.ntmps15
    go_wp2
    go_ret
    exact ⟨ret_int h3.out.symm, rfl⟩
  · have h3 := Lib.hid (h2.out h)
    go_enter Try.func15, Try.ntmps15
    go_wp2
    go_ret
    exact ⟨ret_int h3.out.symm, rfl⟩
theorem rstatus_any (v : Int) (W : World) : Calls Try.prog 18 #[.int .u64 v] W fun e W' => e = .returned (.int .u64 (stV v)) ∧ W = W' := by
  have h1 : RowKit.Hid ((bits .and .u64 (bits .and .u64 v 924074 / 2048) 3 == 2) = true → stV v = bits .andNot .u64 (bits .and .u64 v 924074) 6144) := Lib.hid fun h => if_pos h
  have h2 : RowKit.Hid ((bits .and .u64 (bits .and .u64 v 924074 / 2048) 3 == 2) = false → stV v = bits .and .u64 v 924074) := Lib.hid fun h => if_neg (by rw [h]; decide)
  rcases Bool.eq_false_or_eq_true (bits .and .u64 (bits .and .u64 v 924074 / 2048) 3 == 2) with h | h
  · have h3 := Lib.hid (h1.out h)
    go_enter Try.func18, Try.ntmps18
    go_wp2
    go_ret
    exact ⟨ret_int h3.out.symm, rfl⟩
  · have h3 := Lib.hid (h2.out h)
    go_enter Try.func18, Try.ntmps18
    go_wp2
    go_ret
    exact ⟨ret_int h3.out.symm, rfl⟩
theorem table_any (v : Int) (W : World) : Calls Try.prog 17 #[.int .u64 v] W fun e W' => e = .returned (.bool (tbB v)) ∧ W = W' := by
  go_enter Try.func17, Try.ntmps17
  go_wp2
  all_goals go_ret
  · exact ⟨ret_bool (by unfold tbB; rename_i h; rw [h]; rfl), rfl⟩
  · exact ⟨rfl, rfl⟩
theorem satp_any (u v : Int) (W : World) : Calls Try.prog 19 #[.int .u64 u, .int .u64 v] W fun e W' => e = .returned (.int .u64 (spV u v)) ∧ W = W' := by
  go_enter Try.func19, Try.ntmps19
  go_wp2
  all_goals go_ret
  · exact ⟨ret_int (by unfold spV tbB; rename_i h; rw [h]; rfl), rfl⟩
  · exact ⟨ret_int (by unfold spV tbB; rename_i h g; simp only [bne_iff_ne] at g; simp [g.1, g.2]), rfl⟩
  · exact ⟨ret_int (by unfold spV tbB; rename_i h g; rw [if_pos]; rcases g with g | g <;> simp at g <;> simp [g]), rfl⟩
theorem raised_any (c : Reg) (l : Int) (W : World) : Calls Try.prog 22 #[regV c, .int .u64 l] W fun e W' => e = .returned (.int .u64 (rsV c.s4 l)) ∧ W.alloc (boxO c) = W' := by
  go_enter Try.func22, Try.ntmps22
  go_wp2
  go_ret
  exact ⟨rfl, rfl⟩
theorem field_300 (a : Addr) (W : World) : Calls Try.prog 21 #[.pointer (some a), .int .i64 768] W fun e W' => e = .returned (.pointer (some a)) ∧ W = W' := by
  go_enter Try.func21, Try.ntmps21
  go_wp2
  go_ret
  exact ⟨rfl, rfl⟩
theorem field_302 (a : Addr) (W : World) : Calls Try.prog 21 #[.pointer (some a), .int .i64 770] W fun e W' => e = .returned (.pointer (some { block := a.block, off := a.off + 1 })) ∧ W = W' := by
  go_enter Try.func21, Try.ntmps21
  go_wp2
  go_ret
  exact ⟨rfl, rfl⟩
theorem field_303 (a : Addr) (W : World) : Calls Try.prog 21 #[.pointer (some a), .int .i64 771] W fun e W' => e = .returned (.pointer (some { block := a.block, off := a.off + 2 })) ∧ W = W' := by
  go_enter Try.func21, Try.ntmps21
  go_wp2
  go_ret
  exact ⟨rfl, rfl⟩
theorem field_304 (a : Addr) (W : World) : Calls Try.prog 21 #[.pointer (some a), .int .i64 772] W fun e W' => e = .returned (.pointer (some { block := a.block, off := a.off + 3 })) ∧ W = W' := by
  go_enter Try.func21, Try.ntmps21
  go_wp2
  go_ret
  exact ⟨rfl, rfl⟩
theorem field_305 (a : Addr) (W : World) : Calls Try.prog 21 #[.pointer (some a), .int .i64 773] W fun e W' => e = .returned (.pointer (some { block := a.block, off := a.off + 5 })) ∧ W = W' := by
  go_enter Try.func21, Try.ntmps21
  go_wp2
  go_ret
  exact ⟨rfl, rfl⟩
theorem field_340 (a : Addr) (W : World) : Calls Try.prog 21 #[.pointer (some a), .int .i64 832] W fun e W' => e = .returned (.pointer (some { block := a.block, off := a.off + 6 })) ∧ W = W' := by
  go_enter Try.func21, Try.ntmps21
  go_wp2
  go_ret
  exact ⟨rfl, rfl⟩
theorem field_341 (a : Addr) (W : World) : Calls Try.prog 21 #[.pointer (some a), .int .i64 833] W fun e W' => e = .returned (.pointer (some { block := a.block, off := a.off + 7 })) ∧ W = W' := by
  go_enter Try.func21, Try.ntmps21
  go_wp2
  go_ret
  exact ⟨rfl, rfl⟩
theorem field_342 (a : Addr) (W : World) : Calls Try.prog 21 #[.pointer (some a), .int .i64 834] W fun e W' => e = .returned (.pointer (some { block := a.block, off := a.off + 8 })) ∧ W = W' := by
  go_enter Try.func21, Try.ntmps21
  go_wp2
  go_ret
  exact ⟨rfl, rfl⟩
theorem field_343 (a : Addr) (W : World) : Calls Try.prog 21 #[.pointer (some a), .int .i64 835] W fun e W' => e = .returned (.pointer (some { block := a.block, off := a.off + 9 })) ∧ W = W' := by
  go_enter Try.func21, Try.ntmps21
  go_wp2
  go_ret
  exact ⟨rfl, rfl⟩
theorem field_105 (a : Addr) (W : World) : Calls Try.prog 21 #[.pointer (some a), .int .i64 261] W fun e W' => e = .returned (.pointer (some { block := a.block, off := a.off + 10 })) ∧ W = W' := by
  go_enter Try.func21, Try.ntmps21
  go_wp2
  go_ret
  exact ⟨rfl, rfl⟩
theorem field_140 (a : Addr) (W : World) : Calls Try.prog 21 #[.pointer (some a), .int .i64 320] W fun e W' => e = .returned (.pointer (some { block := a.block, off := a.off + 11 })) ∧ W = W' := by
  go_enter Try.func21, Try.ntmps21
  go_wp2
  go_ret
  exact ⟨rfl, rfl⟩
theorem field_141 (a : Addr) (W : World) : Calls Try.prog 21 #[.pointer (some a), .int .i64 321] W fun e W' => e = .returned (.pointer (some { block := a.block, off := a.off + 12 })) ∧ W = W' := by
  go_enter Try.func21, Try.ntmps21
  go_wp2
  go_ret
  exact ⟨rfl, rfl⟩
theorem field_142 (a : Addr) (W : World) : Calls Try.prog 21 #[.pointer (some a), .int .i64 322] W fun e W' => e = .returned (.pointer (some { block := a.block, off := a.off + 13 })) ∧ W = W' := by
  go_enter Try.func21, Try.ntmps21
  go_wp2
  go_ret
  exact ⟨rfl, rfl⟩
theorem field_143 (a : Addr) (W : World) : Calls Try.prog 21 #[.pointer (some a), .int .i64 323] W fun e W' => e = .returned (.pointer (some { block := a.block, off := a.off + 14 })) ∧ W = W' := by
  go_enter Try.func21, Try.ntmps21
  go_wp2
  go_ret
  exact ⟨rfl, rfl⟩
theorem field_180 (a : Addr) (W : World) : Calls Try.prog 21 #[.pointer (some a), .int .i64 384] W fun e W' => e = .returned (.pointer (some { block := a.block, off := a.off + 15 })) ∧ W = W' := by
  go_enter Try.func21, Try.ntmps21
  go_wp2
  go_ret
  exact ⟨rfl, rfl⟩
set_option maxHeartbeats 1000000 in
theorem field_none (a : Addr) (n : Int) (h300 : (n == 768) = false) (h302 : (n == 770) = false) (h303 : (n == 771) = false) (h304 : (n == 772) = false) (h305 : (n == 773) = false) (h340 : (n == 832) = false) (h341 : (n == 833) = false) (h342 : (n == 834) = false) (h343 : (n == 835) = false) (h105 : (n == 261) = false) (h140 : (n == 320) = false) (h141 : (n == 321) = false) (h142 : (n == 322) = false) (h143 : (n == 323) = false) (h180 : (n == 384) = false) (W : World) : Calls Try.prog 21 #[.pointer (some a), .int .i64 n] W fun e W' => e = .returned (.pointer none) ∧ W = W' := by
  go_enter Try.func21, Try.ntmps21
  go_wp2
  go_ret
  exact ⟨rfl, rfl⟩
theorem field_100 (a : Addr) (W : World) : Calls Try.prog 21 #[.pointer (some a), .int .i64 256] W fun e W' => e = .returned (.pointer none) ∧ W = W' :=
  field_none a 256 (by decide) (by decide) (by decide) (by decide) (by decide) (by decide) (by decide) (by decide) (by decide) (by decide) (by decide) (by decide) (by decide) (by decide) (by decide) W
theorem field_104 (a : Addr) (W : World) : Calls Try.prog 21 #[.pointer (some a), .int .i64 260] W fun e W' => e = .returned (.pointer none) ∧ W = W' :=
  field_none a 260 (by decide) (by decide) (by decide) (by decide) (by decide) (by decide) (by decide) (by decide) (by decide) (by decide) (by decide) (by decide) (by decide) (by decide) (by decide) W
theorem field_144 (a : Addr) (W : World) : Calls Try.prog 21 #[.pointer (some a), .int .i64 324] W fun e W' => e = .returned (.pointer none) ∧ W = W' :=
  field_none a 324 (by decide) (by decide) (by decide) (by decide) (by decide) (by decide) (by decide) (by decide) (by decide) (by decide) (by decide) (by decide) (by decide) (by decide) (by decide) W
theorem field_301 (a : Addr) (W : World) : Calls Try.prog 21 #[.pointer (some a), .int .i64 769] W fun e W' => e = .returned (.pointer none) ∧ W = W' :=
  field_none a 769 (by decide) (by decide) (by decide) (by decide) (by decide) (by decide) (by decide) (by decide) (by decide) (by decide) (by decide) (by decide) (by decide) (by decide) (by decide) W
theorem field_344 (a : Addr) (W : World) : Calls Try.prog 21 #[.pointer (some a), .int .i64 836] W fun e W' => e = .returned (.pointer none) ∧ W = W' :=
  field_none a 836 (by decide) (by decide) (by decide) (by decide) (by decide) (by decide) (by decide) (by decide) (by decide) (by decide) (by decide) (by decide) (by decide) (by decide) (by decide) W
theorem field_b00 (a : Addr) (W : World) : Calls Try.prog 21 #[.pointer (some a), .int .i64 2816] W fun e W' => e = .returned (.pointer none) ∧ W = W' :=
  field_none a 2816 (by decide) (by decide) (by decide) (by decide) (by decide) (by decide) (by decide) (by decide) (by decide) (by decide) (by decide) (by decide) (by decide) (by decide) (by decide) W
theorem field_b02 (a : Addr) (W : World) : Calls Try.prog 21 #[.pointer (some a), .int .i64 2818] W fun e W' => e = .returned (.pointer none) ∧ W = W' :=
  field_none a 2818 (by decide) (by decide) (by decide) (by decide) (by decide) (by decide) (by decide) (by decide) (by decide) (by decide) (by decide) (by decide) (by decide) (by decide) (by decide) W
theorem field_c00 (a : Addr) (W : World) : Calls Try.prog 21 #[.pointer (some a), .int .i64 3072] W fun e W' => e = .returned (.pointer none) ∧ W = W' :=
  field_none a 3072 (by decide) (by decide) (by decide) (by decide) (by decide) (by decide) (by decide) (by decide) (by decide) (by decide) (by decide) (by decide) (by decide) (by decide) (by decide) W
theorem field_c01 (a : Addr) (W : World) : Calls Try.prog 21 #[.pointer (some a), .int .i64 3073] W fun e W' => e = .returned (.pointer none) ∧ W = W' :=
  field_none a 3073 (by decide) (by decide) (by decide) (by decide) (by decide) (by decide) (by decide) (by decide) (by decide) (by decide) (by decide) (by decide) (by decide) (by decide) (by decide) W
theorem field_c02 (a : Addr) (W : World) : Calls Try.prog 21 #[.pointer (some a), .int .i64 3074] W fun e W' => e = .returned (.pointer none) ∧ W = W' :=
  field_none a 3074 (by decide) (by decide) (by decide) (by decide) (by decide) (by decide) (by decide) (by decide) (by decide) (by decide) (by decide) (by decide) (by decide) (by decide) (by decide) W
theorem field_f11 (a : Addr) (W : World) : Calls Try.prog 21 #[.pointer (some a), .int .i64 3857] W fun e W' => e = .returned (.pointer none) ∧ W = W' :=
  field_none a 3857 (by decide) (by decide) (by decide) (by decide) (by decide) (by decide) (by decide) (by decide) (by decide) (by decide) (by decide) (by decide) (by decide) (by decide) (by decide) W
theorem field_f12 (a : Addr) (W : World) : Calls Try.prog 21 #[.pointer (some a), .int .i64 3858] W fun e W' => e = .returned (.pointer none) ∧ W = W' :=
  field_none a 3858 (by decide) (by decide) (by decide) (by decide) (by decide) (by decide) (by decide) (by decide) (by decide) (by decide) (by decide) (by decide) (by decide) (by decide) (by decide) W
theorem field_f13 (a : Addr) (W : World) : Calls Try.prog 21 #[.pointer (some a), .int .i64 3859] W fun e W' => e = .returned (.pointer none) ∧ W = W' :=
  field_none a 3859 (by decide) (by decide) (by decide) (by decide) (by decide) (by decide) (by decide) (by decide) (by decide) (by decide) (by decide) (by decide) (by decide) (by decide) (by decide) W
theorem field_f14 (a : Addr) (W : World) : Calls Try.prog 21 #[.pointer (some a), .int .i64 3860] W fun e W' => e = .returned (.pointer none) ∧ W = W' :=
  field_none a 3860 (by decide) (by decide) (by decide) (by decide) (by decide) (by decide) (by decide) (by decide) (by decide) (by decide) (by decide) (by decide) (by decide) (by decide) (by decide) W
theorem taken_300 (u v : Int) (W : World) : Calls Try.prog 26 #[.int .i64 768, .int .u64 u, .int .u64 v] W fun e W' => e = .returned (.int .u64 (stV v)) ∧ W = W' := by
  go_enter Try.func26, Try.ntmps26
  go_wp2_with (first | (go_at_call 15; (with_reducible refine (status_any _ _).mono ?_); rintro e w' ⟨rfl, rfl⟩) | fail)
  go_ret
  exact ⟨rfl, rfl⟩
theorem taken_302 (u v : Int) (W : World) : Calls Try.prog 26 #[.int .i64 770, .int .u64 u, .int .u64 v] W fun e W' => e = .returned (.int .u64 (bits .and .u64 v 46079)) ∧ W = W' := by
  go_enter Try.func26, Try.ntmps26
  go_wp2_with (first | (go_at_call 15; (with_reducible refine (status_any _ _).mono ?_); rintro e w' ⟨rfl, rfl⟩) | fail)
  go_ret
  exact ⟨rfl, rfl⟩
theorem taken_303 (u v : Int) (W : World) : Calls Try.prog 26 #[.int .i64 771, .int .u64 u, .int .u64 v] W fun e W' => e = .returned (.int .u64 (bits .and .u64 v 546)) ∧ W = W' := by
  go_enter Try.func26, Try.ntmps26
  go_wp2_with (first | (go_at_call 15; (with_reducible refine (status_any _ _).mono ?_); rintro e w' ⟨rfl, rfl⟩) | fail)
  go_ret
  exact ⟨rfl, rfl⟩
theorem taken_304 (u v : Int) (W : World) : Calls Try.prog 26 #[.int .i64 772, .int .u64 u, .int .u64 v] W fun e W' => e = .returned (.int .u64 (bits .and .u64 v 2730)) ∧ W = W' := by
  go_enter Try.func26, Try.ntmps26
  go_wp2_with (first | (go_at_call 15; (with_reducible refine (status_any _ _).mono ?_); rintro e w' ⟨rfl, rfl⟩) | fail)
  go_ret
  exact ⟨rfl, rfl⟩
theorem taken_305 (u v : Int) (W : World) : Calls Try.prog 26 #[.int .i64 773, .int .u64 u, .int .u64 v] W fun e W' => e = .returned (.int .u64 (bits .and .u64 v 18446744073709551613)) ∧ W = W' := by
  go_enter Try.func26, Try.ntmps26
  go_wp2_with (first | (go_at_call 15; (with_reducible refine (status_any _ _).mono ?_); rintro e w' ⟨rfl, rfl⟩) | fail)
  go_ret
  exact ⟨rfl, rfl⟩
theorem taken_340 (u v : Int) (W : World) : Calls Try.prog 26 #[.int .i64 832, .int .u64 u, .int .u64 v] W fun e W' => e = .returned (.int .u64 v) ∧ W = W' := by
  go_enter Try.func26, Try.ntmps26
  go_wp2_with (first | (go_at_call 15; (with_reducible refine (status_any _ _).mono ?_); rintro e w' ⟨rfl, rfl⟩) | fail)
  go_ret
  exact ⟨rfl, rfl⟩
theorem taken_341 (u v : Int) (W : World) : Calls Try.prog 26 #[.int .i64 833, .int .u64 u, .int .u64 v] W fun e W' => e = .returned (.int .u64 (bits .and .u64 v 18446744073709551614)) ∧ W = W' := by
  go_enter Try.func26, Try.ntmps26
  go_wp2_with (first | (go_at_call 15; (with_reducible refine (status_any _ _).mono ?_); rintro e w' ⟨rfl, rfl⟩) | fail)
  go_ret
  exact ⟨rfl, rfl⟩
theorem taken_342 (u v : Int) (W : World) : Calls Try.prog 26 #[.int .i64 834, .int .u64 u, .int .u64 v] W fun e W' => e = .returned (.int .u64 v) ∧ W = W' := by
  go_enter Try.func26, Try.ntmps26
  go_wp2_with (first | (go_at_call 15; (with_reducible refine (status_any _ _).mono ?_); rintro e w' ⟨rfl, rfl⟩) | fail)
  go_ret
  exact ⟨rfl, rfl⟩
theorem taken_343 (u v : Int) (W : World) : Calls Try.prog 26 #[.int .i64 835, .int .u64 u, .int .u64 v] W fun e W' => e = .returned (.int .u64 v) ∧ W = W' := by
  go_enter Try.func26, Try.ntmps26
  go_wp2_with (first | (go_at_call 15; (with_reducible refine (status_any _ _).mono ?_); rintro e w' ⟨rfl, rfl⟩) | fail)
  go_ret
  exact ⟨rfl, rfl⟩
theorem taken_105 (u v : Int) (W : World) : Calls Try.prog 26 #[.int .i64 261, .int .u64 u, .int .u64 v] W fun e W' => e = .returned (.int .u64 (bits .and .u64 v 18446744073709551613)) ∧ W = W' := by
  go_enter Try.func26, Try.ntmps26
  go_wp2_with (first | (go_at_call 15; (with_reducible refine (status_any _ _).mono ?_); rintro e w' ⟨rfl, rfl⟩) | fail)
  go_ret
  exact ⟨rfl, rfl⟩
theorem taken_140 (u v : Int) (W : World) : Calls Try.prog 26 #[.int .i64 320, .int .u64 u, .int .u64 v] W fun e W' => e = .returned (.int .u64 v) ∧ W = W' := by
  go_enter Try.func26, Try.ntmps26
  go_wp2_with (first | (go_at_call 15; (with_reducible refine (status_any _ _).mono ?_); rintro e w' ⟨rfl, rfl⟩) | fail)
  go_ret
  exact ⟨rfl, rfl⟩
theorem taken_141 (u v : Int) (W : World) : Calls Try.prog 26 #[.int .i64 321, .int .u64 u, .int .u64 v] W fun e W' => e = .returned (.int .u64 (bits .and .u64 v 18446744073709551614)) ∧ W = W' := by
  go_enter Try.func26, Try.ntmps26
  go_wp2_with (first | (go_at_call 15; (with_reducible refine (status_any _ _).mono ?_); rintro e w' ⟨rfl, rfl⟩) | fail)
  go_ret
  exact ⟨rfl, rfl⟩
theorem taken_142 (u v : Int) (W : World) : Calls Try.prog 26 #[.int .i64 322, .int .u64 u, .int .u64 v] W fun e W' => e = .returned (.int .u64 v) ∧ W = W' := by
  go_enter Try.func26, Try.ntmps26
  go_wp2_with (first | (go_at_call 15; (with_reducible refine (status_any _ _).mono ?_); rintro e w' ⟨rfl, rfl⟩) | fail)
  go_ret
  exact ⟨rfl, rfl⟩
theorem taken_143 (u v : Int) (W : World) : Calls Try.prog 26 #[.int .i64 323, .int .u64 u, .int .u64 v] W fun e W' => e = .returned (.int .u64 v) ∧ W = W' := by
  go_enter Try.func26, Try.ntmps26
  go_wp2_with (first | (go_at_call 15; (with_reducible refine (status_any _ _).mono ?_); rintro e w' ⟨rfl, rfl⟩) | fail)
  go_ret
  exact ⟨rfl, rfl⟩
theorem taken_180 (u v : Int) (W : World) : Calls Try.prog 26 #[.int .i64 384, .int .u64 u, .int .u64 v] W fun e W' => e = .returned (.int .u64 (spV u v)) ∧ W = W' := by
  rcases Bool.eq_false_or_eq_true (tbB v) with h | h
  · have h3 := Lib.hid (show spV u v = bits .and .u64 v 17293840161288749055 from if_pos h)
    go_enter Try.func26, Try.ntmps26
    go_wp2_with (first | (go_at_call 17; (with_reducible refine (table_any _ _).mono ?_); rintro e w' ⟨rfl, rfl⟩) | fail)
    go_ret
    exact ⟨ret_int h3.out.symm, rfl⟩
  · have h3 := Lib.hid (show spV u v = u from if_neg (by rw [h]; decide))
    go_enter Try.func26, Try.ntmps26
    go_wp2_with (first | (go_at_call 17; (with_reducible refine (table_any _ _).mono ?_); rintro e w' ⟨rfl, rfl⟩) | fail)
    go_ret
    exact ⟨ret_int h3.out.symm, rfl⟩

end Go.Proofs.Ythchakfffenoiaa
