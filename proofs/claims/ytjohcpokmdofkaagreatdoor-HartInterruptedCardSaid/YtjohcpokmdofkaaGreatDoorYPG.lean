/- What reads and writes tell. -/
import Derived.Test.YtjohcpokmdofkaaGreatDoorYPE
namespace Go.Proofs.YtjohcpokmdofkaaGreatDoor.Pc
open Go.RowKit Go.Deep Go.Joins
/-- What a read tells: the state behind it, the number, and whether there is something to be read so. -/
def ldF (h : Pl) (s t z : Int) : Pl × Int × Bool :=
  if t = 201326596 ∧ z = 4 then (h, IntKind.u64.wrap h.p1, true) else
  if t = 201326600 ∧ z = 4 then (h, IntKind.u64.wrap h.p2, true) else
  if t = 201326604 ∧ z = 4 then (h, IntKind.u64.wrap h.p3, true) else
  if t = 201330688 ∧ z = 4 then (h, IntKind.u64.wrap (waitV s h.c), true) else
  if t = 201334784 ∧ z = 4 then (h, IntKind.u64.wrap h.e0, true) else
  if t = 201334912 ∧ z = 4 then (h, IntKind.u64.wrap h.e1, true) else
  if t = 203423744 ∧ z = 4 then (h, IntKind.u64.wrap h.l0, true) else
  if t = 203427840 ∧ z = 4 then (h, IntKind.u64.wrap h.l1, true) else
  if t = 203423748 ∧ z = 4 then ({ h with c := bits .or .u32 h.c (wt (bestF h s 0)) }, bestF h s 0, true) else
  if t = 203427844 ∧ z = 4 then ({ h with c := bits .or .u32 h.c (wt (bestF h s 1)) }, bestF h s 1, true) else
  (zeroP, 0, false)
theorem ldF_none (h : Pl) (s t z : Int) (hn : z ≠ 4 ∨ NoPlace t) : ldF h s t z = (zeroP, 0, false) := by
  unfold ldF
  rcases hn with hn | hn
  · simp [hn]
  · simp [hn.n_p1, hn.n_p2, hn.n_p3, hn.n_wait, hn.n_e0, hn.n_e1, hn.n_l0, hn.n_l1, hn.n_b0, hn.n_b1]
theorem ldF_p1 (h : Pl) (s : Int) : ldF h s 201326596 4 = (h, IntKind.u64.wrap h.p1, true) := rfl
theorem ldF_p2 (h : Pl) (s : Int) : ldF h s 201326600 4 = (h, IntKind.u64.wrap h.p2, true) := rfl
theorem ldF_p3 (h : Pl) (s : Int) : ldF h s 201326604 4 = (h, IntKind.u64.wrap h.p3, true) := rfl
theorem ldF_wait (h : Pl) (s : Int) : ldF h s 201330688 4 = (h, IntKind.u64.wrap (waitV s h.c), true) := rfl
theorem ldF_e0 (h : Pl) (s : Int) : ldF h s 201334784 4 = (h, IntKind.u64.wrap h.e0, true) := rfl
theorem ldF_e1 (h : Pl) (s : Int) : ldF h s 201334912 4 = (h, IntKind.u64.wrap h.e1, true) := rfl
theorem ldF_l0 (h : Pl) (s : Int) : ldF h s 203423744 4 = (h, IntKind.u64.wrap h.l0, true) := rfl
theorem ldF_l1 (h : Pl) (s : Int) : ldF h s 203427840 4 = (h, IntKind.u64.wrap h.l1, true) := rfl
theorem ldF_b0 (h : Pl) (s : Int) : ldF h s 203423748 4 = ({ h with c := bits .or .u32 h.c (wt (bestF h s 0)) }, bestF h s 0, true) := rfl
theorem ldF_b1 (h : Pl) (s : Int) : ldF h s 203427844 4 = ({ h with c := bits .or .u32 h.c (wt (bestF h s 1)) }, bestF h s 1, true) := rfl
/-- What is written back. -/
def backF (h : Pl) (n e : Int) : Int := if (1 ≤ n ∧ n ≤ 3) ∧ bitT e n.toNat = true then bits .andNot .u32 h.c (wt n) else h.c
/-- What a write leaves. -/
def stF (h : Pl) (t z v : Int) : Pl × Bool :=
  if t = 201326596 ∧ z = 4 then ({ h with p1 := bits .and .u32 (IntKind.u32.wrap v) 7 }, true) else
  if t = 201326600 ∧ z = 4 then ({ h with p2 := bits .and .u32 (IntKind.u32.wrap v) 7 }, true) else
  if t = 201326604 ∧ z = 4 then ({ h with p3 := bits .and .u32 (IntKind.u32.wrap v) 7 }, true) else
  if t = 201334784 ∧ z = 4 then ({ h with e0 := bits .and .u32 (IntKind.u32.wrap v) 14 }, true) else
  if t = 201334912 ∧ z = 4 then ({ h with e1 := bits .and .u32 (IntKind.u32.wrap v) 14 }, true) else
  if t = 203423744 ∧ z = 4 then ({ h with l0 := bits .and .u32 (IntKind.u32.wrap v) 7 }, true) else
  if t = 203427840 ∧ z = 4 then ({ h with l1 := bits .and .u32 (IntKind.u32.wrap v) 7 }, true) else
  if t = 203423748 ∧ z = 4 then ({ h with c := backF h (IntKind.u32.wrap v) h.e0 }, true) else
  if t = 203427844 ∧ z = 4 then ({ h with c := backF h (IntKind.u32.wrap v) h.e1 }, true) else
  (zeroP, false)
theorem stF_none (h : Pl) (t z v : Int) (hn : z ≠ 4 ∨ NoPlace t) : stF h t z v = (zeroP, false) := by
  unfold stF
  rcases hn with hn | hn
  · simp [hn]
  · simp [hn.n_p1, hn.n_p2, hn.n_p3, hn.n_e0, hn.n_e1, hn.n_l0, hn.n_l1, hn.n_b0, hn.n_b1]
theorem stF_wait (h : Pl) (v : Int) : stF h 201330688 4 v = (zeroP, false) := rfl
theorem stF_p1 (h : Pl) (v : Int) : stF h 201326596 4 v = ({ h with p1 := bits .and .u32 (IntKind.u32.wrap v) 7 }, true) := rfl
theorem stF_p2 (h : Pl) (v : Int) : stF h 201326600 4 v = ({ h with p2 := bits .and .u32 (IntKind.u32.wrap v) 7 }, true) := rfl
theorem stF_p3 (h : Pl) (v : Int) : stF h 201326604 4 v = ({ h with p3 := bits .and .u32 (IntKind.u32.wrap v) 7 }, true) := rfl
theorem stF_e0 (h : Pl) (v : Int) : stF h 201334784 4 v = ({ h with e0 := bits .and .u32 (IntKind.u32.wrap v) 14 }, true) := rfl
theorem stF_e1 (h : Pl) (v : Int) : stF h 201334912 4 v = ({ h with e1 := bits .and .u32 (IntKind.u32.wrap v) 14 }, true) := rfl
theorem stF_l0 (h : Pl) (v : Int) : stF h 203423744 4 v = ({ h with l0 := bits .and .u32 (IntKind.u32.wrap v) 7 }, true) := rfl
theorem stF_l1 (h : Pl) (v : Int) : stF h 203427840 4 v = ({ h with l1 := bits .and .u32 (IntKind.u32.wrap v) 7 }, true) := rfl
theorem stF_b0 (h : Pl) (v : Int) : stF h 203423748 4 v = ({ h with c := backF h (IntKind.u32.wrap v) h.e0 }, true) := rfl
theorem stF_b1 (h : Pl) (v : Int) : stF h 203427844 4 v = ({ h with c := backF h (IntKind.u32.wrap v) h.e1 }, true) := rfl

end Go.Proofs.YtjohcpokmdofkaaGreatDoor.Pc
