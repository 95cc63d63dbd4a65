/- Functions that read a processor. -/
import Derived.Test.YtjohcpokmdofkaaGreatDoorYTB
namespace Go.Proofs.YtjohcpokmdofkaaGreatDoor.Tr
open Go.RowKit Go.Deep Go.Joins
set_option maxRecDepth 100000
theorem Box.cell {w : World} {b : Nat} {h : Hart} (k : Box w b h) (i : Nat) : w.cell? ⟨b, 32 + i, none⟩ = (tailL h)[i]? := by
  rw [cell_of_row w b _ (hartC h) 27 (0, 0) k, hartC_tail]
def upV (h : Hart) : Bool := h.mode != 3 || nzV h.c.s0 8
def midV (h : Hart) : Bool := decide (h.mode < 1) || (h.mode == 1 && nzV h.c.s0 2)
set_option maxHeartbeats 1000000 in
theorem up_any (h : Hart) (b : Bool) (hb : upV h = b) (W : World) : Calls Tryz.prog 60 #[hartV h] W fun e W' => e = .returned (.bool b) ∧ Below W.heap.size W W' := by
  subst hb
  have m_mode : (hartC h)[33]? = some (.int .i64 h.mode) := hartC_tail h 1
  have m_s0 : (hartC h)[34]? = some (.int .u64 h.c.s0) := hartC_tail h 2
  go_enter Tryz.func60, Tryz.ntmps60
  go_wp2
  all_goals go_ret
  · exact ⟨ret_bool (by unfold upV nzV; simp [*]), (Below.refl _ _).alloc (Nat.le_refl _) _⟩
  · exact ⟨ret_bool (by unfold upV; simp [*]), (Below.refl _ _).alloc (Nat.le_refl _) _⟩
set_option maxHeartbeats 1000000 in
theorem mid_any (h : Hart) (b : Bool) (hb : midV h = b) (W : World) : Calls Tryz.prog 62 #[hartV h] W fun e W' => e = .returned (.bool b) ∧ Below W.heap.size W W' := by
  subst hb
  have m_mode : (hartC h)[33]? = some (.int .i64 h.mode) := hartC_tail h 1
  have m_s0 : (hartC h)[34]? = some (.int .u64 h.c.s0) := hartC_tail h 2
  go_enter Tryz.func62, Tryz.ntmps62
  go_wp2
  all_goals go_ret
  all_goals exact ⟨ret_bool (by unfold midV nzV; first | (simp [*]; done) | (simp [*]; omega)), (Below.refl _ _).alloc (Nat.le_refl _) _⟩
def handV (h : Hart) (k : Nat) (it : Bool) : Bool := decide (h.mode ≤ 1) && (bits .and .u64 ((if it = true then h.c.s2 else h.c.s1) / 2 ^ k) 1 != 0)
set_option maxHeartbeats 1000000 in
theorem hand_any (h : Hart) (k : Nat) (it : Bool) (b : Bool) (hk : k ≤ 63) (hb : handV h k it = b) (W : World) : Calls Tryz.prog 63 #[hartV h, .int .i64 k, .bool it] W fun e W' => e = .returned (.bool b) ∧ Below W.heap.size W W' := by
  subst hb
  have m_mode : (hartC h)[33]? = some (.int .i64 h.mode) := hartC_tail h 1
  have m_s1 : (hartC h)[35]? = some (.int .u64 h.c.s1) := hartC_tail h 3
  have m_s2 : (hartC h)[36]? = some (.int .u64 h.c.s2) := hartC_tail h 4
  cases it
  all_goals
    go_enter Tryz.func63, Tryz.ntmps63
    go_wp2
    all_goals go_ret
    all_goals exact ⟨ret_bool (by unfold handV; first | (simp [*]; done) | (simp [*]; omega)), (Below.refl _ _).alloc (Nat.le_refl _) _⟩
def entryV (v t : Int) : Int := if (nzV t 9223372036854775808 && nzV v 1) = true then IntKind.u64.wrap (bits .andNot .u64 v 3 + IntKind.u64.wrap (4 * bits .andNot .u64 t 9223372036854775808)) else bits .andNot .u64 v 3
def rentryV (v c : Int) (it : Bool) : Int := if (it && (bits .and .u64 v 1 == 1)) = true then IntKind.u64.wrap (bits .andNot .u64 v 3 + 4 * c) else bits .andNot .u64 v 3
set_option maxHeartbeats 1000000 in
theorem entry_any (v t : Int) (W : World) : Calls Tryz.prog 90 #[.int .u64 v, .int .u64 t] W fun e W' => e = .returned (.int .u64 (entryV v t)) ∧ W = W' := by
  rcases Bool.eq_false_or_eq_true (bits .and .u64 t 9223372036854775808 != 0) with h1 | h1
  all_goals rcases Bool.eq_false_or_eq_true (bits .and .u64 v 1 != 0) with h2 | h2
  all_goals
    go_enter Tryz.func90, Tryz.ntmps90
    go_wp2
    go_ret
    exact ⟨ret_int (by unfold entryV nzV; rw [h1, h2]; rfl), rfl⟩
def onV (h : Hart) (l : Int) : Int := bits .and .u64 (bits .and .u64 (bits .or .u64 h.c.s4 l) h.c.s3) 2730
def topV (h : Hart) (l : Int) : Int := bits .andNot .u64 (onV h l) h.c.s2
def lowV (h : Hart) (l : Int) : Int := bits .and .u64 (onV h l) h.c.s2
def pendV (h : Hart) (l : Int) : Int := if (topV h l != 0 && upV h) = true then firstV (topV h l) else if midV h = true then firstV (lowV h l) else -1
def rtopV (h : Hart) (l : Int) : Int := if (h.mode == 3 && !bV h.c.s0 8) = true then 0 else topV h l
def rlowV (h : Hart) (l : Int) : Int := if (decide (1 < h.mode) || (h.mode == 1 && !bV h.c.s0 2)) = true then 0 else lowV h l
def rpendV (h : Hart) (l : Int) : Int := if 0 ≤ rfirstV (rtopV h l) then rfirstV (rtopV h l) else rfirstV (rlowV h l)

end Go.Proofs.YtjohcpokmdofkaaGreatDoor.Tr
