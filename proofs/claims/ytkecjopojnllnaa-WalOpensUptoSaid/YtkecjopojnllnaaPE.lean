/- The disk of the reference, and what of the disk the log calls (my own, from the seat of the disk): E. -/
import Derived.Test.YtkecjopojnllnaaPD
namespace Go.Proofs.Ytkecjopojnllnaa
open Go.RowKit Go.Deep Go.Joins
theorem lay_any (s : ByteArray) (l : List Wr) (v : Value) (w : World) (hr : Reads w v 2 l.length (wrCells l)) (hm : l.length ≤ 9223372036854775807)
    (hs : s.size ≤ 140737489403904) (hb : ∀ x ∈ l, x.bytes.size ≤ 140737488355328) :
    Calls Try.prog 86 #[.string s, v] w fun e w' => e = .returned (.string (layB s l)) ∧ Below w.heap.size w w' := by
  cases l with
  | nil => exact lay_nil s v w hr
  | cons x l => exact lay_some s (x :: l) v w hr (by simp) hm hs hb
set_option maxHeartbeats 1000000 in
set_option maxRecDepth 100000 in
theorem all_any (n s : ByteArray) (l : List Wr) (v : Value) (w : World) (hr : Reads w v 2 l.length (wrCells l)) (hm : l.length ≤ 9223372036854775807)
    (hs : s.size ≤ 140737489403904) (hb : ∀ x ∈ l, x.bytes.size ≤ 140737488355328) :
    Calls Try.prog 81 #[.agg #[.string n, .string s, v]] w fun e w' => e = .returned (.string (layB s l)) ∧ Below w.heap.size w w' := by
  go_enter Try.func81, Try.ntmps81
  go_wp2_with fail
  refine (lay_any s l v _ (hr.below (below1 w _)) hm hs hb).mono ?_
  rintro e w1 ⟨rfl, hb⟩
  go_wp2_with fail
  go_ret
  exact ⟨rfl, below_then (below1 w _) hb⟩
theorem cut_ops (nb : Int) (s : ByteArray) : ∃ (x : Int) (m : Nat), m ≤ s.size ∧ cutTo nb s = s.extract 0 m ∧ (∀ u : World, (Builtin.max_ #[3, 3] 3 #[.int .i64 nb, .int .i64 0]).run Try.prog u = .ok (.int .i64 x) u) ∧
    (∀ u : World, (Builtin.min_ #[3, 3] 3 #[.int .i64 x, .int .i64 (s.size : Int)]).run Try.prog u = .ok (.int .i64 (m : Int)) u) := by
  generalize hx : (if 0 < nb then nb else 0) = x
  have hx0 : 0 ≤ x := by rw [← hx]; split <;> omega
  refine ⟨x, if (s.size : Int) < x then s.size else x.toNat, by split <;> omega, by unfold cutTo; rw [hx], fun u => ?_, fun u => ?_⟩
  · rw [run_max_int2]
    by_cases h : 0 < nb
    · rw [if_pos h] at hx; subst hx; rw [if_neg (by omega)]
    · rw [if_neg h] at hx; subst hx; congr 2; split <;> omega
  · rw [run_min_int2]
    congr 2
    split <;> omega
end Go.Proofs.Ytkecjopojnllnaa
