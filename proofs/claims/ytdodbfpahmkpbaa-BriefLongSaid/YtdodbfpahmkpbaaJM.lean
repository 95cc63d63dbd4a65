/- The reference's instruction of a word (my own, from the seat of package decode), JM. -/
import Derived.Test.YtdodbfpahmkpbaaJA
namespace Go.Proofs.Ytdodbfpahmkpbaa
open Go.RowKit Go.Deep Go.Joins
theorem below2 (w : World) (a b : Obj) : Below w.heap.size w ((w.alloc a).alloc b) := (below1 w a).alloc (by simp) _
theorem ne_b {a b : Int} (h : ¬ a = b) : (a == b) = false := by rw [beq_eq_false_iff_ne]; exact h
set_option maxHeartbeats 1000000 in
theorem plain_1_1 (p q r s : Int) (W : World) :
    Calls Try.prog 28 #[.agg #[.int .i64 1, .int .i64 p, .int .i64 q, .int .i64 r, .int .i64 s]] W fun e W' => e = .returned (.agg #[.int .i64 1, .int .i64 p, .int .i64 0, .int .i64 0, .int .i64 s]) ∧ Below W.heap.size W W' := by
  go_enter Try.func28, Try.ntmps28
  go_wp2_with fail
  go_returns
  exact ⟨rfl, below2 W _ _⟩
set_option maxHeartbeats 1000000 in
theorem plain_2_2 (p q r s : Int) (W : World) :
    Calls Try.prog 28 #[.agg #[.int .i64 2, .int .i64 p, .int .i64 q, .int .i64 r, .int .i64 s]] W fun e W' => e = .returned (.agg #[.int .i64 2, .int .i64 p, .int .i64 0, .int .i64 0, .int .i64 s]) ∧ Below W.heap.size W W' := by
  go_enter Try.func28, Try.ntmps28
  go_wp2_with fail
  go_returns
  exact ⟨rfl, below2 W _ _⟩
set_option maxHeartbeats 1000000 in
theorem plain_3_3 (p q r s : Int) (W : World) :
    Calls Try.prog 28 #[.agg #[.int .i64 3, .int .i64 p, .int .i64 q, .int .i64 r, .int .i64 s]] W fun e W' => e = .returned (.agg #[.int .i64 3, .int .i64 p, .int .i64 0, .int .i64 0, .int .i64 s]) ∧ Below W.heap.size W W' := by
  go_enter Try.func28, Try.ntmps28
  go_wp2_with fail
  go_returns
  exact ⟨rfl, below2 W _ _⟩
set_option maxHeartbeats 1000000 in
theorem plain_4_4 (p q r s : Int) (W : World) :
    Calls Try.prog 28 #[.agg #[.int .i64 4, .int .i64 p, .int .i64 q, .int .i64 r, .int .i64 s]] W fun e W' => e = .returned (.agg #[.int .i64 4, .int .i64 p, .int .i64 q, .int .i64 0, .int .i64 s]) ∧ Below W.heap.size W W' := by
  go_enter Try.func28, Try.ntmps28
  go_wp2_with fail
  go_returns
  exact ⟨rfl, below2 W _ _⟩
set_option maxHeartbeats 1000000 in
theorem plain_5_10 (o p q r s : Int) (W : World) (h0 : 5 ≤ o) (h1 : o ≤ 10) :
    Calls Try.prog 28 #[.agg #[.int .i64 o, .int .i64 p, .int .i64 q, .int .i64 r, .int .i64 s]] W fun e W' => e = .returned (.agg #[.int .i64 o, .int .i64 0, .int .i64 q, .int .i64 r, .int .i64 s]) ∧ Below W.heap.size W W' := by
  have e1 : (o == 1) = false := ne_b (by omega)
  have e2 : (o == 2) = false := ne_b (by omega)
  have e3 : (o == 3) = false := ne_b (by omega)
  have e4 : (o == 4) = false := ne_b (by omega)
  have e50 : (o == 50) = false := ne_b (by omega)
  have e51 : (o == 51) = false := ne_b (by omega)
  have e52 : (o == 52) = false := ne_b (by omega)
  have e53 : (o == 53) = false := ne_b (by omega)
  have e73 : (o == 73) = false := ne_b (by omega)
  have e84 : (o == 84) = false := ne_b (by omega)
  have e95 : (o == 95) = false := ne_b (by omega)
  have e96 : (o == 96) = false := ne_b (by omega)
  have e97 : (o == 97) = false := ne_b (by omega)
  have e98 : (o == 98) = false := ne_b (by omega)
  go_enter Try.func28, Try.ntmps28
  go_wp2_with fail
  go_returns
  exact ⟨rfl, below2 W _ _⟩
set_option maxHeartbeats 1000000 in
theorem plain_11_17 (o p q r s : Int) (W : World) (h0 : 11 ≤ o) (h1 : o ≤ 17) :
    Calls Try.prog 28 #[.agg #[.int .i64 o, .int .i64 p, .int .i64 q, .int .i64 r, .int .i64 s]] W fun e W' => e = .returned (.agg #[.int .i64 o, .int .i64 p, .int .i64 q, .int .i64 0, .int .i64 s]) ∧ Below W.heap.size W W' := by
  have e1 : (o == 1) = false := ne_b (by omega)
  have e2 : (o == 2) = false := ne_b (by omega)
  have e3 : (o == 3) = false := ne_b (by omega)
  have e4 : (o == 4) = false := ne_b (by omega)
  have e50 : (o == 50) = false := ne_b (by omega)
  have e51 : (o == 51) = false := ne_b (by omega)
  have e52 : (o == 52) = false := ne_b (by omega)
  have e53 : (o == 53) = false := ne_b (by omega)
  have e73 : (o == 73) = false := ne_b (by omega)
  have e84 : (o == 84) = false := ne_b (by omega)
  have e95 : (o == 95) = false := ne_b (by omega)
  have e96 : (o == 96) = false := ne_b (by omega)
  have e97 : (o == 97) = false := ne_b (by omega)
  have e98 : (o == 98) = false := ne_b (by omega)
  go_enter Try.func28, Try.ntmps28
  go_wp2_with fail
  go_returns
  exact ⟨rfl, below2 W _ _⟩
set_option maxHeartbeats 1000000 in
theorem plain_18_21 (o p q r s : Int) (W : World) (h0 : 18 ≤ o) (h1 : o ≤ 21) :
    Calls Try.prog 28 #[.agg #[.int .i64 o, .int .i64 p, .int .i64 q, .int .i64 r, .int .i64 s]] W fun e W' => e = .returned (.agg #[.int .i64 o, .int .i64 0, .int .i64 q, .int .i64 r, .int .i64 s]) ∧ Below W.heap.size W W' := by
  have e1 : (o == 1) = false := ne_b (by omega)
  have e2 : (o == 2) = false := ne_b (by omega)
  have e3 : (o == 3) = false := ne_b (by omega)
  have e4 : (o == 4) = false := ne_b (by omega)
  have e50 : (o == 50) = false := ne_b (by omega)
  have e51 : (o == 51) = false := ne_b (by omega)
  have e52 : (o == 52) = false := ne_b (by omega)
  have e53 : (o == 53) = false := ne_b (by omega)
  have e73 : (o == 73) = false := ne_b (by omega)
  have e84 : (o == 84) = false := ne_b (by omega)
  have e95 : (o == 95) = false := ne_b (by omega)
  have e96 : (o == 96) = false := ne_b (by omega)
  have e97 : (o == 97) = false := ne_b (by omega)
  have e98 : (o == 98) = false := ne_b (by omega)
  go_enter Try.func28, Try.ntmps28
  go_wp2_with fail
  go_returns
  exact ⟨rfl, below2 W _ _⟩
set_option maxHeartbeats 1000000 in
theorem plain_22_30 (o p q r s : Int) (W : World) (h0 : 22 ≤ o) (h1 : o ≤ 30) :
    Calls Try.prog 28 #[.agg #[.int .i64 o, .int .i64 p, .int .i64 q, .int .i64 r, .int .i64 s]] W fun e W' => e = .returned (.agg #[.int .i64 o, .int .i64 p, .int .i64 q, .int .i64 0, .int .i64 s]) ∧ Below W.heap.size W W' := by
  have e1 : (o == 1) = false := ne_b (by omega)
  have e2 : (o == 2) = false := ne_b (by omega)
  have e3 : (o == 3) = false := ne_b (by omega)
  have e4 : (o == 4) = false := ne_b (by omega)
  have e50 : (o == 50) = false := ne_b (by omega)
  have e51 : (o == 51) = false := ne_b (by omega)
  have e52 : (o == 52) = false := ne_b (by omega)
  have e53 : (o == 53) = false := ne_b (by omega)
  have e73 : (o == 73) = false := ne_b (by omega)
  have e84 : (o == 84) = false := ne_b (by omega)
  have e95 : (o == 95) = false := ne_b (by omega)
  have e96 : (o == 96) = false := ne_b (by omega)
  have e97 : (o == 97) = false := ne_b (by omega)
  have e98 : (o == 98) = false := ne_b (by omega)
  go_enter Try.func28, Try.ntmps28
  go_wp2_with fail
  go_returns
  exact ⟨rfl, below2 W _ _⟩
set_option maxHeartbeats 1000000 in
theorem plain_31_40 (o p q r s : Int) (W : World) (h0 : 31 ≤ o) (h1 : o ≤ 40) :
    Calls Try.prog 28 #[.agg #[.int .i64 o, .int .i64 p, .int .i64 q, .int .i64 r, .int .i64 s]] W fun e W' => e = .returned (.agg #[.int .i64 o, .int .i64 p, .int .i64 q, .int .i64 r, .int .i64 s]) ∧ Below W.heap.size W W' := by
  have e1 : (o == 1) = false := ne_b (by omega)
  have e2 : (o == 2) = false := ne_b (by omega)
  have e3 : (o == 3) = false := ne_b (by omega)
  have e4 : (o == 4) = false := ne_b (by omega)
  have e50 : (o == 50) = false := ne_b (by omega)
  have e51 : (o == 51) = false := ne_b (by omega)
  have e52 : (o == 52) = false := ne_b (by omega)
  have e53 : (o == 53) = false := ne_b (by omega)
  have e73 : (o == 73) = false := ne_b (by omega)
  have e84 : (o == 84) = false := ne_b (by omega)
  have e95 : (o == 95) = false := ne_b (by omega)
  have e96 : (o == 96) = false := ne_b (by omega)
  have e97 : (o == 97) = false := ne_b (by omega)
  have e98 : (o == 98) = false := ne_b (by omega)
  go_enter Try.func28, Try.ntmps28
  go_wp2_with fail
  go_returns
  exact ⟨rfl, below2 W _ _⟩
set_option maxHeartbeats 1000000 in
theorem plain_41_44 (o p q r s : Int) (W : World) (h0 : 41 ≤ o) (h1 : o ≤ 44) :
    Calls Try.prog 28 #[.agg #[.int .i64 o, .int .i64 p, .int .i64 q, .int .i64 r, .int .i64 s]] W fun e W' => e = .returned (.agg #[.int .i64 o, .int .i64 p, .int .i64 q, .int .i64 0, .int .i64 s]) ∧ Below W.heap.size W W' := by
  have e1 : (o == 1) = false := ne_b (by omega)
  have e2 : (o == 2) = false := ne_b (by omega)
  have e3 : (o == 3) = false := ne_b (by omega)
  have e4 : (o == 4) = false := ne_b (by omega)
  have e50 : (o == 50) = false := ne_b (by omega)
  have e51 : (o == 51) = false := ne_b (by omega)
  have e52 : (o == 52) = false := ne_b (by omega)
  have e53 : (o == 53) = false := ne_b (by omega)
  have e73 : (o == 73) = false := ne_b (by omega)
  have e84 : (o == 84) = false := ne_b (by omega)
  have e95 : (o == 95) = false := ne_b (by omega)
  have e96 : (o == 96) = false := ne_b (by omega)
  have e97 : (o == 97) = false := ne_b (by omega)
  have e98 : (o == 98) = false := ne_b (by omega)
  go_enter Try.func28, Try.ntmps28
  go_wp2_with fail
  go_returns
  exact ⟨rfl, below2 W _ _⟩
set_option maxHeartbeats 1000000 in
theorem plain_45_49 (o p q r s : Int) (W : World) (h0 : 45 ≤ o) (h1 : o ≤ 49) :
    Calls Try.prog 28 #[.agg #[.int .i64 o, .int .i64 p, .int .i64 q, .int .i64 r, .int .i64 s]] W fun e W' => e = .returned (.agg #[.int .i64 o, .int .i64 p, .int .i64 q, .int .i64 r, .int .i64 s]) ∧ Below W.heap.size W W' := by
  have e1 : (o == 1) = false := ne_b (by omega)
  have e2 : (o == 2) = false := ne_b (by omega)
  have e3 : (o == 3) = false := ne_b (by omega)
  have e4 : (o == 4) = false := ne_b (by omega)
  have e50 : (o == 50) = false := ne_b (by omega)
  have e51 : (o == 51) = false := ne_b (by omega)
  have e52 : (o == 52) = false := ne_b (by omega)
  have e53 : (o == 53) = false := ne_b (by omega)
  have e73 : (o == 73) = false := ne_b (by omega)
  have e84 : (o == 84) = false := ne_b (by omega)
  have e95 : (o == 95) = false := ne_b (by omega)
  have e96 : (o == 96) = false := ne_b (by omega)
  have e97 : (o == 97) = false := ne_b (by omega)
  have e98 : (o == 98) = false := ne_b (by omega)
  go_enter Try.func28, Try.ntmps28
  go_wp2_with fail
  go_returns
  exact ⟨rfl, below2 W _ _⟩
set_option maxHeartbeats 1000000 in
theorem plain_50_50 (p q r s : Int) (W : World) :
    Calls Try.prog 28 #[.agg #[.int .i64 50, .int .i64 p, .int .i64 q, .int .i64 r, .int .i64 s]] W fun e W' => e = .returned (.agg #[.int .i64 50, .int .i64 0, .int .i64 0, .int .i64 0, .int .i64 s]) ∧ Below W.heap.size W W' := by
  go_enter Try.func28, Try.ntmps28
  go_wp2_with fail
  go_returns
  exact ⟨rfl, below2 W _ _⟩
set_option maxHeartbeats 1000000 in
theorem plain_51_51 (p q r s : Int) (W : World) :
    Calls Try.prog 28 #[.agg #[.int .i64 51, .int .i64 p, .int .i64 q, .int .i64 r, .int .i64 s]] W fun e W' => e = .returned (.agg #[.int .i64 51, .int .i64 0, .int .i64 0, .int .i64 0, .int .i64 s]) ∧ Below W.heap.size W W' := by
  go_enter Try.func28, Try.ntmps28
  go_wp2_with fail
  go_returns
  exact ⟨rfl, below2 W _ _⟩
set_option maxHeartbeats 1000000 in
theorem plain_52_52 (p q r s : Int) (W : World) :
    Calls Try.prog 28 #[.agg #[.int .i64 52, .int .i64 p, .int .i64 q, .int .i64 r, .int .i64 s]] W fun e W' => e = .returned (.agg #[.int .i64 52, .int .i64 0, .int .i64 0, .int .i64 0, .int .i64 s]) ∧ Below W.heap.size W W' := by
  go_enter Try.func28, Try.ntmps28
  go_wp2_with fail
  go_returns
  exact ⟨rfl, below2 W _ _⟩
set_option maxHeartbeats 1000000 in
theorem plain_53_53 (p q r s : Int) (W : World) :
    Calls Try.prog 28 #[.agg #[.int .i64 53, .int .i64 p, .int .i64 q, .int .i64 r, .int .i64 s]] W fun e W' => e = .returned (.agg #[.int .i64 53, .int .i64 0, .int .i64 0, .int .i64 0, .int .i64 s]) ∧ Below W.heap.size W W' := by
  go_enter Try.func28, Try.ntmps28
  go_wp2_with fail
  go_returns
  exact ⟨rfl, below2 W _ _⟩
set_option maxHeartbeats 1000000 in
theorem plain_54_59 (o p q r s : Int) (W : World) (h0 : 54 ≤ o) (h1 : o ≤ 59) :
    Calls Try.prog 28 #[.agg #[.int .i64 o, .int .i64 p, .int .i64 q, .int .i64 r, .int .i64 s]] W fun e W' => e = .returned (.agg #[.int .i64 o, .int .i64 p, .int .i64 q, .int .i64 0, .int .i64 s]) ∧ Below W.heap.size W W' := by
  have e1 : (o == 1) = false := ne_b (by omega)
  have e2 : (o == 2) = false := ne_b (by omega)
  have e3 : (o == 3) = false := ne_b (by omega)
  have e4 : (o == 4) = false := ne_b (by omega)
  have e50 : (o == 50) = false := ne_b (by omega)
  have e51 : (o == 51) = false := ne_b (by omega)
  have e52 : (o == 52) = false := ne_b (by omega)
  have e53 : (o == 53) = false := ne_b (by omega)
  have e73 : (o == 73) = false := ne_b (by omega)
  have e84 : (o == 84) = false := ne_b (by omega)
  have e95 : (o == 95) = false := ne_b (by omega)
  have e96 : (o == 96) = false := ne_b (by omega)
  have e97 : (o == 97) = false := ne_b (by omega)
  have e98 : (o == 98) = false := ne_b (by omega)
  go_enter Try.func28, Try.ntmps28
  go_wp2_with fail
  go_returns
  exact ⟨rfl, below2 W _ _⟩
set_option maxHeartbeats 1000000 in
theorem plain_60_72 (o p q r s : Int) (W : World) (h0 : 60 ≤ o) (h1 : o ≤ 72) :
    Calls Try.prog 28 #[.agg #[.int .i64 o, .int .i64 p, .int .i64 q, .int .i64 r, .int .i64 s]] W fun e W' => e = .returned (.agg #[.int .i64 o, .int .i64 p, .int .i64 q, .int .i64 r, .int .i64 s]) ∧ Below W.heap.size W W' := by
  have e1 : (o == 1) = false := ne_b (by omega)
  have e2 : (o == 2) = false := ne_b (by omega)
  have e3 : (o == 3) = false := ne_b (by omega)
  have e4 : (o == 4) = false := ne_b (by omega)
  have e50 : (o == 50) = false := ne_b (by omega)
  have e51 : (o == 51) = false := ne_b (by omega)
  have e52 : (o == 52) = false := ne_b (by omega)
  have e53 : (o == 53) = false := ne_b (by omega)
  have e73 : (o == 73) = false := ne_b (by omega)
  have e84 : (o == 84) = false := ne_b (by omega)
  have e95 : (o == 95) = false := ne_b (by omega)
  have e96 : (o == 96) = false := ne_b (by omega)
  have e97 : (o == 97) = false := ne_b (by omega)
  have e98 : (o == 98) = false := ne_b (by omega)
  go_enter Try.func28, Try.ntmps28
  go_wp2_with fail
  go_returns
  exact ⟨rfl, below2 W _ _⟩
set_option maxHeartbeats 1000000 in
theorem plain_73_73 (p q r s : Int) (W : World) :
    Calls Try.prog 28 #[.agg #[.int .i64 73, .int .i64 p, .int .i64 q, .int .i64 r, .int .i64 s]] W fun e W' => e = .returned (.agg #[.int .i64 73, .int .i64 p, .int .i64 q, .int .i64 0, .int .i64 s]) ∧ Below W.heap.size W W' := by
  go_enter Try.func28, Try.ntmps28
  go_wp2_with fail
  go_returns
  exact ⟨rfl, below2 W _ _⟩
set_option maxHeartbeats 1000000 in
theorem plain_74_83 (o p q r s : Int) (W : World) (h0 : 74 ≤ o) (h1 : o ≤ 83) :
    Calls Try.prog 28 #[.agg #[.int .i64 o, .int .i64 p, .int .i64 q, .int .i64 r, .int .i64 s]] W fun e W' => e = .returned (.agg #[.int .i64 o, .int .i64 p, .int .i64 q, .int .i64 r, .int .i64 s]) ∧ Below W.heap.size W W' := by
  have e1 : (o == 1) = false := ne_b (by omega)
  have e2 : (o == 2) = false := ne_b (by omega)
  have e3 : (o == 3) = false := ne_b (by omega)
  have e4 : (o == 4) = false := ne_b (by omega)
  have e50 : (o == 50) = false := ne_b (by omega)
  have e51 : (o == 51) = false := ne_b (by omega)
  have e52 : (o == 52) = false := ne_b (by omega)
  have e53 : (o == 53) = false := ne_b (by omega)
  have e73 : (o == 73) = false := ne_b (by omega)
  have e84 : (o == 84) = false := ne_b (by omega)
  have e95 : (o == 95) = false := ne_b (by omega)
  have e96 : (o == 96) = false := ne_b (by omega)
  have e97 : (o == 97) = false := ne_b (by omega)
  have e98 : (o == 98) = false := ne_b (by omega)
  go_enter Try.func28, Try.ntmps28
  go_wp2_with fail
  go_returns
  exact ⟨rfl, below2 W _ _⟩
set_option maxHeartbeats 1000000 in
theorem plain_84_84 (p q r s : Int) (W : World) :
    Calls Try.prog 28 #[.agg #[.int .i64 84, .int .i64 p, .int .i64 q, .int .i64 r, .int .i64 s]] W fun e W' => e = .returned (.agg #[.int .i64 84, .int .i64 p, .int .i64 q, .int .i64 0, .int .i64 s]) ∧ Below W.heap.size W W' := by
  go_enter Try.func28, Try.ntmps28
  go_wp2_with fail
  go_returns
  exact ⟨rfl, below2 W _ _⟩
set_option maxHeartbeats 1000000 in
theorem plain_85_94 (o p q r s : Int) (W : World) (h0 : 85 ≤ o) (h1 : o ≤ 94) :
    Calls Try.prog 28 #[.agg #[.int .i64 o, .int .i64 p, .int .i64 q, .int .i64 r, .int .i64 s]] W fun e W' => e = .returned (.agg #[.int .i64 o, .int .i64 p, .int .i64 q, .int .i64 r, .int .i64 s]) ∧ Below W.heap.size W W' := by
  have e1 : (o == 1) = false := ne_b (by omega)
  have e2 : (o == 2) = false := ne_b (by omega)
  have e3 : (o == 3) = false := ne_b (by omega)
  have e4 : (o == 4) = false := ne_b (by omega)
  have e50 : (o == 50) = false := ne_b (by omega)
  have e51 : (o == 51) = false := ne_b (by omega)
  have e52 : (o == 52) = false := ne_b (by omega)
  have e53 : (o == 53) = false := ne_b (by omega)
  have e73 : (o == 73) = false := ne_b (by omega)
  have e84 : (o == 84) = false := ne_b (by omega)
  have e95 : (o == 95) = false := ne_b (by omega)
  have e96 : (o == 96) = false := ne_b (by omega)
  have e97 : (o == 97) = false := ne_b (by omega)
  have e98 : (o == 98) = false := ne_b (by omega)
  go_enter Try.func28, Try.ntmps28
  go_wp2_with fail
  go_returns
  exact ⟨rfl, below2 W _ _⟩
set_option maxHeartbeats 1000000 in
theorem plain_95_95 (p q r s : Int) (W : World) :
    Calls Try.prog 28 #[.agg #[.int .i64 95, .int .i64 p, .int .i64 q, .int .i64 r, .int .i64 s]] W fun e W' => e = .returned (.agg #[.int .i64 95, .int .i64 0, .int .i64 0, .int .i64 0, .int .i64 s]) ∧ Below W.heap.size W W' := by
  go_enter Try.func28, Try.ntmps28
  go_wp2_with fail
  go_returns
  exact ⟨rfl, below2 W _ _⟩
set_option maxHeartbeats 1000000 in
theorem plain_96_96 (p q r s : Int) (W : World) :
    Calls Try.prog 28 #[.agg #[.int .i64 96, .int .i64 p, .int .i64 q, .int .i64 r, .int .i64 s]] W fun e W' => e = .returned (.agg #[.int .i64 96, .int .i64 0, .int .i64 0, .int .i64 0, .int .i64 s]) ∧ Below W.heap.size W W' := by
  go_enter Try.func28, Try.ntmps28
  go_wp2_with fail
  go_returns
  exact ⟨rfl, below2 W _ _⟩
set_option maxHeartbeats 1000000 in
theorem plain_97_97 (p q r s : Int) (W : World) :
    Calls Try.prog 28 #[.agg #[.int .i64 97, .int .i64 p, .int .i64 q, .int .i64 r, .int .i64 s]] W fun e W' => e = .returned (.agg #[.int .i64 97, .int .i64 0, .int .i64 0, .int .i64 0, .int .i64 s]) ∧ Below W.heap.size W W' := by
  go_enter Try.func28, Try.ntmps28
  go_wp2_with fail
  go_returns
  exact ⟨rfl, below2 W _ _⟩
set_option maxHeartbeats 1000000 in
theorem plain_98_98 (p q r s : Int) (W : World) :
    Calls Try.prog 28 #[.agg #[.int .i64 98, .int .i64 p, .int .i64 q, .int .i64 r, .int .i64 s]] W fun e W' => e = .returned (.agg #[.int .i64 98, .int .i64 0, .int .i64 q, .int .i64 r, .int .i64 s]) ∧ Below W.heap.size W W' := by
  go_enter Try.func28, Try.ntmps28
  go_wp2_with fail
  go_returns
  exact ⟨rfl, below2 W _ _⟩
def plainI (i : In) : In :=
  if 1 ≤ i.op ∧ i.op ≤ 3 then ⟨i.op, i.rd, 0, 0, i.imm⟩
  else if (5 ≤ i.op ∧ i.op ≤ 10) ∨ (18 ≤ i.op ∧ i.op ≤ 21) ∨ i.op = 98 then ⟨i.op, 0, i.rs1, i.rs2, i.imm⟩
  else if i.op = 4 ∨ (11 ≤ i.op ∧ i.op ≤ 17) ∨ (22 ≤ i.op ∧ i.op ≤ 30) ∨ (41 ≤ i.op ∧ i.op ≤ 44) ∨ (54 ≤ i.op ∧ i.op ≤ 59) ∨ i.op = 73 ∨ i.op = 84 then ⟨i.op, i.rd, i.rs1, 0, i.imm⟩
  else if (50 ≤ i.op ∧ i.op ≤ 53) ∨ (95 ≤ i.op ∧ i.op ≤ 97) then ⟨i.op, 0, 0, 0, i.imm⟩
  else i
theorem plain_any (i : In) (W : World) (h0 : 1 ≤ i.op) (h1 : i.op ≤ 98) :
    Calls Try.prog 28 #[.agg #[.int .i64 (i).op, .int .i64 (i).rd, .int .i64 (i).rs1, .int .i64 (i).rs2, .int .i64 (i).imm]] W fun e W' => e = .returned (.agg #[.int .i64 (plainI i).op, .int .i64 (plainI i).rd, .int .i64 (plainI i).rs1, .int .i64 (plainI i).rs2, .int .i64 (plainI i).imm]) ∧ Below W.heap.size W W' := by
  obtain ⟨o, p, q, r, s⟩ := i
  dsimp only at h0 h1 ⊢
  by_cases h3 : o ≤ 1
  · have e : plainI ⟨o, p, q, r, s⟩ = ⟨o, p, 0, 0, s⟩ := by unfold plainI; rw [if_pos (by dsimp only; omega)]
    rw [e]
    obtain rfl : o = 1 := by omega
    exact plain_1_1 p q r s W
  by_cases h5 : o ≤ 2
  · have e : plainI ⟨o, p, q, r, s⟩ = ⟨o, p, 0, 0, s⟩ := by unfold plainI; rw [if_pos (by dsimp only; omega)]
    rw [e]
    obtain rfl : o = 2 := by omega
    exact plain_2_2 p q r s W
  by_cases h7 : o ≤ 3
  · have e : plainI ⟨o, p, q, r, s⟩ = ⟨o, p, 0, 0, s⟩ := by unfold plainI; rw [if_pos (by dsimp only; omega)]
    rw [e]
    obtain rfl : o = 3 := by omega
    exact plain_3_3 p q r s W
  by_cases h9 : o ≤ 4
  · have e : plainI ⟨o, p, q, r, s⟩ = ⟨o, p, q, 0, s⟩ := by unfold plainI; rw [if_neg (by dsimp only; omega), if_neg (by dsimp only; omega), if_pos (by dsimp only; omega)]
    rw [e]
    obtain rfl : o = 4 := by omega
    exact plain_4_4 p q r s W
  by_cases h11 : o ≤ 10
  · have e : plainI ⟨o, p, q, r, s⟩ = ⟨o, 0, q, r, s⟩ := by unfold plainI; rw [if_neg (by dsimp only; omega), if_pos (by dsimp only; omega)]
    rw [e]
    exact plain_5_10 o p q r s W (by omega) (by omega)
  by_cases h23 : o ≤ 17
  · have e : plainI ⟨o, p, q, r, s⟩ = ⟨o, p, q, 0, s⟩ := by unfold plainI; rw [if_neg (by dsimp only; omega), if_neg (by dsimp only; omega), if_pos (by dsimp only; omega)]
    rw [e]
    exact plain_11_17 o p q r s W (by omega) (by omega)
  by_cases h37 : o ≤ 21
  · have e : plainI ⟨o, p, q, r, s⟩ = ⟨o, 0, q, r, s⟩ := by unfold plainI; rw [if_neg (by dsimp only; omega), if_pos (by dsimp only; omega)]
    rw [e]
    exact plain_18_21 o p q r s W (by omega) (by omega)
  by_cases h45 : o ≤ 30
  · have e : plainI ⟨o, p, q, r, s⟩ = ⟨o, p, q, 0, s⟩ := by unfold plainI; rw [if_neg (by dsimp only; omega), if_neg (by dsimp only; omega), if_pos (by dsimp only; omega)]
    rw [e]
    exact plain_22_30 o p q r s W (by omega) (by omega)
  by_cases h63 : o ≤ 40
  · have e : plainI ⟨o, p, q, r, s⟩ = ⟨o, p, q, r, s⟩ := by unfold plainI; rw [if_neg (by dsimp only; omega), if_neg (by dsimp only; omega), if_neg (by dsimp only; omega), if_neg (by dsimp only; omega)]
    rw [e]
    exact plain_31_40 o p q r s W (by omega) (by omega)
  by_cases h83 : o ≤ 44
  · have e : plainI ⟨o, p, q, r, s⟩ = ⟨o, p, q, 0, s⟩ := by unfold plainI; rw [if_neg (by dsimp only; omega), if_neg (by dsimp only; omega), if_pos (by dsimp only; omega)]
    rw [e]
    exact plain_41_44 o p q r s W (by omega) (by omega)
  by_cases h91 : o ≤ 49
  · have e : plainI ⟨o, p, q, r, s⟩ = ⟨o, p, q, r, s⟩ := by unfold plainI; rw [if_neg (by dsimp only; omega), if_neg (by dsimp only; omega), if_neg (by dsimp only; omega), if_neg (by dsimp only; omega)]
    rw [e]
    exact plain_45_49 o p q r s W (by omega) (by omega)
  by_cases h101 : o ≤ 50
  · have e : plainI ⟨o, p, q, r, s⟩ = ⟨o, 0, 0, 0, s⟩ := by unfold plainI; rw [if_neg (by dsimp only; omega), if_neg (by dsimp only; omega), if_neg (by dsimp only; omega), if_pos (by dsimp only; omega)]
    rw [e]
    obtain rfl : o = 50 := by omega
    exact plain_50_50 p q r s W
  by_cases h103 : o ≤ 51
  · have e : plainI ⟨o, p, q, r, s⟩ = ⟨o, 0, 0, 0, s⟩ := by unfold plainI; rw [if_neg (by dsimp only; omega), if_neg (by dsimp only; omega), if_neg (by dsimp only; omega), if_pos (by dsimp only; omega)]
    rw [e]
    obtain rfl : o = 51 := by omega
    exact plain_51_51 p q r s W
  by_cases h105 : o ≤ 52
  · have e : plainI ⟨o, p, q, r, s⟩ = ⟨o, 0, 0, 0, s⟩ := by unfold plainI; rw [if_neg (by dsimp only; omega), if_neg (by dsimp only; omega), if_neg (by dsimp only; omega), if_pos (by dsimp only; omega)]
    rw [e]
    obtain rfl : o = 52 := by omega
    exact plain_52_52 p q r s W
  by_cases h107 : o ≤ 53
  · have e : plainI ⟨o, p, q, r, s⟩ = ⟨o, 0, 0, 0, s⟩ := by unfold plainI; rw [if_neg (by dsimp only; omega), if_neg (by dsimp only; omega), if_neg (by dsimp only; omega), if_pos (by dsimp only; omega)]
    rw [e]
    obtain rfl : o = 53 := by omega
    exact plain_53_53 p q r s W
  by_cases h109 : o ≤ 59
  · have e : plainI ⟨o, p, q, r, s⟩ = ⟨o, p, q, 0, s⟩ := by unfold plainI; rw [if_neg (by dsimp only; omega), if_neg (by dsimp only; omega), if_pos (by dsimp only; omega)]
    rw [e]
    exact plain_54_59 o p q r s W (by omega) (by omega)
  by_cases h121 : o ≤ 72
  · have e : plainI ⟨o, p, q, r, s⟩ = ⟨o, p, q, r, s⟩ := by unfold plainI; rw [if_neg (by dsimp only; omega), if_neg (by dsimp only; omega), if_neg (by dsimp only; omega), if_neg (by dsimp only; omega)]
    rw [e]
    exact plain_60_72 o p q r s W (by omega) (by omega)
  by_cases h147 : o ≤ 73
  · have e : plainI ⟨o, p, q, r, s⟩ = ⟨o, p, q, 0, s⟩ := by unfold plainI; rw [if_neg (by dsimp only; omega), if_neg (by dsimp only; omega), if_pos (by dsimp only; omega)]
    rw [e]
    obtain rfl : o = 73 := by omega
    exact plain_73_73 p q r s W
  by_cases h149 : o ≤ 83
  · have e : plainI ⟨o, p, q, r, s⟩ = ⟨o, p, q, r, s⟩ := by unfold plainI; rw [if_neg (by dsimp only; omega), if_neg (by dsimp only; omega), if_neg (by dsimp only; omega), if_neg (by dsimp only; omega)]
    rw [e]
    exact plain_74_83 o p q r s W (by omega) (by omega)
  by_cases h169 : o ≤ 84
  · have e : plainI ⟨o, p, q, r, s⟩ = ⟨o, p, q, 0, s⟩ := by unfold plainI; rw [if_neg (by dsimp only; omega), if_neg (by dsimp only; omega), if_pos (by dsimp only; omega)]
    rw [e]
    obtain rfl : o = 84 := by omega
    exact plain_84_84 p q r s W
  by_cases h171 : o ≤ 94
  · have e : plainI ⟨o, p, q, r, s⟩ = ⟨o, p, q, r, s⟩ := by unfold plainI; rw [if_neg (by dsimp only; omega), if_neg (by dsimp only; omega), if_neg (by dsimp only; omega), if_neg (by dsimp only; omega)]
    rw [e]
    exact plain_85_94 o p q r s W (by omega) (by omega)
  by_cases h191 : o ≤ 95
  · have e : plainI ⟨o, p, q, r, s⟩ = ⟨o, 0, 0, 0, s⟩ := by unfold plainI; rw [if_neg (by dsimp only; omega), if_neg (by dsimp only; omega), if_neg (by dsimp only; omega), if_pos (by dsimp only; omega)]
    rw [e]
    obtain rfl : o = 95 := by omega
    exact plain_95_95 p q r s W
  by_cases h193 : o ≤ 96
  · have e : plainI ⟨o, p, q, r, s⟩ = ⟨o, 0, 0, 0, s⟩ := by unfold plainI; rw [if_neg (by dsimp only; omega), if_neg (by dsimp only; omega), if_neg (by dsimp only; omega), if_pos (by dsimp only; omega)]
    rw [e]
    obtain rfl : o = 96 := by omega
    exact plain_96_96 p q r s W
  by_cases h195 : o ≤ 97
  · have e : plainI ⟨o, p, q, r, s⟩ = ⟨o, 0, 0, 0, s⟩ := by unfold plainI; rw [if_neg (by dsimp only; omega), if_neg (by dsimp only; omega), if_neg (by dsimp only; omega), if_pos (by dsimp only; omega)]
    rw [e]
    obtain rfl : o = 97 := by omega
    exact plain_97_97 p q r s W
  by_cases h197 : o ≤ 98
  · have e : plainI ⟨o, p, q, r, s⟩ = ⟨o, 0, q, r, s⟩ := by unfold plainI; rw [if_neg (by dsimp only; omega), if_pos (by dsimp only; omega)]
    rw [e]
    obtain rfl : o = 98 := by omega
    exact plain_98_98 p q r s W
  omega
end Go.Proofs.Ytdodbfpahmkpbaa
