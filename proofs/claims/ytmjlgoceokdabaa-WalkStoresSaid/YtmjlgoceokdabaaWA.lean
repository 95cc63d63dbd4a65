/- WalkPages and WalkStores walked. -/
import Derived.Test.YtmjlgoceokdabaaU
namespace Go.Proofs.Ytmjlgoceokdabaa
open Go.RowKit Go.Deep Go.Joins
set_option maxRecDepth 100000 in
set_option maxHeartbeats 2000000 in
theorem pages_why (C V : Array Value) (m t low kind a b e : Int) (W : World) (hC : C.size = 16) (hV : V.size = 3)
    (c1 : RowKit.Hid (∀ W', Below W.heap.size W W' → Calls Try.prog 9 #[.agg C, .int .i64 m, .agg V, .int .u64 t, .int .i64 kind] W' fun y W'' => y = .returned (.tuple #[.int .u64 a, .int .i64 e]) ∧ Below W'.heap.size W' W''))
    (c2 : RowKit.Hid (∀ W', Below W.heap.size W W' → Calls Try.prog 9 #[.agg C, .int .i64 m, .agg V, .int .u64 (bits .or .u64 (bits .andNot .u64 t 4095) (bits .and .u64 low 4095)), .int .i64 kind] W' fun y W'' => y = .returned (.tuple #[.int .u64 b, .int .i64 e]) ∧ Below W'.heap.size W' W'')) (h : 0 ≤ e) :
    Calls Try.prog 4 #[.agg C, .int .i64 m, .agg V, .int .u64 t, .int .u64 low, .int .i64 kind] W fun e W' => e = .returned (.bool true) ∧ Below W.heap.size W W' := by
  have hW := Lib.hid (boxes W C V)
  have g : decide (0 ≤ e) = true := decide_eq_true h
  clear h
  have ee : (e == e) = true := by simp
  go_enter Try.func4, Try.ntmps4
  go_wp2_with (first | (go_at_call 7; (with_reducible refine (awake_any _).mono ?_); rintro e w1 ⟨rfl, k1⟩; have X := Lib.hid (And.intro (hW.out.1.next k1) (And.intro (hW.out.2.1.next k1) (below_then hW.out.2.2 k1))); clear k1) | (with_reducible show wpList _ _ _ (⟨some 26, Op.load 24 (.tmp 6), 24, _, _, _⟩ :: _) _ _; refine wpList_load_by rfl rfl (Box.load (X.out.1) hC) rfl ?_; simp only [Act.put, List.setIfInBounds_toArray, List.set_cons_zero, List.set_cons_succ]) | (with_reducible show wpList _ _ _ (⟨some 28, Op.load 28 (.tmp 8), 28, _, _, _⟩ :: _) _ _; refine wpList_load_by rfl rfl (MBox.load (X.out.2.1) hV) rfl ?_; simp only [Act.put, List.setIfInBounds_toArray, List.set_cons_zero, List.set_cons_succ]) | (go_at_call 9; (with_reducible refine (c1.out _ X.out.2.2).mono ?_); rintro y w2 ⟨rfl, k2⟩; have X2 := Lib.hid (And.intro (X.out.1.next k2) (And.intro (X.out.2.1.next k2) (below_then X.out.2.2 k2))); clear k2) | (with_reducible show wpList _ _ _ (⟨some 35, Op.load 24 (.tmp 6), 24, _, _, _⟩ :: _) _ _; refine wpList_load_by rfl rfl (Box.load (X2.out.1) hC) rfl ?_; simp only [Act.put, List.setIfInBounds_toArray, List.set_cons_zero, List.set_cons_succ]) | (with_reducible show wpList _ _ _ (⟨some 37, Op.load 28 (.tmp 8), 28, _, _, _⟩ :: _) _ _; refine wpList_load_by rfl rfl (MBox.load (X2.out.2.1) hV) rfl ?_; simp only [Act.put, List.setIfInBounds_toArray, List.set_cons_zero, List.set_cons_succ]) | (go_at_call 9; (with_reducible refine (c2.out _ X2.out.2.2).mono ?_); rintro y w3 ⟨rfl, k3⟩; have X3 := Lib.hid (And.intro (X2.out.1.next k3) (And.intro (X2.out.2.1.next k3) (below_then X2.out.2.2 k3))); clear k3) | fail)
  go_ret
  exact ⟨rfl, X3.out.2.2⟩
set_option maxRecDepth 100000 in
set_option maxHeartbeats 2000000 in
theorem pages_found (C V : Array Value) (m t low kind a b e : Int) (W : World) (hC : C.size = 16) (hV : V.size = 3)
    (c1 : RowKit.Hid (∀ W', Below W.heap.size W W' → Calls Try.prog 9 #[.agg C, .int .i64 m, .agg V, .int .u64 t, .int .i64 kind] W' fun y W'' => y = .returned (.tuple #[.int .u64 a, .int .i64 e]) ∧ Below W'.heap.size W' W''))
    (c2 : RowKit.Hid (∀ W', Below W.heap.size W W' → Calls Try.prog 9 #[.agg C, .int .i64 m, .agg V, .int .u64 (bits .or .u64 (bits .andNot .u64 t 4095) (bits .and .u64 low 4095)), .int .i64 kind] W' fun y W'' => y = .returned (.tuple #[.int .u64 b, .int .i64 e]) ∧ Below W'.heap.size W' W'')) (h : ¬ 0 ≤ e) (q : (IntKind.u64.wrap (a - t) == IntKind.u64.wrap (b - (bits .or .u64 (bits .andNot .u64 t 4095) (bits .and .u64 low 4095)))) = true) :
    Calls Try.prog 4 #[.agg C, .int .i64 m, .agg V, .int .u64 t, .int .u64 low, .int .i64 kind] W fun e W' => e = .returned (.bool true) ∧ Below W.heap.size W W' := by
  have hW := Lib.hid (boxes W C V)
  have g : decide (0 ≤ e) = false := decide_eq_false h
  clear h
  have ee : (e == e) = true := by simp
  go_enter Try.func4, Try.ntmps4
  go_wp2_with (first | (go_at_call 7; (with_reducible refine (awake_any _).mono ?_); rintro e w1 ⟨rfl, k1⟩; have X := Lib.hid (And.intro (hW.out.1.next k1) (And.intro (hW.out.2.1.next k1) (below_then hW.out.2.2 k1))); clear k1) | (with_reducible show wpList _ _ _ (⟨some 26, Op.load 24 (.tmp 6), 24, _, _, _⟩ :: _) _ _; refine wpList_load_by rfl rfl (Box.load (X.out.1) hC) rfl ?_; simp only [Act.put, List.setIfInBounds_toArray, List.set_cons_zero, List.set_cons_succ]) | (with_reducible show wpList _ _ _ (⟨some 28, Op.load 28 (.tmp 8), 28, _, _, _⟩ :: _) _ _; refine wpList_load_by rfl rfl (MBox.load (X.out.2.1) hV) rfl ?_; simp only [Act.put, List.setIfInBounds_toArray, List.set_cons_zero, List.set_cons_succ]) | (go_at_call 9; (with_reducible refine (c1.out _ X.out.2.2).mono ?_); rintro y w2 ⟨rfl, k2⟩; have X2 := Lib.hid (And.intro (X.out.1.next k2) (And.intro (X.out.2.1.next k2) (below_then X.out.2.2 k2))); clear k2) | (with_reducible show wpList _ _ _ (⟨some 35, Op.load 24 (.tmp 6), 24, _, _, _⟩ :: _) _ _; refine wpList_load_by rfl rfl (Box.load (X2.out.1) hC) rfl ?_; simp only [Act.put, List.setIfInBounds_toArray, List.set_cons_zero, List.set_cons_succ]) | (with_reducible show wpList _ _ _ (⟨some 37, Op.load 28 (.tmp 8), 28, _, _, _⟩ :: _) _ _; refine wpList_load_by rfl rfl (MBox.load (X2.out.2.1) hV) rfl ?_; simp only [Act.put, List.setIfInBounds_toArray, List.set_cons_zero, List.set_cons_succ]) | (go_at_call 9; (with_reducible refine (c2.out _ X2.out.2.2).mono ?_); rintro y w3 ⟨rfl, k3⟩; have X3 := Lib.hid (And.intro (X2.out.1.next k3) (And.intro (X2.out.2.1.next k3) (below_then X2.out.2.2 k3))); clear k3) | fail)
  go_ret
  exact ⟨rfl, X3.out.2.2⟩
set_option maxRecDepth 100000 in
set_option maxHeartbeats 2000000 in
theorem stores_why (C V : Array Value) (m t a b e f : Int) (W : World) (hC : C.size = 16) (hV : V.size = 3)
    (c1 : RowKit.Hid (∀ W', Below W.heap.size W W' → Calls Try.prog 9 #[.agg C, .int .i64 m, .agg V, .int .u64 t, .int .i64 2] W' fun y W'' => y = .returned (.tuple #[.int .u64 a, .int .i64 e]) ∧ Below W'.heap.size W' W''))
    (c2 : RowKit.Hid (∀ W', Below W.heap.size W W' → Calls Try.prog 9 #[.agg C, .int .i64 m, .agg V, .int .u64 t, .int .i64 1] W' fun y W'' => y = .returned (.tuple #[.int .u64 b, .int .i64 f]) ∧ Below W'.heap.size W' W'')) (h : 0 ≤ e) :
    Calls Try.prog 5 #[.agg C, .int .i64 m, .agg V, .int .u64 t] W fun e W' => e = .returned (.bool true) ∧ Below W.heap.size W W' := by
  have hW := Lib.hid (boxes W C V)
  have g : decide (0 ≤ e) = true := decide_eq_true h
  clear h
  go_enter Try.func5, Try.ntmps5
  go_wp2_with (first | (go_at_call 7; (with_reducible refine (awake_any _).mono ?_); rintro e w1 ⟨rfl, k1⟩; have X := Lib.hid (And.intro (hW.out.1.next k1) (And.intro (hW.out.2.1.next k1) (below_then hW.out.2.2 k1))); clear k1) | (with_reducible show wpList _ _ _ (⟨some 16, Op.load 24 (.tmp 4), 24, _, _, _⟩ :: _) _ _; refine wpList_load_by rfl rfl (Box.load (X.out.1) hC) rfl ?_; simp only [Act.put, List.setIfInBounds_toArray, List.set_cons_zero, List.set_cons_succ]) | (with_reducible show wpList _ _ _ (⟨some 18, Op.load 28 (.tmp 6), 28, _, _, _⟩ :: _) _ _; refine wpList_load_by rfl rfl (MBox.load (X.out.2.1) hV) rfl ?_; simp only [Act.put, List.setIfInBounds_toArray, List.set_cons_zero, List.set_cons_succ]) | (go_at_call 9; (with_reducible refine (c1.out _ X.out.2.2).mono ?_); rintro y w2 ⟨rfl, k2⟩; have X2 := Lib.hid (And.intro (X.out.1.next k2) (And.intro (X.out.2.1.next k2) (below_then X.out.2.2 k2))); clear k2) | (with_reducible show wpList _ _ _ (⟨some 24, Op.load 24 (.tmp 4), 24, _, _, _⟩ :: _) _ _; refine wpList_load_by rfl rfl (Box.load (X2.out.1) hC) rfl ?_; simp only [Act.put, List.setIfInBounds_toArray, List.set_cons_zero, List.set_cons_succ]) | (with_reducible show wpList _ _ _ (⟨some 26, Op.load 28 (.tmp 6), 28, _, _, _⟩ :: _) _ _; refine wpList_load_by rfl rfl (MBox.load (X2.out.2.1) hV) rfl ?_; simp only [Act.put, List.setIfInBounds_toArray, List.set_cons_zero, List.set_cons_succ]) | (go_at_call 9; (with_reducible refine (c2.out _ X2.out.2.2).mono ?_); rintro y w3 ⟨rfl, k3⟩; have X3 := Lib.hid (And.intro (X2.out.1.next k3) (And.intro (X2.out.2.1.next k3) (below_then X2.out.2.2 k3))); clear k3) | fail)
  go_ret
  exact ⟨rfl, X3.out.2.2⟩
set_option maxRecDepth 100000 in
set_option maxHeartbeats 2000000 in
theorem stores_found (C V : Array Value) (m t a : Int) (W : World) (hC : C.size = 16) (hV : V.size = 3)
    (c1 : RowKit.Hid (∀ W', Below W.heap.size W W' → Calls Try.prog 9 #[.agg C, .int .i64 m, .agg V, .int .u64 t, .int .i64 2] W' fun y W'' => y = .returned (.tuple #[.int .u64 a, .int .i64 (-1)]) ∧ Below W'.heap.size W' W''))
    (c2 : RowKit.Hid (∀ W', Below W.heap.size W W' → Calls Try.prog 9 #[.agg C, .int .i64 m, .agg V, .int .u64 t, .int .i64 1] W' fun y W'' => y = .returned (.tuple #[.int .u64 a, .int .i64 (-1)]) ∧ Below W'.heap.size W' W'')) :
    Calls Try.prog 5 #[.agg C, .int .i64 m, .agg V, .int .u64 t] W fun e W' => e = .returned (.bool true) ∧ Below W.heap.size W W' := by
  have hW := Lib.hid (boxes W C V)
  have ee : (a == a) = true := by simp
  go_enter Try.func5, Try.ntmps5
  go_wp2_with (first | (go_at_call 7; (with_reducible refine (awake_any _).mono ?_); rintro e w1 ⟨rfl, k1⟩; have X := Lib.hid (And.intro (hW.out.1.next k1) (And.intro (hW.out.2.1.next k1) (below_then hW.out.2.2 k1))); clear k1) | (with_reducible show wpList _ _ _ (⟨some 16, Op.load 24 (.tmp 4), 24, _, _, _⟩ :: _) _ _; refine wpList_load_by rfl rfl (Box.load (X.out.1) hC) rfl ?_; simp only [Act.put, List.setIfInBounds_toArray, List.set_cons_zero, List.set_cons_succ]) | (with_reducible show wpList _ _ _ (⟨some 18, Op.load 28 (.tmp 6), 28, _, _, _⟩ :: _) _ _; refine wpList_load_by rfl rfl (MBox.load (X.out.2.1) hV) rfl ?_; simp only [Act.put, List.setIfInBounds_toArray, List.set_cons_zero, List.set_cons_succ]) | (go_at_call 9; (with_reducible refine (c1.out _ X.out.2.2).mono ?_); rintro y w2 ⟨rfl, k2⟩; have X2 := Lib.hid (And.intro (X.out.1.next k2) (And.intro (X.out.2.1.next k2) (below_then X.out.2.2 k2))); clear k2) | (with_reducible show wpList _ _ _ (⟨some 24, Op.load 24 (.tmp 4), 24, _, _, _⟩ :: _) _ _; refine wpList_load_by rfl rfl (Box.load (X2.out.1) hC) rfl ?_; simp only [Act.put, List.setIfInBounds_toArray, List.set_cons_zero, List.set_cons_succ]) | (with_reducible show wpList _ _ _ (⟨some 26, Op.load 28 (.tmp 6), 28, _, _, _⟩ :: _) _ _; refine wpList_load_by rfl rfl (MBox.load (X2.out.2.1) hV) rfl ?_; simp only [Act.put, List.setIfInBounds_toArray, List.set_cons_zero, List.set_cons_succ]) | (go_at_call 9; (with_reducible refine (c2.out _ X2.out.2.2).mono ?_); rintro y w3 ⟨rfl, k3⟩; have X3 := Lib.hid (And.intro (X2.out.1.next k3) (And.intro (X2.out.2.1.next k3) (below_then X2.out.2.2 k3))); clear k3) | fail)
  go_ret
  exact ⟨rfl, X3.out.2.2⟩

end Go.Proofs.Ytmjlgoceokdabaa
