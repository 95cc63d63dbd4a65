/- WalkCauses walked. -/
import Derived.Test.YtmjlgoceokdabaaU
namespace Go.Proofs.Ytmjlgoceokdabaa
open Go.RowKit Go.Deep Go.Joins
set_option maxRecDepth 100000 in
set_option maxHeartbeats 2000000 in
theorem causes_low (C V : Array Value) (m t kind : Int) (W : World) (hC : C.size = 16) (hV : V.size = 3)
    (c1 : RowKit.Hid (∀ W', Below W.heap.size W W' → Calls Try.prog 9 #[.agg C, .int .i64 m, .agg V, .int .u64 t, .int .i64 kind] W' fun y W'' => y = .returned (.tuple #[.int .u64 0, .int .i64 0]) ∧ Below W'.heap.size W' W'')) (h : kind < 0) :
    Calls Try.prog 6 #[.agg C, .int .i64 m, .agg V, .int .u64 t, .int .i64 kind] W fun e W' => e = .returned (.bool true) ∧ Below W.heap.size W W' := by
  have hW := Lib.hid (boxes W C V)
  have g : decide (kind < 0) = true := decide_eq_true h
  clear h
  go_enter Try.func6, Try.ntmps6
  go_wp2_with (first | (go_at_call 7; (with_reducible refine (awake_any _).mono ?_); rintro e w1 ⟨rfl, k1⟩; have X := Lib.hid (And.intro (hW.out.1.next k1) (And.intro (hW.out.2.1.next k1) (below_then hW.out.2.2 k1))); clear k1) | (with_reducible show wpList _ _ _ (⟨some 18, Op.load 24 (.tmp 5), 24, _, _, _⟩ :: _) _ _; refine wpList_load_by rfl rfl (Box.load (X.out.1) hC) rfl ?_; simp only [Act.put, List.setIfInBounds_toArray, List.set_cons_zero, List.set_cons_succ]) | (with_reducible show wpList _ _ _ (⟨some 20, Op.load 28 (.tmp 7), 28, _, _, _⟩ :: _) _ _; refine wpList_load_by rfl rfl (MBox.load (X.out.2.1) hV) rfl ?_; simp only [Act.put, List.setIfInBounds_toArray, List.set_cons_zero, List.set_cons_succ]) | (go_at_call 9; (with_reducible refine (c1.out _ X.out.2.2).mono ?_); rintro y w2 ⟨rfl, k2⟩; have X2 := Lib.hid (And.intro (X.out.1.next k2) (And.intro (X.out.2.1.next k2) (below_then X.out.2.2 k2))); clear k2) | fail)
  go_ret
  exact ⟨rfl, X2.out.2.2⟩
set_option maxRecDepth 100000 in
set_option maxHeartbeats 2000000 in
theorem causes_high (C V : Array Value) (m t kind : Int) (W : World) (hC : C.size = 16) (hV : V.size = 3)
    (c1 : RowKit.Hid (∀ W', Below W.heap.size W W' → Calls Try.prog 9 #[.agg C, .int .i64 m, .agg V, .int .u64 t, .int .i64 kind] W' fun y W'' => y = .returned (.tuple #[.int .u64 0, .int .i64 0]) ∧ Below W'.heap.size W' W'')) (h : 2 < kind) :
    Calls Try.prog 6 #[.agg C, .int .i64 m, .agg V, .int .u64 t, .int .i64 kind] W fun e W' => e = .returned (.bool true) ∧ Below W.heap.size W W' := by
  have hW := Lib.hid (boxes W C V)
  have g : decide (kind < 0) = false := decide_eq_false (by omega)
  have g2 : decide (2 < kind) = true := decide_eq_true h
  clear h
  go_enter Try.func6, Try.ntmps6
  go_wp2_with (first | (go_at_call 7; (with_reducible refine (awake_any _).mono ?_); rintro e w1 ⟨rfl, k1⟩; have X := Lib.hid (And.intro (hW.out.1.next k1) (And.intro (hW.out.2.1.next k1) (below_then hW.out.2.2 k1))); clear k1) | (with_reducible show wpList _ _ _ (⟨some 18, Op.load 24 (.tmp 5), 24, _, _, _⟩ :: _) _ _; refine wpList_load_by rfl rfl (Box.load (X.out.1) hC) rfl ?_; simp only [Act.put, List.setIfInBounds_toArray, List.set_cons_zero, List.set_cons_succ]) | (with_reducible show wpList _ _ _ (⟨some 20, Op.load 28 (.tmp 7), 28, _, _, _⟩ :: _) _ _; refine wpList_load_by rfl rfl (MBox.load (X.out.2.1) hV) rfl ?_; simp only [Act.put, List.setIfInBounds_toArray, List.set_cons_zero, List.set_cons_succ]) | (go_at_call 9; (with_reducible refine (c1.out _ X.out.2.2).mono ?_); rintro y w2 ⟨rfl, k2⟩; have X2 := Lib.hid (And.intro (X.out.1.next k2) (And.intro (X.out.2.1.next k2) (below_then X.out.2.2 k2))); clear k2) | fail)
  go_ret
  exact ⟨rfl, X2.out.2.2⟩
set_option maxRecDepth 100000 in
set_option maxHeartbeats 2000000 in
theorem causes_0_page (C V : Array Value) (m t : Int) (W : World) (hC : C.size = 16) (hV : V.size = 3)
    (c1 : RowKit.Hid (∀ W', Below W.heap.size W W' → Calls Try.prog 9 #[.agg C, .int .i64 m, .agg V, .int .u64 t, .int .i64 0] W' fun y W'' => y = .returned (.tuple #[.int .u64 0, .int .i64 12]) ∧ Below W'.heap.size W' W'')) (hm : (m == 3) = false) :
    Calls Try.prog 6 #[.agg C, .int .i64 m, .agg V, .int .u64 t, .int .i64 0] W fun e W' => e = .returned (.bool true) ∧ Below W.heap.size W W' := by
  have hW := Lib.hid (boxes W C V)
  go_enter Try.func6, Try.ntmps6
  go_wp2_with (first | (go_at_call 7; (with_reducible refine (awake_any _).mono ?_); rintro e w1 ⟨rfl, k1⟩; have X := Lib.hid (And.intro (hW.out.1.next k1) (And.intro (hW.out.2.1.next k1) (below_then hW.out.2.2 k1))); clear k1) | (with_reducible show wpList _ _ _ (⟨some 18, Op.load 24 (.tmp 5), 24, _, _, _⟩ :: _) _ _; refine wpList_load_by rfl rfl (Box.load (X.out.1) hC) rfl ?_; simp only [Act.put, List.setIfInBounds_toArray, List.set_cons_zero, List.set_cons_succ]) | (with_reducible show wpList _ _ _ (⟨some 20, Op.load 28 (.tmp 7), 28, _, _, _⟩ :: _) _ _; refine wpList_load_by rfl rfl (MBox.load (X.out.2.1) hV) rfl ?_; simp only [Act.put, List.setIfInBounds_toArray, List.set_cons_zero, List.set_cons_succ]) | (go_at_call 9; (with_reducible refine (c1.out _ X.out.2.2).mono ?_); rintro y w2 ⟨rfl, k2⟩; have X2 := Lib.hid (And.intro (X.out.1.next k2) (And.intro (X.out.2.1.next k2) (below_then X.out.2.2 k2))); clear k2) | fail)
  go_ret
  exact ⟨rfl, (X2.out.2.2.alloc X2.out.2.2.size _).alloc (Nat.le_trans X2.out.2.2.size (by simp)) _⟩
set_option maxRecDepth 100000 in
set_option maxHeartbeats 2000000 in
theorem causes_0_access (C V : Array Value) (m t : Int) (W : World) (hC : C.size = 16) (hV : V.size = 3)
    (c1 : RowKit.Hid (∀ W', Below W.heap.size W W' → Calls Try.prog 9 #[.agg C, .int .i64 m, .agg V, .int .u64 t, .int .i64 0] W' fun y W'' => y = .returned (.tuple #[.int .u64 0, .int .i64 1]) ∧ Below W'.heap.size W' W'')) (hm : (m == 3) = false) :
    Calls Try.prog 6 #[.agg C, .int .i64 m, .agg V, .int .u64 t, .int .i64 0] W fun e W' => e = .returned (.bool true) ∧ Below W.heap.size W W' := by
  have hW := Lib.hid (boxes W C V)
  go_enter Try.func6, Try.ntmps6
  go_wp2_with (first | (go_at_call 7; (with_reducible refine (awake_any _).mono ?_); rintro e w1 ⟨rfl, k1⟩; have X := Lib.hid (And.intro (hW.out.1.next k1) (And.intro (hW.out.2.1.next k1) (below_then hW.out.2.2 k1))); clear k1) | (with_reducible show wpList _ _ _ (⟨some 18, Op.load 24 (.tmp 5), 24, _, _, _⟩ :: _) _ _; refine wpList_load_by rfl rfl (Box.load (X.out.1) hC) rfl ?_; simp only [Act.put, List.setIfInBounds_toArray, List.set_cons_zero, List.set_cons_succ]) | (with_reducible show wpList _ _ _ (⟨some 20, Op.load 28 (.tmp 7), 28, _, _, _⟩ :: _) _ _; refine wpList_load_by rfl rfl (MBox.load (X.out.2.1) hV) rfl ?_; simp only [Act.put, List.setIfInBounds_toArray, List.set_cons_zero, List.set_cons_succ]) | (go_at_call 9; (with_reducible refine (c1.out _ X.out.2.2).mono ?_); rintro y w2 ⟨rfl, k2⟩; have X2 := Lib.hid (And.intro (X.out.1.next k2) (And.intro (X.out.2.1.next k2) (below_then X.out.2.2 k2))); clear k2) | fail)
  go_ret
  exact ⟨rfl, (X2.out.2.2.alloc X2.out.2.2.size _).alloc (Nat.le_trans X2.out.2.2.size (by simp)) _⟩
set_option maxRecDepth 100000 in
set_option maxHeartbeats 2000000 in
theorem causes_0_found (C V : Array Value) (m t a : Int) (W : World) (hC : C.size = 16) (hV : V.size = 3)
    (c1 : RowKit.Hid (∀ W', Below W.heap.size W W' → Calls Try.prog 9 #[.agg C, .int .i64 m, .agg V, .int .u64 t, .int .i64 0] W' fun y W'' => y = .returned (.tuple #[.int .u64 a, .int .i64 (-1)]) ∧ Below W'.heap.size W' W'')) (hm : (m == 3) = false) :
    Calls Try.prog 6 #[.agg C, .int .i64 m, .agg V, .int .u64 t, .int .i64 0] W fun e W' => e = .returned (.bool true) ∧ Below W.heap.size W W' := by
  have hW := Lib.hid (boxes W C V)
  go_enter Try.func6, Try.ntmps6
  go_wp2_with (first | (go_at_call 7; (with_reducible refine (awake_any _).mono ?_); rintro e w1 ⟨rfl, k1⟩; have X := Lib.hid (And.intro (hW.out.1.next k1) (And.intro (hW.out.2.1.next k1) (below_then hW.out.2.2 k1))); clear k1) | (with_reducible show wpList _ _ _ (⟨some 18, Op.load 24 (.tmp 5), 24, _, _, _⟩ :: _) _ _; refine wpList_load_by rfl rfl (Box.load (X.out.1) hC) rfl ?_; simp only [Act.put, List.setIfInBounds_toArray, List.set_cons_zero, List.set_cons_succ]) | (with_reducible show wpList _ _ _ (⟨some 20, Op.load 28 (.tmp 7), 28, _, _, _⟩ :: _) _ _; refine wpList_load_by rfl rfl (MBox.load (X.out.2.1) hV) rfl ?_; simp only [Act.put, List.setIfInBounds_toArray, List.set_cons_zero, List.set_cons_succ]) | (go_at_call 9; (with_reducible refine (c1.out _ X.out.2.2).mono ?_); rintro y w2 ⟨rfl, k2⟩; have X2 := Lib.hid (And.intro (X.out.1.next k2) (And.intro (X.out.2.1.next k2) (below_then X.out.2.2 k2))); clear k2) | fail)
  go_ret
  exact ⟨rfl, (X2.out.2.2.alloc X2.out.2.2.size _).alloc (Nat.le_trans X2.out.2.2.size (by simp)) _⟩
set_option maxRecDepth 100000 in
set_option maxHeartbeats 2000000 in
theorem causes_1_page (C V : Array Value) (m t : Int) (W : World) (hC : C.size = 16) (hV : V.size = 3)
    (c1 : RowKit.Hid (∀ W', Below W.heap.size W W' → Calls Try.prog 9 #[.agg C, .int .i64 m, .agg V, .int .u64 t, .int .i64 1] W' fun y W'' => y = .returned (.tuple #[.int .u64 0, .int .i64 13]) ∧ Below W'.heap.size W' W''))  :
    Calls Try.prog 6 #[.agg C, .int .i64 m, .agg V, .int .u64 t, .int .i64 1] W fun e W' => e = .returned (.bool true) ∧ Below W.heap.size W W' := by
  have hW := Lib.hid (boxes W C V)
  rcases Bool.eq_false_or_eq_true (m == 3) with hm | hm
  all_goals
    go_enter Try.func6, Try.ntmps6
    go_wp2_with (first | (go_at_call 7; (with_reducible refine (awake_any _).mono ?_); rintro e w1 ⟨rfl, k1⟩; have X := Lib.hid (And.intro (hW.out.1.next k1) (And.intro (hW.out.2.1.next k1) (below_then hW.out.2.2 k1))); clear k1) | (with_reducible show wpList _ _ _ (⟨some 18, Op.load 24 (.tmp 5), 24, _, _, _⟩ :: _) _ _; refine wpList_load_by rfl rfl (Box.load (X.out.1) hC) rfl ?_; simp only [Act.put, List.setIfInBounds_toArray, List.set_cons_zero, List.set_cons_succ]) | (with_reducible show wpList _ _ _ (⟨some 20, Op.load 28 (.tmp 7), 28, _, _, _⟩ :: _) _ _; refine wpList_load_by rfl rfl (MBox.load (X.out.2.1) hV) rfl ?_; simp only [Act.put, List.setIfInBounds_toArray, List.set_cons_zero, List.set_cons_succ]) | (go_at_call 9; (with_reducible refine (c1.out _ X.out.2.2).mono ?_); rintro y w2 ⟨rfl, k2⟩; have X2 := Lib.hid (And.intro (X.out.1.next k2) (And.intro (X.out.2.1.next k2) (below_then X.out.2.2 k2))); clear k2) | fail)
    go_ret
    exact ⟨rfl, (X2.out.2.2.alloc X2.out.2.2.size _).alloc (Nat.le_trans X2.out.2.2.size (by simp)) _⟩
set_option maxRecDepth 100000 in
set_option maxHeartbeats 2000000 in
theorem causes_1_access (C V : Array Value) (m t : Int) (W : World) (hC : C.size = 16) (hV : V.size = 3)
    (c1 : RowKit.Hid (∀ W', Below W.heap.size W W' → Calls Try.prog 9 #[.agg C, .int .i64 m, .agg V, .int .u64 t, .int .i64 1] W' fun y W'' => y = .returned (.tuple #[.int .u64 0, .int .i64 5]) ∧ Below W'.heap.size W' W''))  :
    Calls Try.prog 6 #[.agg C, .int .i64 m, .agg V, .int .u64 t, .int .i64 1] W fun e W' => e = .returned (.bool true) ∧ Below W.heap.size W W' := by
  have hW := Lib.hid (boxes W C V)
  rcases Bool.eq_false_or_eq_true (m == 3) with hm | hm
  all_goals
    go_enter Try.func6, Try.ntmps6
    go_wp2_with (first | (go_at_call 7; (with_reducible refine (awake_any _).mono ?_); rintro e w1 ⟨rfl, k1⟩; have X := Lib.hid (And.intro (hW.out.1.next k1) (And.intro (hW.out.2.1.next k1) (below_then hW.out.2.2 k1))); clear k1) | (with_reducible show wpList _ _ _ (⟨some 18, Op.load 24 (.tmp 5), 24, _, _, _⟩ :: _) _ _; refine wpList_load_by rfl rfl (Box.load (X.out.1) hC) rfl ?_; simp only [Act.put, List.setIfInBounds_toArray, List.set_cons_zero, List.set_cons_succ]) | (with_reducible show wpList _ _ _ (⟨some 20, Op.load 28 (.tmp 7), 28, _, _, _⟩ :: _) _ _; refine wpList_load_by rfl rfl (MBox.load (X.out.2.1) hV) rfl ?_; simp only [Act.put, List.setIfInBounds_toArray, List.set_cons_zero, List.set_cons_succ]) | (go_at_call 9; (with_reducible refine (c1.out _ X.out.2.2).mono ?_); rintro y w2 ⟨rfl, k2⟩; have X2 := Lib.hid (And.intro (X.out.1.next k2) (And.intro (X.out.2.1.next k2) (below_then X.out.2.2 k2))); clear k2) | fail)
    go_ret
    exact ⟨rfl, (X2.out.2.2.alloc X2.out.2.2.size _).alloc (Nat.le_trans X2.out.2.2.size (by simp)) _⟩
set_option maxRecDepth 100000 in
set_option maxHeartbeats 2000000 in
theorem causes_1_found (C V : Array Value) (m t a : Int) (W : World) (hC : C.size = 16) (hV : V.size = 3)
    (c1 : RowKit.Hid (∀ W', Below W.heap.size W W' → Calls Try.prog 9 #[.agg C, .int .i64 m, .agg V, .int .u64 t, .int .i64 1] W' fun y W'' => y = .returned (.tuple #[.int .u64 a, .int .i64 (-1)]) ∧ Below W'.heap.size W' W''))  :
    Calls Try.prog 6 #[.agg C, .int .i64 m, .agg V, .int .u64 t, .int .i64 1] W fun e W' => e = .returned (.bool true) ∧ Below W.heap.size W W' := by
  have hW := Lib.hid (boxes W C V)
  rcases Bool.eq_false_or_eq_true (m == 3) with hm | hm
  all_goals
    go_enter Try.func6, Try.ntmps6
    go_wp2_with (first | (go_at_call 7; (with_reducible refine (awake_any _).mono ?_); rintro e w1 ⟨rfl, k1⟩; have X := Lib.hid (And.intro (hW.out.1.next k1) (And.intro (hW.out.2.1.next k1) (below_then hW.out.2.2 k1))); clear k1) | (with_reducible show wpList _ _ _ (⟨some 18, Op.load 24 (.tmp 5), 24, _, _, _⟩ :: _) _ _; refine wpList_load_by rfl rfl (Box.load (X.out.1) hC) rfl ?_; simp only [Act.put, List.setIfInBounds_toArray, List.set_cons_zero, List.set_cons_succ]) | (with_reducible show wpList _ _ _ (⟨some 20, Op.load 28 (.tmp 7), 28, _, _, _⟩ :: _) _ _; refine wpList_load_by rfl rfl (MBox.load (X.out.2.1) hV) rfl ?_; simp only [Act.put, List.setIfInBounds_toArray, List.set_cons_zero, List.set_cons_succ]) | (go_at_call 9; (with_reducible refine (c1.out _ X.out.2.2).mono ?_); rintro y w2 ⟨rfl, k2⟩; have X2 := Lib.hid (And.intro (X.out.1.next k2) (And.intro (X.out.2.1.next k2) (below_then X.out.2.2 k2))); clear k2) | fail)
    go_ret
    exact ⟨rfl, (X2.out.2.2.alloc X2.out.2.2.size _).alloc (Nat.le_trans X2.out.2.2.size (by simp)) _⟩
set_option maxRecDepth 100000 in
set_option maxHeartbeats 2000000 in
theorem causes_2_page (C V : Array Value) (m t : Int) (W : World) (hC : C.size = 16) (hV : V.size = 3)
    (c1 : RowKit.Hid (∀ W', Below W.heap.size W W' → Calls Try.prog 9 #[.agg C, .int .i64 m, .agg V, .int .u64 t, .int .i64 2] W' fun y W'' => y = .returned (.tuple #[.int .u64 0, .int .i64 15]) ∧ Below W'.heap.size W' W''))  :
    Calls Try.prog 6 #[.agg C, .int .i64 m, .agg V, .int .u64 t, .int .i64 2] W fun e W' => e = .returned (.bool true) ∧ Below W.heap.size W W' := by
  have hW := Lib.hid (boxes W C V)
  rcases Bool.eq_false_or_eq_true (m == 3) with hm | hm
  all_goals
    go_enter Try.func6, Try.ntmps6
    go_wp2_with (first | (go_at_call 7; (with_reducible refine (awake_any _).mono ?_); rintro e w1 ⟨rfl, k1⟩; have X := Lib.hid (And.intro (hW.out.1.next k1) (And.intro (hW.out.2.1.next k1) (below_then hW.out.2.2 k1))); clear k1) | (with_reducible show wpList _ _ _ (⟨some 18, Op.load 24 (.tmp 5), 24, _, _, _⟩ :: _) _ _; refine wpList_load_by rfl rfl (Box.load (X.out.1) hC) rfl ?_; simp only [Act.put, List.setIfInBounds_toArray, List.set_cons_zero, List.set_cons_succ]) | (with_reducible show wpList _ _ _ (⟨some 20, Op.load 28 (.tmp 7), 28, _, _, _⟩ :: _) _ _; refine wpList_load_by rfl rfl (MBox.load (X.out.2.1) hV) rfl ?_; simp only [Act.put, List.setIfInBounds_toArray, List.set_cons_zero, List.set_cons_succ]) | (go_at_call 9; (with_reducible refine (c1.out _ X.out.2.2).mono ?_); rintro y w2 ⟨rfl, k2⟩; have X2 := Lib.hid (And.intro (X.out.1.next k2) (And.intro (X.out.2.1.next k2) (below_then X.out.2.2 k2))); clear k2) | fail)
    go_ret
    exact ⟨rfl, (X2.out.2.2.alloc X2.out.2.2.size _).alloc (Nat.le_trans X2.out.2.2.size (by simp)) _⟩
set_option maxRecDepth 100000 in
set_option maxHeartbeats 2000000 in
theorem causes_2_access (C V : Array Value) (m t : Int) (W : World) (hC : C.size = 16) (hV : V.size = 3)
    (c1 : RowKit.Hid (∀ W', Below W.heap.size W W' → Calls Try.prog 9 #[.agg C, .int .i64 m, .agg V, .int .u64 t, .int .i64 2] W' fun y W'' => y = .returned (.tuple #[.int .u64 0, .int .i64 7]) ∧ Below W'.heap.size W' W''))  :
    Calls Try.prog 6 #[.agg C, .int .i64 m, .agg V, .int .u64 t, .int .i64 2] W fun e W' => e = .returned (.bool true) ∧ Below W.heap.size W W' := by
  have hW := Lib.hid (boxes W C V)
  rcases Bool.eq_false_or_eq_true (m == 3) with hm | hm
  all_goals
    go_enter Try.func6, Try.ntmps6
    go_wp2_with (first | (go_at_call 7; (with_reducible refine (awake_any _).mono ?_); rintro e w1 ⟨rfl, k1⟩; have X := Lib.hid (And.intro (hW.out.1.next k1) (And.intro (hW.out.2.1.next k1) (below_then hW.out.2.2 k1))); clear k1) | (with_reducible show wpList _ _ _ (⟨some 18, Op.load 24 (.tmp 5), 24, _, _, _⟩ :: _) _ _; refine wpList_load_by rfl rfl (Box.load (X.out.1) hC) rfl ?_; simp only [Act.put, List.setIfInBounds_toArray, List.set_cons_zero, List.set_cons_succ]) | (with_reducible show wpList _ _ _ (⟨some 20, Op.load 28 (.tmp 7), 28, _, _, _⟩ :: _) _ _; refine wpList_load_by rfl rfl (MBox.load (X.out.2.1) hV) rfl ?_; simp only [Act.put, List.setIfInBounds_toArray, List.set_cons_zero, List.set_cons_succ]) | (go_at_call 9; (with_reducible refine (c1.out _ X.out.2.2).mono ?_); rintro y w2 ⟨rfl, k2⟩; have X2 := Lib.hid (And.intro (X.out.1.next k2) (And.intro (X.out.2.1.next k2) (below_then X.out.2.2 k2))); clear k2) | fail)
    go_ret
    exact ⟨rfl, (X2.out.2.2.alloc X2.out.2.2.size _).alloc (Nat.le_trans X2.out.2.2.size (by simp)) _⟩
set_option maxRecDepth 100000 in
set_option maxHeartbeats 2000000 in
theorem causes_2_found (C V : Array Value) (m t a : Int) (W : World) (hC : C.size = 16) (hV : V.size = 3)
    (c1 : RowKit.Hid (∀ W', Below W.heap.size W W' → Calls Try.prog 9 #[.agg C, .int .i64 m, .agg V, .int .u64 t, .int .i64 2] W' fun y W'' => y = .returned (.tuple #[.int .u64 a, .int .i64 (-1)]) ∧ Below W'.heap.size W' W''))  :
    Calls Try.prog 6 #[.agg C, .int .i64 m, .agg V, .int .u64 t, .int .i64 2] W fun e W' => e = .returned (.bool true) ∧ Below W.heap.size W W' := by
  have hW := Lib.hid (boxes W C V)
  rcases Bool.eq_false_or_eq_true (m == 3) with hm | hm
  all_goals
    go_enter Try.func6, Try.ntmps6
    go_wp2_with (first | (go_at_call 7; (with_reducible refine (awake_any _).mono ?_); rintro e w1 ⟨rfl, k1⟩; have X := Lib.hid (And.intro (hW.out.1.next k1) (And.intro (hW.out.2.1.next k1) (below_then hW.out.2.2 k1))); clear k1) | (with_reducible show wpList _ _ _ (⟨some 18, Op.load 24 (.tmp 5), 24, _, _, _⟩ :: _) _ _; refine wpList_load_by rfl rfl (Box.load (X.out.1) hC) rfl ?_; simp only [Act.put, List.setIfInBounds_toArray, List.set_cons_zero, List.set_cons_succ]) | (with_reducible show wpList _ _ _ (⟨some 20, Op.load 28 (.tmp 7), 28, _, _, _⟩ :: _) _ _; refine wpList_load_by rfl rfl (MBox.load (X.out.2.1) hV) rfl ?_; simp only [Act.put, List.setIfInBounds_toArray, List.set_cons_zero, List.set_cons_succ]) | (go_at_call 9; (with_reducible refine (c1.out _ X.out.2.2).mono ?_); rintro y w2 ⟨rfl, k2⟩; have X2 := Lib.hid (And.intro (X.out.1.next k2) (And.intro (X.out.2.1.next k2) (below_then X.out.2.2 k2))); clear k2) | fail)
    go_ret
    exact ⟨rfl, (X2.out.2.2.alloc X2.out.2.2.size _).alloc (Nat.le_trans X2.out.2.2.size (by simp)) _⟩
set_option maxRecDepth 100000 in
set_option maxHeartbeats 2000000 in
theorem causes_boss (C V : Array Value) (t : Int) (W : World) (hC : C.size = 16) (hV : V.size = 3)
    (c1 : RowKit.Hid (∀ W', Below W.heap.size W W' → Calls Try.prog 9 #[.agg C, .int .i64 3, .agg V, .int .u64 t, .int .i64 0] W' fun y W'' => y = .returned (.tuple #[.int .u64 t, .int .i64 (-1)]) ∧ Below W'.heap.size W' W'')) :
    Calls Try.prog 6 #[.agg C, .int .i64 3, .agg V, .int .u64 t, .int .i64 0] W fun e W' => e = .returned (.bool true) ∧ Below W.heap.size W W' := by
  have hW := Lib.hid (boxes W C V)
  have ee : (t != t) = false := by simp
  go_enter Try.func6, Try.ntmps6
  go_wp2_with (first | (go_at_call 7; (with_reducible refine (awake_any _).mono ?_); rintro e w1 ⟨rfl, k1⟩; have X := Lib.hid (And.intro (hW.out.1.next k1) (And.intro (hW.out.2.1.next k1) (below_then hW.out.2.2 k1))); clear k1) | (with_reducible show wpList _ _ _ (⟨some 18, Op.load 24 (.tmp 5), 24, _, _, _⟩ :: _) _ _; refine wpList_load_by rfl rfl (Box.load (X.out.1) hC) rfl ?_; simp only [Act.put, List.setIfInBounds_toArray, List.set_cons_zero, List.set_cons_succ]) | (with_reducible show wpList _ _ _ (⟨some 20, Op.load 28 (.tmp 7), 28, _, _, _⟩ :: _) _ _; refine wpList_load_by rfl rfl (MBox.load (X.out.2.1) hV) rfl ?_; simp only [Act.put, List.setIfInBounds_toArray, List.set_cons_zero, List.set_cons_succ]) | (go_at_call 9; (with_reducible refine (c1.out _ X.out.2.2).mono ?_); rintro y w2 ⟨rfl, k2⟩; have X2 := Lib.hid (And.intro (X.out.1.next k2) (And.intro (X.out.2.1.next k2) (below_then X.out.2.2 k2))); clear k2) | fail)
  go_ret
  exact ⟨rfl, (X2.out.2.2.alloc X2.out.2.2.size _).alloc (Nat.le_trans X2.out.2.2.size (by simp)) _⟩

end Go.Proofs.Ytmjlgoceokdabaa
