/- CsrOnce walked. -/
import Derived.Test.YthchakfffenoiaaKA
namespace Go.Proofs.Ythchakfffenoiaa
open Go.RowKit Go.Deep Go.Joins
set_option maxHeartbeats 1000000 in
theorem once_walk_not (c : Reg) (m n q : Int) (c9 : RowKit.Hid (∀ W, Calls Try.prog 9 #[regV c] W fun e W' => e = .returned (.bool false) ∧ Below W.heap.size W W')) (W : World) : Calls Try.prog 5 #[regV c, .int .i64 m, .int .i64 n, .int .u64 q] W fun e W' => e = .returned (.bool true) ∧ Below W.heap.size W W' := by
  go_enter Try.func5, Try.ntmps5
  have B0 := Box.new W c
  have b0 : Below W.heap.size W (W.alloc (boxO c)) := (Below.refl _ _).alloc (Nat.le_refl _) _
  go_wp2_with (first | (go_at_call 8; (with_reducible refine (awake_any _).mono ?_); rintro e w1 ⟨rfl, k1⟩) | (with_reducible show wpList _ _ _ (⟨some 17, Op.load 24 (.tmp 4), 24, _, _, none⟩ :: _) _ _; refine wpList_load_run rfl 24 (.tmp 4) rfl (.pointer (some ⟨W.heap.size, 0, none⟩)) (regV c) rfl (Box.load (B0.next k1)) ?_) | (go_at_call 9; (with_reducible refine (c9.out _).mono ?_); rintro e w2 ⟨rfl, k2⟩) | fail)
  go_ret
  exact ⟨rfl, below_then (below_then b0 (Nat.le_refl _) k1) (Nat.le_refl _) k2⟩
set_option maxHeartbeats 1000000 in
theorem once_walk_no (c d : Reg) (m n q x : Int) (p : Bool) (c9 : RowKit.Hid (∀ W, Calls Try.prog 9 #[regV c] W fun e W' => e = .returned (.bool true) ∧ Below W.heap.size W W')) (c11 : RowKit.Hid (Reads c m n 0 q x p)) (c13 : RowKit.Hid (Writes c m n x d false)) (W : World) : Calls Try.prog 5 #[regV c, .int .i64 m, .int .i64 n, .int .u64 q] W fun e W' => e = .returned (.bool true) ∧ Below W.heap.size W W' := by
  cases p
  · go_enter Try.func5, Try.ntmps5
    have B0 := Box.new W c
    have b0 : Below W.heap.size W (W.alloc (boxO c)) := (Below.refl _ _).alloc (Nat.le_refl _) _
    go_wp2_with (first | (go_at_call 8; (with_reducible refine (awake_any _).mono ?_); rintro e w1 ⟨rfl, k1⟩) | (with_reducible show wpList _ _ _ (⟨some 17, Op.load 24 (.tmp 4), 24, _, _, none⟩ :: _) _ _; refine wpList_load_run rfl 24 (.tmp 4) rfl (.pointer (some ⟨W.heap.size, 0, none⟩)) (regV c) rfl (Box.load (B0.next k1)) ?_) | (go_at_call 9; (with_reducible refine (c9.out _).mono ?_); rintro e w2 ⟨rfl, k2⟩) | (with_reducible show wpList _ _ _ (⟨some 21, Op.load 24 (.tmp 4), 24, _, _, none⟩ :: _) _ _; refine wpList_load_run rfl 24 (.tmp 4) rfl (.pointer (some ⟨W.heap.size, 0, none⟩)) (regV c) rfl (Box.load (((B0.next k1).next k2))) ?_) | (go_at_call 11; (with_reducible refine (c11.out _).mono ?_); rintro e w3 ⟨rfl, k3⟩) | (with_reducible show wpList _ _ _ (⟨some 29, Op.load 24 (.tmp 4), 24, _, _, none⟩ :: _) _ _; refine wpList_load_run rfl 24 (.tmp 4) rfl (.pointer (some ⟨W.heap.size, 0, none⟩)) (regV c) rfl (Box.load (((B0.next k1).next k2).next k3)) ?_) | (go_at_call 13; (with_reducible refine (c13.out _).mono ?_); rintro e w4 ⟨rfl, k4⟩) | (with_reducible show wpList _ _ _ (⟨none, Op.store 24 (.tmp 11) (.tmp 34), _, _, _, none⟩ :: _) _ _; refine wpList_store_run rfl 24 (.tmp 11) (.tmp 34) rfl (.pointer (some ⟨w4.heap.size, 0, none⟩)) (regV d) rfl rfl (store_new w4 d) ?_) | fail)
    go_ret
    have b2 := below_then (below_then (below_then (below_then b0 (Nat.le_refl _) k1) (Nat.le_refl _) k2) (Nat.le_refl _) k3) (Nat.le_refl _) k4
    exact ⟨rfl, b2.alloc b2.size _⟩
  · go_enter Try.func5, Try.ntmps5
    have B0 := Box.new W c
    have b0 : Below W.heap.size W (W.alloc (boxO c)) := (Below.refl _ _).alloc (Nat.le_refl _) _
    go_wp2_with (first | (go_at_call 8; (with_reducible refine (awake_any _).mono ?_); rintro e w1 ⟨rfl, k1⟩) | (with_reducible show wpList _ _ _ (⟨some 17, Op.load 24 (.tmp 4), 24, _, _, none⟩ :: _) _ _; refine wpList_load_run rfl 24 (.tmp 4) rfl (.pointer (some ⟨W.heap.size, 0, none⟩)) (regV c) rfl (Box.load (B0.next k1)) ?_) | (go_at_call 9; (with_reducible refine (c9.out _).mono ?_); rintro e w2 ⟨rfl, k2⟩) | (with_reducible show wpList _ _ _ (⟨some 21, Op.load 24 (.tmp 4), 24, _, _, none⟩ :: _) _ _; refine wpList_load_run rfl 24 (.tmp 4) rfl (.pointer (some ⟨W.heap.size, 0, none⟩)) (regV c) rfl (Box.load (((B0.next k1).next k2))) ?_) | (go_at_call 11; (with_reducible refine (c11.out _).mono ?_); rintro e w3 ⟨rfl, k3⟩) | (with_reducible show wpList _ _ _ (⟨some 29, Op.load 24 (.tmp 4), 24, _, _, none⟩ :: _) _ _; refine wpList_load_run rfl 24 (.tmp 4) rfl (.pointer (some ⟨W.heap.size, 0, none⟩)) (regV c) rfl (Box.load (((B0.next k1).next k2).next k3)) ?_) | (go_at_call 13; (with_reducible refine (c13.out _).mono ?_); rintro e w4 ⟨rfl, k4⟩) | (with_reducible show wpList _ _ _ (⟨none, Op.store 24 (.tmp 11) (.tmp 34), _, _, _, none⟩ :: _) _ _; refine wpList_store_run rfl 24 (.tmp 11) (.tmp 34) rfl (.pointer (some ⟨w4.heap.size, 0, none⟩)) (regV d) rfl rfl (store_new w4 d) ?_) | fail)
    go_ret
    have b2 := below_then (below_then (below_then (below_then b0 (Nat.le_refl _) k1) (Nat.le_refl _) k2) (Nat.le_refl _) k3) (Nat.le_refl _) k4
    exact ⟨rfl, b2.alloc b2.size _⟩
set_option maxHeartbeats 1000000 in
theorem once_walk_yes (c d : Reg) (m n q x : Int) (c9 : RowKit.Hid (∀ W, Calls Try.prog 9 #[regV c] W fun e W' => e = .returned (.bool true) ∧ Below W.heap.size W W')) (c11 : RowKit.Hid (Reads c m n 0 q x true)) (c13 : RowKit.Hid (Writes c m n x d true)) (d11 : RowKit.Hid (Reads d m n 0 q x true)) (W : World) : Calls Try.prog 5 #[regV c, .int .i64 m, .int .i64 n, .int .u64 q] W fun e W' => e = .returned (.bool true) ∧ Below W.heap.size W W' := by
  go_enter Try.func5, Try.ntmps5
  have B0 := Box.new W c
  have b0 : Below W.heap.size W (W.alloc (boxO c)) := (Below.refl _ _).alloc (Nat.le_refl _) _
  go_wp2_with (first | (go_at_call 8; (with_reducible refine (awake_any _).mono ?_); rintro e w1 ⟨rfl, k1⟩) | (with_reducible show wpList _ _ _ (⟨some 17, Op.load 24 (.tmp 4), 24, _, _, none⟩ :: _) _ _; refine wpList_load_run rfl 24 (.tmp 4) rfl (.pointer (some ⟨W.heap.size, 0, none⟩)) (regV c) rfl (Box.load (B0.next k1)) ?_) | (go_at_call 9; (with_reducible refine (c9.out _).mono ?_); rintro e w2 ⟨rfl, k2⟩) | (with_reducible show wpList _ _ _ (⟨some 21, Op.load 24 (.tmp 4), 24, _, _, none⟩ :: _) _ _; refine wpList_load_run rfl 24 (.tmp 4) rfl (.pointer (some ⟨W.heap.size, 0, none⟩)) (regV c) rfl (Box.load (((B0.next k1).next k2))) ?_) | (go_at_call 11; (with_reducible refine (c11.out _).mono ?_); rintro e w3 ⟨rfl, k3⟩) | (with_reducible show wpList _ _ _ (⟨some 29, Op.load 24 (.tmp 4), 24, _, _, none⟩ :: _) _ _; refine wpList_load_run rfl 24 (.tmp 4) rfl (.pointer (some ⟨W.heap.size, 0, none⟩)) (regV c) rfl (Box.load (((B0.next k1).next k2).next k3)) ?_) | (go_at_call 13; (with_reducible refine (c13.out _).mono ?_); rintro e w4 ⟨rfl, k4⟩) | (with_reducible show wpList _ _ _ (⟨none, Op.store 24 (.tmp 11) (.tmp 34), _, _, _, none⟩ :: _) _ _; refine wpList_store_run rfl 24 (.tmp 11) (.tmp 34) rfl (.pointer (some ⟨w4.heap.size, 0, none⟩)) (regV d) rfl rfl (store_new w4 d) ?_) | (with_reducible show wpList _ _ _ (⟨some 48, Op.load 24 (.tmp 11), 24, _, _, none⟩ :: _) _ _; refine wpList_load_run rfl 24 (.tmp 11) rfl (.pointer (some ⟨w4.heap.size, 0, none⟩)) (regV d) rfl (Box.load (Box.new w4 d)) ?_) | (go_at_call 11; (with_reducible refine (d11.out _).mono ?_); rintro e w5 ⟨rfl, k5⟩) | fail)
  go_ret
  have b2 := below_then (below_then (below_then (below_then b0 (Nat.le_refl _) k1) (Nat.le_refl _) k2) (Nat.le_refl _) k3) (Nat.le_refl _) k4
  exact ⟨rfl, below_then (b2.alloc b2.size _) (Nat.le_refl _) k5⟩

end Go.Proofs.Ythchakfffenoiaa
