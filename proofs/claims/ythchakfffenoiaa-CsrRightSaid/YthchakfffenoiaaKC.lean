/- CsrRight walked. -/
import Derived.Test.YthchakfffenoiaaKA
namespace Go.Proofs.Ythchakfffenoiaa
open Go.RowKit Go.Deep Go.Joins
set_option maxHeartbeats 1000000 in
theorem right_walk_no (c : Reg) (m n v : Int) (c13 : RowKit.Hid (Writes c m n v c false)) (W : World) : Calls Try.prog 4 #[regV c, .int .i64 m, .int .i64 n, .int .u64 v] W fun e W' => e = .returned (.bool true) ∧ Below W.heap.size W W' := by
  go_enter Try.func4, Try.ntmps4
  have B0 := Box.new W c
  have b0 : Below W.heap.size W (W.alloc (boxO c)) := (Below.refl _ _).alloc (Nat.le_refl _) _
  go_wp2_with (first | (go_at_call 8; (with_reducible refine (awake_any _).mono ?_); rintro e w1 ⟨rfl, k1⟩) | (with_reducible show wpList _ _ _ (⟨some 14, Op.load 24 (.tmp 4), 24, _, _, none⟩ :: _) _ _; refine wpList_load_run rfl 24 (.tmp 4) rfl (.pointer (some ⟨W.heap.size, 0, none⟩)) (regV c) rfl (Box.load (B0.next k1)) ?_) | (go_at_call 13; (with_reducible refine (c13.out _).mono ?_); rintro e w2 ⟨rfl, k2⟩) | (with_reducible show wpList _ _ _ (⟨none, Op.store 24 (.tmp 9) (.tmp 19), _, _, _, none⟩ :: _) _ _; refine wpList_store_run rfl 24 (.tmp 9) (.tmp 19) rfl (.pointer (some ⟨w2.heap.size, 0, none⟩)) (regV c) rfl rfl (store_new w2 c) ?_) | (with_reducible show wpList _ _ _ (⟨some 23, Op.load 24 (.tmp 9), 24, _, _, none⟩ :: _) _ _; refine wpList_load_run rfl 24 (.tmp 9) rfl (.pointer (some ⟨w2.heap.size, 0, none⟩)) (regV c) rfl (Box.load (Box.new w2 c)) ?_) | (with_reducible show wpList _ _ _ (⟨some 24, Op.load 24 (.tmp 4), 24, _, _, none⟩ :: _) _ _; refine wpList_load_run rfl 24 (.tmp 4) rfl (.pointer (some ⟨W.heap.size, 0, none⟩)) (regV c) rfl (Box.load (((B0.next k1).next k2).alloc _)) ?_) | fail)
  go_ret
  have b2 := below_then (below_then b0 (Nat.le_refl _) k1) (Nat.le_refl _) k2
  exact ⟨rfl, b2.alloc b2.size _⟩
set_option maxHeartbeats 1000000 in
theorem right_walk_not (c d : Reg) (m n v : Int) (c13 : RowKit.Hid (Writes c m n v d true)) (c9 : RowKit.Hid (∀ W, Calls Try.prog 9 #[regV c] W fun e W' => e = .returned (.bool false) ∧ Below W.heap.size W W')) (W : World) : Calls Try.prog 4 #[regV c, .int .i64 m, .int .i64 n, .int .u64 v] W fun e W' => e = .returned (.bool true) ∧ Below W.heap.size W W' := by
  go_enter Try.func4, Try.ntmps4
  have B0 := Box.new W c
  have b0 : Below W.heap.size W (W.alloc (boxO c)) := (Below.refl _ _).alloc (Nat.le_refl _) _
  go_wp2_with (first | (go_at_call 8; (with_reducible refine (awake_any _).mono ?_); rintro e w1 ⟨rfl, k1⟩) | (with_reducible show wpList _ _ _ (⟨some 14, Op.load 24 (.tmp 4), 24, _, _, none⟩ :: _) _ _; refine wpList_load_run rfl 24 (.tmp 4) rfl (.pointer (some ⟨W.heap.size, 0, none⟩)) (regV c) rfl (Box.load (B0.next k1)) ?_) | (go_at_call 13; (with_reducible refine (c13.out _).mono ?_); rintro e w2 ⟨rfl, k2⟩) | (with_reducible show wpList _ _ _ (⟨none, Op.store 24 (.tmp 9) (.tmp 19), _, _, _, none⟩ :: _) _ _; refine wpList_store_run rfl 24 (.tmp 9) (.tmp 19) rfl (.pointer (some ⟨w2.heap.size, 0, none⟩)) (regV d) rfl rfl (store_new w2 d) ?_) | (with_reducible show wpList _ _ _ (⟨some 26, Op.load 24 (.tmp 4), 24, _, _, none⟩ :: _) _ _; refine wpList_load_run rfl 24 (.tmp 4) rfl (.pointer (some ⟨W.heap.size, 0, none⟩)) (regV c) rfl (Box.load (((B0.next k1).next k2).alloc _)) ?_) | (go_at_call 9; (with_reducible refine (c9.out _).mono ?_); rintro e w3 ⟨rfl, k3⟩) | fail)
  go_ret
  have b2 := below_then (below_then b0 (Nat.le_refl _) k1) (Nat.le_refl _) k2
  exact ⟨rfl, below_then (b2.alloc b2.size _) (Nat.le_refl _) k3⟩
set_option maxHeartbeats 1000000 in
theorem right_walk_yes (c d : Reg) (m n v : Int) (c13 : RowKit.Hid (Writes c m n v d true)) (c9 : RowKit.Hid (∀ W, Calls Try.prog 9 #[regV c] W fun e W' => e = .returned (.bool true) ∧ Below W.heap.size W W')) (d9 : RowKit.Hid (∀ W, Calls Try.prog 9 #[regV d] W fun e W' => e = .returned (.bool true) ∧ Below W.heap.size W W')) (W : World) : Calls Try.prog 4 #[regV c, .int .i64 m, .int .i64 n, .int .u64 v] W fun e W' => e = .returned (.bool true) ∧ Below W.heap.size W W' := by
  go_enter Try.func4, Try.ntmps4
  have B0 := Box.new W c
  have b0 : Below W.heap.size W (W.alloc (boxO c)) := (Below.refl _ _).alloc (Nat.le_refl _) _
  go_wp2_with (first | (go_at_call 8; (with_reducible refine (awake_any _).mono ?_); rintro e w1 ⟨rfl, k1⟩) | (with_reducible show wpList _ _ _ (⟨some 14, Op.load 24 (.tmp 4), 24, _, _, none⟩ :: _) _ _; refine wpList_load_run rfl 24 (.tmp 4) rfl (.pointer (some ⟨W.heap.size, 0, none⟩)) (regV c) rfl (Box.load (B0.next k1)) ?_) | (go_at_call 13; (with_reducible refine (c13.out _).mono ?_); rintro e w2 ⟨rfl, k2⟩) | (with_reducible show wpList _ _ _ (⟨none, Op.store 24 (.tmp 9) (.tmp 19), _, _, _, none⟩ :: _) _ _; refine wpList_store_run rfl 24 (.tmp 9) (.tmp 19) rfl (.pointer (some ⟨w2.heap.size, 0, none⟩)) (regV d) rfl rfl (store_new w2 d) ?_) | (with_reducible show wpList _ _ _ (⟨some 26, Op.load 24 (.tmp 4), 24, _, _, none⟩ :: _) _ _; refine wpList_load_run rfl 24 (.tmp 4) rfl (.pointer (some ⟨W.heap.size, 0, none⟩)) (regV c) rfl (Box.load (((B0.next k1).next k2).alloc _)) ?_) | (go_at_call 9; (with_reducible refine (c9.out _).mono ?_); rintro e w3 ⟨rfl, k3⟩) | (with_reducible show wpList _ _ _ (⟨some 30, Op.load 24 (.tmp 9), 24, _, _, some (3, false)⟩ :: _) _ _; refine wpList_load_want (by first | exact rfl | simp [Region.wanted, yielded]) 24 (.tmp 9) rfl (.pointer (some ⟨w2.heap.size, 0, none⟩)) (regV d) rfl (Box.load ((Box.new w2 d).next k3)) ?_) | (go_at_call 9; (with_reducible refine (d9.out _).mono ?_); rintro e w4 ⟨rfl, k4⟩) | fail)
  go_ret
  have b2 := below_then (below_then b0 (Nat.le_refl _) k1) (Nat.le_refl _) k2
  exact ⟨rfl, below_then (below_then (b2.alloc b2.size _) (Nat.le_refl _) k3) (Nat.le_refl _) k4⟩

end Go.Proofs.Ythchakfffenoiaa
