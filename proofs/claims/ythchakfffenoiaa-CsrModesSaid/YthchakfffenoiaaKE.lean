/- CsrModes walked. -/
import Derived.Test.YthchakfffenoiaaKA
namespace Go.Proofs.Ythchakfffenoiaa
open Go.RowKit Go.Deep Go.Joins
set_option maxHeartbeats 1000000 in
theorem modes_walk_fff (c : Reg) (n l q : Int) (r0 : RowKit.Hid (Reads c 0 n l q 0 false)) (r1 : RowKit.Hid (Reads c 1 n l q 0 false)) (r3 : RowKit.Hid (Reads c 3 n l q 0 false)) (W : World) : Calls Try.prog 7 #[regV c, .int .i64 n, .int .u64 l, .int .u64 q] W fun e W' => e = .returned (.bool true) ∧ Below W.heap.size W W' := by
  go_enter Try.func7, Try.ntmps7
  have B0 := Box.new W c
  have b0 : Below W.heap.size W (W.alloc (boxO c)) := (Below.refl _ _).alloc (Nat.le_refl _) _
  go_wp2_with (first | (go_at_call 8; (with_reducible refine (awake_any _).mono ?_); rintro e w1 ⟨rfl, k1⟩) | (with_reducible show wpList _ _ _ (⟨some 18, Op.load 24 (.tmp 4), 24, _, _, none⟩ :: _) _ _; refine wpList_load_run rfl 24 (.tmp 4) rfl (.pointer (some ⟨W.heap.size, 0, none⟩)) (regV c) rfl (Box.load (B0.next k1)) ?_) | (go_at_call 11; (with_reducible refine (r0.out _).mono ?_); rintro e w2 ⟨rfl, k2⟩) | (with_reducible show wpList _ _ _ (⟨some 26, Op.load 24 (.tmp 4), 24, _, _, none⟩ :: _) _ _; refine wpList_load_run rfl 24 (.tmp 4) rfl (.pointer (some ⟨W.heap.size, 0, none⟩)) (regV c) rfl (Box.load (((B0.next k1).next k2))) ?_) | (go_at_call 11; (with_reducible refine (r1.out _).mono ?_); rintro e w3 ⟨rfl, k3⟩) | (with_reducible show wpList _ _ _ (⟨some 34, Op.load 24 (.tmp 4), 24, _, _, none⟩ :: _) _ _; refine wpList_load_run rfl 24 (.tmp 4) rfl (.pointer (some ⟨W.heap.size, 0, none⟩)) (regV c) rfl (Box.load (((B0.next k1).next k2).next k3)) ?_) | (go_at_call 11; (with_reducible refine (r3.out _).mono ?_); rintro e w4 ⟨rfl, k4⟩) | fail)
  go_ret
  exact ⟨rfl, below_then (below_then (below_then (below_then b0 (Nat.le_refl _) k1) (Nat.le_refl _) k2) (Nat.le_refl _) k3) (Nat.le_refl _) k4⟩
set_option maxHeartbeats 1000000 in
theorem modes_walk_fft (c : Reg) (n l q x : Int) (r0 : RowKit.Hid (Reads c 0 n l q 0 false)) (r1 : RowKit.Hid (Reads c 1 n l q 0 false)) (r3 : RowKit.Hid (Reads c 3 n l q x true)) (W : World) : Calls Try.prog 7 #[regV c, .int .i64 n, .int .u64 l, .int .u64 q] W fun e W' => e = .returned (.bool true) ∧ Below W.heap.size W W' := by
  go_enter Try.func7, Try.ntmps7
  have B0 := Box.new W c
  have b0 : Below W.heap.size W (W.alloc (boxO c)) := (Below.refl _ _).alloc (Nat.le_refl _) _
  go_wp2_with (first | (go_at_call 8; (with_reducible refine (awake_any _).mono ?_); rintro e w1 ⟨rfl, k1⟩) | (with_reducible show wpList _ _ _ (⟨some 18, Op.load 24 (.tmp 4), 24, _, _, none⟩ :: _) _ _; refine wpList_load_run rfl 24 (.tmp 4) rfl (.pointer (some ⟨W.heap.size, 0, none⟩)) (regV c) rfl (Box.load (B0.next k1)) ?_) | (go_at_call 11; (with_reducible refine (r0.out _).mono ?_); rintro e w2 ⟨rfl, k2⟩) | (with_reducible show wpList _ _ _ (⟨some 26, Op.load 24 (.tmp 4), 24, _, _, none⟩ :: _) _ _; refine wpList_load_run rfl 24 (.tmp 4) rfl (.pointer (some ⟨W.heap.size, 0, none⟩)) (regV c) rfl (Box.load (((B0.next k1).next k2))) ?_) | (go_at_call 11; (with_reducible refine (r1.out _).mono ?_); rintro e w3 ⟨rfl, k3⟩) | (with_reducible show wpList _ _ _ (⟨some 34, Op.load 24 (.tmp 4), 24, _, _, none⟩ :: _) _ _; refine wpList_load_run rfl 24 (.tmp 4) rfl (.pointer (some ⟨W.heap.size, 0, none⟩)) (regV c) rfl (Box.load (((B0.next k1).next k2).next k3)) ?_) | (go_at_call 11; (with_reducible refine (r3.out _).mono ?_); rintro e w4 ⟨rfl, k4⟩) | fail)
  go_ret
  exact ⟨rfl, below_then (below_then (below_then (below_then b0 (Nat.le_refl _) k1) (Nat.le_refl _) k2) (Nat.le_refl _) k3) (Nat.le_refl _) k4⟩
set_option maxHeartbeats 1000000 in
theorem modes_walk_ftt (c : Reg) (n l q x : Int) (r0 : RowKit.Hid (Reads c 0 n l q 0 false)) (r1 : RowKit.Hid (Reads c 1 n l q x true)) (r3 : RowKit.Hid (Reads c 3 n l q x true)) (W : World) : Calls Try.prog 7 #[regV c, .int .i64 n, .int .u64 l, .int .u64 q] W fun e W' => e = .returned (.bool true) ∧ Below W.heap.size W W' := by
  go_enter Try.func7, Try.ntmps7
  have B0 := Box.new W c
  have b0 : Below W.heap.size W (W.alloc (boxO c)) := (Below.refl _ _).alloc (Nat.le_refl _) _
  go_wp2_with (first | (go_at_call 8; (with_reducible refine (awake_any _).mono ?_); rintro e w1 ⟨rfl, k1⟩) | (with_reducible show wpList _ _ _ (⟨some 18, Op.load 24 (.tmp 4), 24, _, _, none⟩ :: _) _ _; refine wpList_load_run rfl 24 (.tmp 4) rfl (.pointer (some ⟨W.heap.size, 0, none⟩)) (regV c) rfl (Box.load (B0.next k1)) ?_) | (go_at_call 11; (with_reducible refine (r0.out _).mono ?_); rintro e w2 ⟨rfl, k2⟩) | (with_reducible show wpList _ _ _ (⟨some 26, Op.load 24 (.tmp 4), 24, _, _, none⟩ :: _) _ _; refine wpList_load_run rfl 24 (.tmp 4) rfl (.pointer (some ⟨W.heap.size, 0, none⟩)) (regV c) rfl (Box.load (((B0.next k1).next k2))) ?_) | (go_at_call 11; (with_reducible refine (r1.out _).mono ?_); rintro e w3 ⟨rfl, k3⟩) | (with_reducible show wpList _ _ _ (⟨some 34, Op.load 24 (.tmp 4), 24, _, _, none⟩ :: _) _ _; refine wpList_load_run rfl 24 (.tmp 4) rfl (.pointer (some ⟨W.heap.size, 0, none⟩)) (regV c) rfl (Box.load (((B0.next k1).next k2).next k3)) ?_) | (go_at_call 11; (with_reducible refine (r3.out _).mono ?_); rintro e w4 ⟨rfl, k4⟩) | fail)
  go_ret
  exact ⟨rfl, below_then (below_then (below_then (below_then b0 (Nat.le_refl _) k1) (Nat.le_refl _) k2) (Nat.le_refl _) k3) (Nat.le_refl _) k4⟩
set_option maxHeartbeats 1000000 in
theorem modes_walk_ttt (c : Reg) (n l q x : Int) (r0 : RowKit.Hid (Reads c 0 n l q x true)) (r1 : RowKit.Hid (Reads c 1 n l q x true)) (r3 : RowKit.Hid (Reads c 3 n l q x true)) (W : World) : Calls Try.prog 7 #[regV c, .int .i64 n, .int .u64 l, .int .u64 q] W fun e W' => e = .returned (.bool true) ∧ Below W.heap.size W W' := by
  go_enter Try.func7, Try.ntmps7
  have B0 := Box.new W c
  have b0 : Below W.heap.size W (W.alloc (boxO c)) := (Below.refl _ _).alloc (Nat.le_refl _) _
  go_wp2_with (first | (go_at_call 8; (with_reducible refine (awake_any _).mono ?_); rintro e w1 ⟨rfl, k1⟩) | (with_reducible show wpList _ _ _ (⟨some 18, Op.load 24 (.tmp 4), 24, _, _, none⟩ :: _) _ _; refine wpList_load_run rfl 24 (.tmp 4) rfl (.pointer (some ⟨W.heap.size, 0, none⟩)) (regV c) rfl (Box.load (B0.next k1)) ?_) | (go_at_call 11; (with_reducible refine (r0.out _).mono ?_); rintro e w2 ⟨rfl, k2⟩) | (with_reducible show wpList _ _ _ (⟨some 26, Op.load 24 (.tmp 4), 24, _, _, none⟩ :: _) _ _; refine wpList_load_run rfl 24 (.tmp 4) rfl (.pointer (some ⟨W.heap.size, 0, none⟩)) (regV c) rfl (Box.load (((B0.next k1).next k2))) ?_) | (go_at_call 11; (with_reducible refine (r1.out _).mono ?_); rintro e w3 ⟨rfl, k3⟩) | (with_reducible show wpList _ _ _ (⟨some 34, Op.load 24 (.tmp 4), 24, _, _, none⟩ :: _) _ _; refine wpList_load_run rfl 24 (.tmp 4) rfl (.pointer (some ⟨W.heap.size, 0, none⟩)) (regV c) rfl (Box.load (((B0.next k1).next k2).next k3)) ?_) | (go_at_call 11; (with_reducible refine (r3.out _).mono ?_); rintro e w4 ⟨rfl, k4⟩) | fail)
  go_ret
  exact ⟨rfl, below_then (below_then (below_then (below_then b0 (Nat.le_refl _) k1) (Nat.le_refl _) k2) (Nat.le_refl _) k3) (Nat.le_refl _) k4⟩

end Go.Proofs.Ythchakfffenoiaa
