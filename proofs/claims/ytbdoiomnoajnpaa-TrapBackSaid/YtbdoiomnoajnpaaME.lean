/- TrapOn walked. -/
import Derived.Test.YtbdoiomnoajnpaaMD
namespace Go.Proofs.Ytbdoiomnoajnpaa
open Go.RowKit Go.Deep Go.Joins
set_option maxHeartbeats 1000000 in
theorem on_none (h : Hart) (l : Int) (c8 : RowKit.Hid (∀ W, Calls Try.prog 8 #[hartV h, .int .u64 l] W fun e W' => e = .returned (.int .i64 (-1)) ∧ Below W.heap.size W W')) (ho : ((bits .and .u64 (bits .and .u64 (bits .or .u64 h.c.s4 l) h.c.s3) 2730) == 0) = true) (W : World) : Calls Try.prog 6 #[hartV h, .int .u64 l] W fun e W' => e = .returned (.bool true) ∧ Below W.heap.size W W' := by
  go_enter Try.func6, Try.ntmps6
  go_wp2_with (first | (go_at_call 7; (with_reducible refine (awake_any _).mono ?_); rintro e w1 ⟨rfl, k1⟩) | (with_reducible show wpList _ _ _ (⟨some 9, Op.load 27 (.tmp 2), 27, _, _, none⟩ :: _) _ _; refine wpList_load_by rfl rfl (Box.load ((Box.new W h).next k1)) rfl ?_) | (go_at_call 8; (with_reducible refine (c8.out _).mono ?_); rintro e w2 ⟨rfl, k2⟩; have f_w2_0_6 : w2.cell? ⟨W.heap.size, 38, none⟩ = some (.int .u64 h.c.s4) := (((Box.new W h).next k1).next k2).cell 6; have f_w2_1_5 : w2.cell? ⟨W.heap.size, 37, none⟩ = some (.int .u64 h.c.s3) := (((Box.new W h).next k1).next k2).cell 5; have f_w2_2_1 : w2.cell? ⟨W.heap.size, 33, none⟩ = some (.int .i64 h.mode) := (((Box.new W h).next k1).next k2).cell 1) | fail)
  go_ret
  exact ⟨rfl, below_then (below_then ((Below.refl _ _).alloc (Nat.le_refl _) (hartO h)) (Nat.le_refl _) k1) (Nat.le_refl _) k2⟩
set_option maxHeartbeats 1000000 in
theorem on_mode (h : Hart) (l : Int) (c8 : RowKit.Hid (∀ W, Calls Try.prog 8 #[hartV h, .int .u64 l] W fun e W' => e = .returned (.int .i64 (-1)) ∧ Below W.heap.size W W')) (ho : ((bits .and .u64 (bits .and .u64 (bits .or .u64 h.c.s4 l) h.c.s3) 2730) == 0) = false) (hm : (h.mode != 0) = true) (W : World) : Calls Try.prog 6 #[hartV h, .int .u64 l] W fun e W' => e = .returned (.bool true) ∧ Below W.heap.size W W' := by
  go_enter Try.func6, Try.ntmps6
  go_wp2_with (first | (go_at_call 7; (with_reducible refine (awake_any _).mono ?_); rintro e w1 ⟨rfl, k1⟩) | (with_reducible show wpList _ _ _ (⟨some 9, Op.load 27 (.tmp 2), 27, _, _, none⟩ :: _) _ _; refine wpList_load_by rfl rfl (Box.load ((Box.new W h).next k1)) rfl ?_) | (go_at_call 8; (with_reducible refine (c8.out _).mono ?_); rintro e w2 ⟨rfl, k2⟩; have f_w2_0_6 : w2.cell? ⟨W.heap.size, 38, none⟩ = some (.int .u64 h.c.s4) := (((Box.new W h).next k1).next k2).cell 6; have f_w2_1_5 : w2.cell? ⟨W.heap.size, 37, none⟩ = some (.int .u64 h.c.s3) := (((Box.new W h).next k1).next k2).cell 5; have f_w2_2_1 : w2.cell? ⟨W.heap.size, 33, none⟩ = some (.int .i64 h.mode) := (((Box.new W h).next k1).next k2).cell 1) | fail)
  go_ret
  exact ⟨rfl, below_then (below_then ((Below.refl _ _).alloc (Nat.le_refl _) (hartO h)) (Nat.le_refl _) k1) (Nat.le_refl _) k2⟩
set_option maxHeartbeats 1000000 in
theorem on_some (h : Hart) (l : Int) (q : Nat) (hq : q < 64) (c8 : RowKit.Hid (∀ W, Calls Try.prog 8 #[hartV h, .int .u64 l] W fun e W' => e = .returned (.int .i64 q) ∧ Below W.heap.size W W')) (ho : (bits .and .u64 ((bits .and .u64 (bits .and .u64 (bits .or .u64 h.c.s4 l) h.c.s3) 2730) / 2 ^ q) 1 == 1) = true) (W : World) : Calls Try.prog 6 #[hartV h, .int .u64 l] W fun e W' => e = .returned (.bool true) ∧ Below W.heap.size W W' := by
  have hw : IntKind.u64.wrap (q : Int) = q := by rw [IntKind.wrap_u64]; omega
  go_enter Try.func6, Try.ntmps6
  go_wp2_with (first | (go_at_call 7; (with_reducible refine (awake_any _).mono ?_); rintro e w1 ⟨rfl, k1⟩) | (with_reducible show wpList _ _ _ (⟨some 9, Op.load 27 (.tmp 2), 27, _, _, none⟩ :: _) _ _; refine wpList_load_by rfl rfl (Box.load ((Box.new W h).next k1)) rfl ?_) | (go_at_call 8; (with_reducible refine (c8.out _).mono ?_); rintro e w2 ⟨rfl, k2⟩; have f_w2_0_6 : w2.cell? ⟨W.heap.size, 38, none⟩ = some (.int .u64 h.c.s4) := (((Box.new W h).next k1).next k2).cell 6; have f_w2_1_5 : w2.cell? ⟨W.heap.size, 37, none⟩ = some (.int .u64 h.c.s3) := (((Box.new W h).next k1).next k2).cell 5; have f_w2_2_1 : w2.cell? ⟨W.heap.size, 33, none⟩ = some (.int .i64 h.mode) := (((Box.new W h).next k1).next k2).cell 1) | fail)
  go_ret
  exact ⟨rfl, below_then (below_then ((Below.refl _ _).alloc (Nat.le_refl _) (hartO h)) (Nat.le_refl _) k1) (Nat.le_refl _) k2⟩

end Go.Proofs.Ytbdoiomnoajnpaa
