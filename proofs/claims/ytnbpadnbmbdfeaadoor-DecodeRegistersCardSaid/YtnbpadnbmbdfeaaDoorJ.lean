/- The reference: one of a row. -/
import Derived.Test.YtnbpadnbmbdfeaaDoorE
namespace Go.Proofs.YtnbpadnbmbdfeaaDoor
open Go.RowKit Go.Deep Go.Joins

set_option maxHeartbeats 400000 in
theorem pick_in (i g n : Nat) (v : Int) (w : World) (hi : i < n) (hn : n ≤ 8) (hc : w.cell? ⟨g, i, none⟩ = some (.int .i64 v)) :
    Calls Tryd.prog 14 #[.int .u32 i, .slice (some ⟨g, 0, none⟩) n n] w fun e w' => e = .returned (.int .i64 v) ∧ w = w' := by
  have hd : decide ((n : Int) ≤ (i : Int)) = false := decide_eq_false (by omega)
  go_enter Tryd.func14, Tryd.ntmps14
  go_wp2
  go_ret
  exact ⟨rfl, rfl⟩
set_option maxHeartbeats 400000 in
theorem pick_out (i g n : Nat) (w : World) (hi : n ≤ i) (h8 : i < 8) :
    Calls Tryd.prog 14 #[.int .u32 i, .slice (some ⟨g, 0, none⟩) n n] w fun e w' => e = .returned (.int .i64 0) ∧ w = w' := by
  go_enter Tryd.func14, Tryd.ntmps14
  go_wp2
  go_ret
  exact ⟨rfl, rfl⟩
theorem new_row (w : World) (L : List Int) (t : TypeId) (j : Nat) (v : Int) (h : L[j]? = some v) : (w.alloc (.cells (L.map fun x => Value.int .i64 x).toArray t)).cell? ⟨w.heap.size, j, none⟩ = some (.int .i64 v) := by
  rw [cell_of_row _ _ _ _ _ (0, 0) (heap_alloc_new w _)]
  simp [h]
def r4 (i : Nat) : Int := if i = 0 then 4 else 0
theorem pick_0 (i : Nat) (h8 : i < 8) (W : World) :
    Calls Tryd.prog 14 #[.int .u32 i, .slice (some ⟨W.heap.size, 0, none⟩) 8 8] (W.alloc (.cells #[.int .i64 5, .int .i64 6, .int .i64 0, .int .i64 0, .int .i64 7, .int .i64 8, .int .i64 9, .int .i64 10] 3)) fun e w' => e = .returned (.int .i64 (row 0 i)) ∧ W.alloc (.cells #[.int .i64 5, .int .i64 6, .int .i64 0, .int .i64 0, .int .i64 7, .int .i64 8, .int .i64 9, .int .i64 10] 3) = w' := by
  rcases Nat.lt_or_ge i 8 with h | h
  · exact pick_in i _ 8 _ _ h (by omega) (new_row W [5, 6, 0, 0, 7, 8, 9, 10] 3 i _ (by unfold row tab; exact (by decide : ∀ i < 8, [(5 : Int), (6 : Int), (0 : Int), (0 : Int), (7 : Int), (8 : Int), (9 : Int), (10 : Int)][i]? = some (List.getD [5, 6, 0, 0, 7, 8, 9, 10] i (0 : Int))) i h))
  · have e : row 0 i = 0 := by unfold row tab; exact (by decide : ∀ i < 8, 8 ≤ i → List.getD [5, 6, 0, 0, 7, 8, 9, 10] i (0 : Int) = 0) i h8 h
    rw [e]
    exact pick_out i _ 8 _ h h8
theorem pick_1 (i : Nat) (h8 : i < 8) (W : World) :
    Calls Tryd.prog 14 #[.int .u32 i, .slice (some ⟨W.heap.size, 0, none⟩) 7 7] (W.alloc (.cells #[.int .i64 11, .int .i64 12, .int .i64 13, .int .i64 14, .int .i64 15, .int .i64 16, .int .i64 17] 3)) fun e w' => e = .returned (.int .i64 (row 1 i)) ∧ W.alloc (.cells #[.int .i64 11, .int .i64 12, .int .i64 13, .int .i64 14, .int .i64 15, .int .i64 16, .int .i64 17] 3) = w' := by
  rcases Nat.lt_or_ge i 7 with h | h
  · exact pick_in i _ 7 _ _ h (by omega) (new_row W [11, 12, 13, 14, 15, 16, 17] 3 i _ (by unfold row tab; exact (by decide : ∀ i < 7, [(11 : Int), (12 : Int), (13 : Int), (14 : Int), (15 : Int), (16 : Int), (17 : Int)][i]? = some (List.getD [11, 12, 13, 14, 15, 16, 17, 0] i (0 : Int))) i h))
  · have e : row 1 i = 0 := by unfold row tab; exact (by decide : ∀ i < 8, 7 ≤ i → List.getD [11, 12, 13, 14, 15, 16, 17, 0] i (0 : Int) = 0) i h8 h
    rw [e]
    exact pick_out i _ 7 _ h h8
theorem pick_2 (i : Nat) (h8 : i < 8) (W : World) :
    Calls Tryd.prog 14 #[.int .u32 i, .slice (some ⟨W.heap.size, 0, none⟩) 4 4] (W.alloc (.cells #[.int .i64 18, .int .i64 19, .int .i64 20, .int .i64 21] 3)) fun e w' => e = .returned (.int .i64 (row 2 i)) ∧ W.alloc (.cells #[.int .i64 18, .int .i64 19, .int .i64 20, .int .i64 21] 3) = w' := by
  rcases Nat.lt_or_ge i 4 with h | h
  · exact pick_in i _ 4 _ _ h (by omega) (new_row W [18, 19, 20, 21] 3 i _ (by unfold row tab; exact (by decide : ∀ i < 4, [(18 : Int), (19 : Int), (20 : Int), (21 : Int)][i]? = some (List.getD [18, 19, 20, 21, 0, 0, 0, 0] i (0 : Int))) i h))
  · have e : row 2 i = 0 := by unfold row tab; exact (by decide : ∀ i < 8, 4 ≤ i → List.getD [18, 19, 20, 21, 0, 0, 0, 0] i (0 : Int) = 0) i h8 h
    rw [e]
    exact pick_out i _ 4 _ h h8
theorem pick_3 (i : Nat) (h8 : i < 8) (W : World) :
    Calls Tryd.prog 14 #[.int .u32 i, .slice (some ⟨W.heap.size, 0, none⟩) 2 2] (W.alloc (.cells #[.int .i64 50, .int .i64 51] 3)) fun e w' => e = .returned (.int .i64 (row 3 i)) ∧ W.alloc (.cells #[.int .i64 50, .int .i64 51] 3) = w' := by
  rcases Nat.lt_or_ge i 2 with h | h
  · exact pick_in i _ 2 _ _ h (by omega) (new_row W [50, 51] 3 i _ (by unfold row tab; exact (by decide : ∀ i < 2, [(50 : Int), (51 : Int)][i]? = some (List.getD [50, 51, 0, 0, 0, 0, 0, 0] i (0 : Int))) i h))
  · have e : row 3 i = 0 := by unfold row tab; exact (by decide : ∀ i < 8, 2 ≤ i → List.getD [50, 51, 0, 0, 0, 0, 0, 0] i (0 : Int) = 0) i h8 h
    rw [e]
    exact pick_out i _ 2 _ h h8
theorem pick_4 (i : Nat) (h8 : i < 8) (W : World) :
    Calls Tryd.prog 14 #[.int .u32 i, .slice (some ⟨W.heap.size, 0, none⟩) 8 8] (W.alloc (.cells #[.int .i64 22, .int .i64 0, .int .i64 23, .int .i64 24, .int .i64 25, .int .i64 0, .int .i64 26, .int .i64 27] 3)) fun e w' => e = .returned (.int .i64 (row 4 i)) ∧ W.alloc (.cells #[.int .i64 22, .int .i64 0, .int .i64 23, .int .i64 24, .int .i64 25, .int .i64 0, .int .i64 26, .int .i64 27] 3) = w' := by
  rcases Nat.lt_or_ge i 8 with h | h
  · exact pick_in i _ 8 _ _ h (by omega) (new_row W [22, 0, 23, 24, 25, 0, 26, 27] 3 i _ (by unfold row tab; exact (by decide : ∀ i < 8, [(22 : Int), (0 : Int), (23 : Int), (24 : Int), (25 : Int), (0 : Int), (26 : Int), (27 : Int)][i]? = some (List.getD [22, 0, 23, 24, 25, 0, 26, 27] i (0 : Int))) i h))
  · have e : row 4 i = 0 := by unfold row tab; exact (by decide : ∀ i < 8, 8 ≤ i → List.getD [22, 0, 23, 24, 25, 0, 26, 27] i (0 : Int) = 0) i h8 h
    rw [e]
    exact pick_out i _ 8 _ h h8
theorem pick_5 (i : Nat) (h8 : i < 8) (W : World) :
    Calls Tryd.prog 14 #[.int .u32 i, .slice (some ⟨W.heap.size, 0, none⟩) 8 8] (W.alloc (.cells #[.int .i64 31, .int .i64 33, .int .i64 34, .int .i64 35, .int .i64 36, .int .i64 37, .int .i64 39, .int .i64 40] 3)) fun e w' => e = .returned (.int .i64 (row 5 i)) ∧ W.alloc (.cells #[.int .i64 31, .int .i64 33, .int .i64 34, .int .i64 35, .int .i64 36, .int .i64 37, .int .i64 39, .int .i64 40] 3) = w' := by
  rcases Nat.lt_or_ge i 8 with h | h
  · exact pick_in i _ 8 _ _ h (by omega) (new_row W [31, 33, 34, 35, 36, 37, 39, 40] 3 i _ (by unfold row tab; exact (by decide : ∀ i < 8, [(31 : Int), (33 : Int), (34 : Int), (35 : Int), (36 : Int), (37 : Int), (39 : Int), (40 : Int)][i]? = some (List.getD [31, 33, 34, 35, 36, 37, 39, 40] i (0 : Int))) i h))
  · have e : row 5 i = 0 := by unfold row tab; exact (by decide : ∀ i < 8, 8 ≤ i → List.getD [31, 33, 34, 35, 36, 37, 39, 40] i (0 : Int) = 0) i h8 h
    rw [e]
    exact pick_out i _ 8 _ h h8
theorem pick_6 (i : Nat) (h8 : i < 8) (W : World) :
    Calls Tryd.prog 14 #[.int .u32 i, .slice (some ⟨W.heap.size, 0, none⟩) 8 8] (W.alloc (.cells #[.int .i64 60, .int .i64 61, .int .i64 62, .int .i64 63, .int .i64 64, .int .i64 65, .int .i64 66, .int .i64 67] 3)) fun e w' => e = .returned (.int .i64 (row 6 i)) ∧ W.alloc (.cells #[.int .i64 60, .int .i64 61, .int .i64 62, .int .i64 63, .int .i64 64, .int .i64 65, .int .i64 66, .int .i64 67] 3) = w' := by
  rcases Nat.lt_or_ge i 8 with h | h
  · exact pick_in i _ 8 _ _ h (by omega) (new_row W [60, 61, 62, 63, 64, 65, 66, 67] 3 i _ (by unfold row tab; exact (by decide : ∀ i < 8, [(60 : Int), (61 : Int), (62 : Int), (63 : Int), (64 : Int), (65 : Int), (66 : Int), (67 : Int)][i]? = some (List.getD [60, 61, 62, 63, 64, 65, 66, 67] i (0 : Int))) i h))
  · have e : row 6 i = 0 := by unfold row tab; exact (by decide : ∀ i < 8, 8 ≤ i → List.getD [60, 61, 62, 63, 64, 65, 66, 67] i (0 : Int) = 0) i h8 h
    rw [e]
    exact pick_out i _ 8 _ h h8
theorem pick_7 (i : Nat) (h8 : i < 8) (W : World) :
    Calls Tryd.prog 14 #[.int .u32 i, .slice (some ⟨W.heap.size, 0, none⟩) 6 6] (W.alloc (.cells #[.int .i64 32, .int .i64 0, .int .i64 0, .int .i64 0, .int .i64 0, .int .i64 38] 3)) fun e w' => e = .returned (.int .i64 (row 7 i)) ∧ W.alloc (.cells #[.int .i64 32, .int .i64 0, .int .i64 0, .int .i64 0, .int .i64 0, .int .i64 38] 3) = w' := by
  rcases Nat.lt_or_ge i 6 with h | h
  · exact pick_in i _ 6 _ _ h (by omega) (new_row W [32, 0, 0, 0, 0, 38] 3 i _ (by unfold row tab; exact (by decide : ∀ i < 6, [(32 : Int), (0 : Int), (0 : Int), (0 : Int), (0 : Int), (38 : Int)][i]? = some (List.getD [32, 0, 0, 0, 0, 38, 0, 0] i (0 : Int))) i h))
  · have e : row 7 i = 0 := by unfold row tab; exact (by decide : ∀ i < 8, 6 ≤ i → List.getD [32, 0, 0, 0, 0, 38, 0, 0] i (0 : Int) = 0) i h8 h
    rw [e]
    exact pick_out i _ 6 _ h h8
theorem pick_8 (i : Nat) (h8 : i < 8) (W : World) :
    Calls Tryd.prog 14 #[.int .u32 i, .slice (some ⟨W.heap.size, 0, none⟩) 6 6] (W.alloc (.cells #[.int .i64 45, .int .i64 47, .int .i64 0, .int .i64 0, .int .i64 0, .int .i64 48] 3)) fun e w' => e = .returned (.int .i64 (row 8 i)) ∧ W.alloc (.cells #[.int .i64 45, .int .i64 47, .int .i64 0, .int .i64 0, .int .i64 0, .int .i64 48] 3) = w' := by
  rcases Nat.lt_or_ge i 6 with h | h
  · exact pick_in i _ 6 _ _ h (by omega) (new_row W [45, 47, 0, 0, 0, 48] 3 i _ (by unfold row tab; exact (by decide : ∀ i < 6, [(45 : Int), (47 : Int), (0 : Int), (0 : Int), (0 : Int), (48 : Int)][i]? = some (List.getD [45, 47, 0, 0, 0, 48, 0, 0] i (0 : Int))) i h))
  · have e : row 8 i = 0 := by unfold row tab; exact (by decide : ∀ i < 8, 6 ≤ i → List.getD [45, 47, 0, 0, 0, 48, 0, 0] i (0 : Int) = 0) i h8 h
    rw [e]
    exact pick_out i _ 6 _ h h8
theorem pick_9 (i : Nat) (h8 : i < 8) (W : World) :
    Calls Tryd.prog 14 #[.int .u32 i, .slice (some ⟨W.heap.size, 0, none⟩) 8 8] (W.alloc (.cells #[.int .i64 68, .int .i64 0, .int .i64 0, .int .i64 0, .int .i64 69, .int .i64 70, .int .i64 71, .int .i64 72] 3)) fun e w' => e = .returned (.int .i64 (row 9 i)) ∧ W.alloc (.cells #[.int .i64 68, .int .i64 0, .int .i64 0, .int .i64 0, .int .i64 69, .int .i64 70, .int .i64 71, .int .i64 72] 3) = w' := by
  rcases Nat.lt_or_ge i 8 with h | h
  · exact pick_in i _ 8 _ _ h (by omega) (new_row W [68, 0, 0, 0, 69, 70, 71, 72] 3 i _ (by unfold row tab; exact (by decide : ∀ i < 8, [(68 : Int), (0 : Int), (0 : Int), (0 : Int), (69 : Int), (70 : Int), (71 : Int), (72 : Int)][i]? = some (List.getD [68, 0, 0, 0, 69, 70, 71, 72] i (0 : Int))) i h))
  · have e : row 9 i = 0 := by unfold row tab; exact (by decide : ∀ i < 8, 8 ≤ i → List.getD [68, 0, 0, 0, 69, 70, 71, 72] i (0 : Int) = 0) i h8 h
    rw [e]
    exact pick_out i _ 8 _ h h8
theorem pick_10 (i : Nat) (h8 : i < 8) (W : World) :
    Calls Tryd.prog 14 #[.int .u32 i, .slice (some ⟨W.heap.size, 0, none⟩) 6 6] (W.alloc (.cells #[.int .i64 46, .int .i64 0, .int .i64 0, .int .i64 0, .int .i64 0, .int .i64 49] 3)) fun e w' => e = .returned (.int .i64 (row 10 i)) ∧ W.alloc (.cells #[.int .i64 46, .int .i64 0, .int .i64 0, .int .i64 0, .int .i64 0, .int .i64 49] 3) = w' := by
  rcases Nat.lt_or_ge i 6 with h | h
  · exact pick_in i _ 6 _ _ h (by omega) (new_row W [46, 0, 0, 0, 0, 49] 3 i _ (by unfold row tab; exact (by decide : ∀ i < 6, [(46 : Int), (0 : Int), (0 : Int), (0 : Int), (0 : Int), (49 : Int)][i]? = some (List.getD [46, 0, 0, 0, 0, 49, 0, 0] i (0 : Int))) i h))
  · have e : row 10 i = 0 := by unfold row tab; exact (by decide : ∀ i < 8, 6 ≤ i → List.getD [46, 0, 0, 0, 0, 49, 0, 0] i (0 : Int) = 0) i h8 h
    rw [e]
    exact pick_out i _ 6 _ h h8
theorem pick_11 (i : Nat) (h8 : i < 8) (W : World) :
    Calls Tryd.prog 14 #[.int .u32 i, .slice (some ⟨W.heap.size, 0, none⟩) 8 8] (W.alloc (.cells #[.int .i64 0, .int .i64 54, .int .i64 55, .int .i64 56, .int .i64 0, .int .i64 57, .int .i64 58, .int .i64 59] 3)) fun e w' => e = .returned (.int .i64 (row 11 i)) ∧ W.alloc (.cells #[.int .i64 0, .int .i64 54, .int .i64 55, .int .i64 56, .int .i64 0, .int .i64 57, .int .i64 58, .int .i64 59] 3) = w' := by
  rcases Nat.lt_or_ge i 8 with h | h
  · exact pick_in i _ 8 _ _ h (by omega) (new_row W [0, 54, 55, 56, 0, 57, 58, 59] 3 i _ (by unfold row tab; exact (by decide : ∀ i < 8, [(0 : Int), (54 : Int), (55 : Int), (56 : Int), (0 : Int), (57 : Int), (58 : Int), (59 : Int)][i]? = some (List.getD [0, 54, 55, 56, 0, 57, 58, 59] i (0 : Int))) i h))
  · have e : row 11 i = 0 := by unfold row tab; exact (by decide : ∀ i < 8, 8 ≤ i → List.getD [0, 54, 55, 56, 0, 57, 58, 59] i (0 : Int) = 0) i h8 h
    rw [e]
    exact pick_out i _ 8 _ h h8
theorem pick_12 (i : Nat) (h8 : i < 8) (W : World) :
    Calls Tryd.prog 14 #[.int .u32 i, .slice (some ⟨W.heap.size, 0, none⟩) 1 1] (W.alloc (.cells #[.int .i64 4] 3)) fun e w' => e = .returned (.int .i64 (r4 i)) ∧ W.alloc (.cells #[.int .i64 4] 3) = w' := by
  rcases Nat.lt_or_ge i 1 with h | h
  · exact pick_in i _ 1 _ _ h (by omega) (new_row W [4] 3 i _ (by have : i = 0 := by omega
                                                                  subst this; rfl))
  · have e : r4 i = 0 := by unfold r4; exact if_neg (by omega)
    rw [e]
    exact pick_out i _ 1 _ h h8

end Go.Proofs.YtnbpadnbmbdfeaaDoor
