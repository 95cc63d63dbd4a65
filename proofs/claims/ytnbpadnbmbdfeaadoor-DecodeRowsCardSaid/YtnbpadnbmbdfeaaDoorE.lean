/- The program: atomic ones, numbers of the word itself, system. -/
import Derived.Test.YtnbpadnbmbdfeaaDoorD
namespace Go.Proofs.YtnbpadnbmbdfeaaDoor
open Go.RowKit Go.Deep Go.Joins

theorem bcell {W w1 : World} (hb : Below W.heap.size W w1) : (∀ b o, b < W.heap.size → w1.cell? ⟨b, o, none⟩ = W.cell? ⟨b, o, none⟩) ∧ (∀ b o, b < W.heap.size → w1.frozen? ⟨b, o, none⟩ = W.frozen? ⟨b, o, none⟩) :=
  ⟨fun b o h => hb.cell (p := ⟨b, o, none⟩) h, fun b o h => hb.frozen (p := ⟨b, o, none⟩) h⟩
theorem fin5 {W w1 : World} {o : Obj} (hb : Below (W.alloc o).heap.size (W.alloc o) w1) (a b c d e : Value) :
    Below W.heap.size W (((((w1.setCell ⟨W.heap.size, 0, none⟩ a).setCell ⟨W.heap.size, 1, none⟩ b).setCell ⟨W.heap.size, 2, none⟩ c).setCell ⟨W.heap.size, 3, none⟩ d).setCell ⟨W.heap.size, 4, none⟩ e) :=
  ((((((below1 W o).trans (hb.mono (by simp))).setCell (Nat.le_refl _) _).setCell (Nat.le_refl _) _).setCell (Nat.le_refl _) _).setCell (Nat.le_refl _) _).setCell (Nat.le_refl _) _
/-- An instruction. -/
structure In where
  op : Int
  rd : Int
  rs1 : Int
  rs2 : Int
  imm : Int
def In.zero : In := ⟨0, 0, 0, 0, 0⟩
def opA (f3 c : Nat) : Int := if f3 = 2 then aW c else if f3 = 3 then aD c else 0
def pAtom (w : Nat) : In :=
  if opA (cutN w 12 3) (cutN w 27 5) = 73 ∨ opA (cutN w 12 3) (cutN w 27 5) = 84 then
    if cutN w 20 5 = 0 then ⟨opA (cutN w 12 3) (cutN w 27 5), (cutN w 7 5 : Nat), (cutN w 15 5 : Nat), 0, 0⟩ else In.zero
  else ⟨opA (cutN w 12 3) (cutN w 27 5), (cutN w 7 5 : Nat), (cutN w 15 5 : Nat), (cutN w 20 5 : Nat), 0⟩
theorem ret_in {i j : In} (h : i = j) : Ending.returned (.agg #[.int .i64 (i).op, .int .i64 (i).rd, .int .i64 (i).rs1, .int .i64 (i).rs2, .int .i64 (i).imm]) = .returned (.agg #[.int .i64 (j).op, .int .i64 (j).rd, .int .i64 (j).rs1, .int .i64 (j).rs2, .int .i64 (j).imm]) := by rw [h]
set_option maxHeartbeats 1000000 in
theorem atom_2_73z (w : Nat) (W : World) (Y : Int) (H : Hid (∀ W, Calls Tryd.prog 44 #[.int .u32 (cutN w 27 5 : Nat)] W fun e W' => e = .returned (.tuple #[.int .i64 73, .int .i64 Y]) ∧ W = W')) (h : cutN w 12 3 = 2) (z : cutN w 20 5 = 0) :
    Calls Tryd.prog 38 #[.int .u32 w] W fun e W' => e = .returned (.agg #[.int .i64 73, .int .i64 (cutN w 7 5 : Nat), .int .i64 (cutN w 15 5 : Nat), .int .i64 0, .int .i64 0]) ∧ Below W.heap.size W W' := by
  go_enter Tryd.func38, Tryd.ntmps38
  go_wp2_with (first | (go_at_call 24; (first | (with_reducible refine (bits_14_12 w _).mono ?_) | (with_reducible refine (bits_31_27 w _).mono ?_) | (with_reducible refine (bits_24_20 w _).mono ?_) | fail); rintro e w' ⟨rfl, rfl⟩) | (go_at_call 44; (with_reducible refine (H.out _).mono ?_); rintro e w' ⟨rfl, rfl⟩) | (go_at_call 35; (with_reducible refine (withAll w _ _).mono ?_); rintro e w1 ⟨rfl, hb1⟩; obtain ⟨hc1, hf1⟩ := bcell hb1) | (go_at_call 28; (with_reducible refine (withRdRs1 w _ _ _).mono ?_); rintro e w1 ⟨rfl, hb1⟩; obtain ⟨hc1, hf1⟩ := bcell hb1) | fail)
  refine bodyPost_ret (v := .agg #[.int .i64 73, .int .i64 (cutN w 7 5 : Nat), .int .i64 (cutN w 15 5 : Nat), .int .i64 0, .int .i64 0]) (by simp [results, Tryd.results38, go_sem, hc1]) rfl ?_
  exact ⟨rfl, fin5 hb1 _ _ _ _ _⟩
set_option maxHeartbeats 1000000 in
theorem atom_2_73n (w : Nat) (W : World) (Y : Int) (H : Hid (∀ W, Calls Tryd.prog 44 #[.int .u32 (cutN w 27 5 : Nat)] W fun e W' => e = .returned (.tuple #[.int .i64 73, .int .i64 Y]) ∧ W = W')) (h : cutN w 12 3 = 2) (z : ((cutN w 20 5 : Nat) != (0 : Int)) = true) :
    Calls Tryd.prog 38 #[.int .u32 w] W fun e W' => e = .returned (.agg #[.int .i64 0, .int .i64 0, .int .i64 0, .int .i64 0, .int .i64 0]) ∧ Below W.heap.size W W' := by
  go_enter Tryd.func38, Tryd.ntmps38
  go_wp2_with (first | (go_at_call 24; (first | (with_reducible refine (bits_14_12 w _).mono ?_) | (with_reducible refine (bits_31_27 w _).mono ?_) | (with_reducible refine (bits_24_20 w _).mono ?_) | fail); rintro e w' ⟨rfl, rfl⟩) | (go_at_call 44; (with_reducible refine (H.out _).mono ?_); rintro e w' ⟨rfl, rfl⟩) | (go_at_call 35; (with_reducible refine (withAll w _ _).mono ?_); rintro e w1 ⟨rfl, hb1⟩; obtain ⟨hc1, hf1⟩ := bcell hb1) | (go_at_call 28; (with_reducible refine (withRdRs1 w _ _ _).mono ?_); rintro e w1 ⟨rfl, hb1⟩; obtain ⟨hc1, hf1⟩ := bcell hb1) | fail)
  go_returns
  exact ⟨rfl, below1 W _⟩
set_option maxHeartbeats 1000000 in
theorem atom_2_84z (w : Nat) (W : World) (Y : Int) (H : Hid (∀ W, Calls Tryd.prog 44 #[.int .u32 (cutN w 27 5 : Nat)] W fun e W' => e = .returned (.tuple #[.int .i64 84, .int .i64 Y]) ∧ W = W')) (h : cutN w 12 3 = 2) (z : cutN w 20 5 = 0) :
    Calls Tryd.prog 38 #[.int .u32 w] W fun e W' => e = .returned (.agg #[.int .i64 84, .int .i64 (cutN w 7 5 : Nat), .int .i64 (cutN w 15 5 : Nat), .int .i64 0, .int .i64 0]) ∧ Below W.heap.size W W' := by
  go_enter Tryd.func38, Tryd.ntmps38
  go_wp2_with (first | (go_at_call 24; (first | (with_reducible refine (bits_14_12 w _).mono ?_) | (with_reducible refine (bits_31_27 w _).mono ?_) | (with_reducible refine (bits_24_20 w _).mono ?_) | fail); rintro e w' ⟨rfl, rfl⟩) | (go_at_call 44; (with_reducible refine (H.out _).mono ?_); rintro e w' ⟨rfl, rfl⟩) | (go_at_call 35; (with_reducible refine (withAll w _ _).mono ?_); rintro e w1 ⟨rfl, hb1⟩; obtain ⟨hc1, hf1⟩ := bcell hb1) | (go_at_call 28; (with_reducible refine (withRdRs1 w _ _ _).mono ?_); rintro e w1 ⟨rfl, hb1⟩; obtain ⟨hc1, hf1⟩ := bcell hb1) | fail)
  refine bodyPost_ret (v := .agg #[.int .i64 84, .int .i64 (cutN w 7 5 : Nat), .int .i64 (cutN w 15 5 : Nat), .int .i64 0, .int .i64 0]) (by simp [results, Tryd.results38, go_sem, hc1]) rfl ?_
  exact ⟨rfl, fin5 hb1 _ _ _ _ _⟩
set_option maxHeartbeats 1000000 in
theorem atom_2_84n (w : Nat) (W : World) (Y : Int) (H : Hid (∀ W, Calls Tryd.prog 44 #[.int .u32 (cutN w 27 5 : Nat)] W fun e W' => e = .returned (.tuple #[.int .i64 84, .int .i64 Y]) ∧ W = W')) (h : cutN w 12 3 = 2) (z : ((cutN w 20 5 : Nat) != (0 : Int)) = true) :
    Calls Tryd.prog 38 #[.int .u32 w] W fun e W' => e = .returned (.agg #[.int .i64 0, .int .i64 0, .int .i64 0, .int .i64 0, .int .i64 0]) ∧ Below W.heap.size W W' := by
  go_enter Tryd.func38, Tryd.ntmps38
  go_wp2_with (first | (go_at_call 24; (first | (with_reducible refine (bits_14_12 w _).mono ?_) | (with_reducible refine (bits_31_27 w _).mono ?_) | (with_reducible refine (bits_24_20 w _).mono ?_) | fail); rintro e w' ⟨rfl, rfl⟩) | (go_at_call 44; (with_reducible refine (H.out _).mono ?_); rintro e w' ⟨rfl, rfl⟩) | (go_at_call 35; (with_reducible refine (withAll w _ _).mono ?_); rintro e w1 ⟨rfl, hb1⟩; obtain ⟨hc1, hf1⟩ := bcell hb1) | (go_at_call 28; (with_reducible refine (withRdRs1 w _ _ _).mono ?_); rintro e w1 ⟨rfl, hb1⟩; obtain ⟨hc1, hf1⟩ := bcell hb1) | fail)
  go_returns
  exact ⟨rfl, below1 W _⟩
set_option maxHeartbeats 1000000 in
theorem atom_2_o (w : Nat) (W : World) (A Y : Int) (H : Hid (∀ W, Calls Tryd.prog 44 #[.int .u32 (cutN w 27 5 : Nat)] W fun e W' => e = .returned (.tuple #[.int .i64 A, .int .i64 Y]) ∧ W = W')) (h : cutN w 12 3 = 2) (g1 : (A != 73) = true) (g2 : (A != 84) = true) :
    Calls Tryd.prog 38 #[.int .u32 w] W fun e W' => e = .returned (.agg #[.int .i64 A, .int .i64 (cutN w 7 5 : Nat), .int .i64 (cutN w 15 5 : Nat), .int .i64 (cutN w 20 5 : Nat), .int .i64 0]) ∧ Below W.heap.size W W' := by
  go_enter Tryd.func38, Tryd.ntmps38
  go_wp2_with (first | (go_at_call 24; (first | (with_reducible refine (bits_14_12 w _).mono ?_) | (with_reducible refine (bits_31_27 w _).mono ?_) | (with_reducible refine (bits_24_20 w _).mono ?_) | fail); rintro e w' ⟨rfl, rfl⟩) | (go_at_call 44; (with_reducible refine (H.out _).mono ?_); rintro e w' ⟨rfl, rfl⟩) | (go_at_call 35; (with_reducible refine (withAll w _ _).mono ?_); rintro e w1 ⟨rfl, hb1⟩; obtain ⟨hc1, hf1⟩ := bcell hb1) | (go_at_call 28; (with_reducible refine (withRdRs1 w _ _ _).mono ?_); rintro e w1 ⟨rfl, hb1⟩; obtain ⟨hc1, hf1⟩ := bcell hb1) | fail)
  refine bodyPost_ret (v := .agg #[.int .i64 A, .int .i64 (cutN w 7 5 : Nat), .int .i64 (cutN w 15 5 : Nat), .int .i64 (cutN w 20 5 : Nat), .int .i64 0]) (by simp [results, Tryd.results38, go_sem, hc1]) rfl ?_
  exact ⟨rfl, fin5 hb1 _ _ _ _ _⟩
set_option maxHeartbeats 1000000 in
theorem atom_3_73z (w : Nat) (W : World) (X : Int) (H : Hid (∀ W, Calls Tryd.prog 44 #[.int .u32 (cutN w 27 5 : Nat)] W fun e W' => e = .returned (.tuple #[.int .i64 X, .int .i64 73]) ∧ W = W')) (h : cutN w 12 3 = 3) (z : cutN w 20 5 = 0) :
    Calls Tryd.prog 38 #[.int .u32 w] W fun e W' => e = .returned (.agg #[.int .i64 73, .int .i64 (cutN w 7 5 : Nat), .int .i64 (cutN w 15 5 : Nat), .int .i64 0, .int .i64 0]) ∧ Below W.heap.size W W' := by
  go_enter Tryd.func38, Tryd.ntmps38
  go_wp2_with (first | (go_at_call 24; (first | (with_reducible refine (bits_14_12 w _).mono ?_) | (with_reducible refine (bits_31_27 w _).mono ?_) | (with_reducible refine (bits_24_20 w _).mono ?_) | fail); rintro e w' ⟨rfl, rfl⟩) | (go_at_call 44; (with_reducible refine (H.out _).mono ?_); rintro e w' ⟨rfl, rfl⟩) | (go_at_call 35; (with_reducible refine (withAll w _ _).mono ?_); rintro e w1 ⟨rfl, hb1⟩; obtain ⟨hc1, hf1⟩ := bcell hb1) | (go_at_call 28; (with_reducible refine (withRdRs1 w _ _ _).mono ?_); rintro e w1 ⟨rfl, hb1⟩; obtain ⟨hc1, hf1⟩ := bcell hb1) | fail)
  refine bodyPost_ret (v := .agg #[.int .i64 73, .int .i64 (cutN w 7 5 : Nat), .int .i64 (cutN w 15 5 : Nat), .int .i64 0, .int .i64 0]) (by simp [results, Tryd.results38, go_sem, hc1]) rfl ?_
  exact ⟨rfl, fin5 hb1 _ _ _ _ _⟩
set_option maxHeartbeats 1000000 in
theorem atom_3_73n (w : Nat) (W : World) (X : Int) (H : Hid (∀ W, Calls Tryd.prog 44 #[.int .u32 (cutN w 27 5 : Nat)] W fun e W' => e = .returned (.tuple #[.int .i64 X, .int .i64 73]) ∧ W = W')) (h : cutN w 12 3 = 3) (z : ((cutN w 20 5 : Nat) != (0 : Int)) = true) :
    Calls Tryd.prog 38 #[.int .u32 w] W fun e W' => e = .returned (.agg #[.int .i64 0, .int .i64 0, .int .i64 0, .int .i64 0, .int .i64 0]) ∧ Below W.heap.size W W' := by
  go_enter Tryd.func38, Tryd.ntmps38
  go_wp2_with (first | (go_at_call 24; (first | (with_reducible refine (bits_14_12 w _).mono ?_) | (with_reducible refine (bits_31_27 w _).mono ?_) | (with_reducible refine (bits_24_20 w _).mono ?_) | fail); rintro e w' ⟨rfl, rfl⟩) | (go_at_call 44; (with_reducible refine (H.out _).mono ?_); rintro e w' ⟨rfl, rfl⟩) | (go_at_call 35; (with_reducible refine (withAll w _ _).mono ?_); rintro e w1 ⟨rfl, hb1⟩; obtain ⟨hc1, hf1⟩ := bcell hb1) | (go_at_call 28; (with_reducible refine (withRdRs1 w _ _ _).mono ?_); rintro e w1 ⟨rfl, hb1⟩; obtain ⟨hc1, hf1⟩ := bcell hb1) | fail)
  go_returns
  exact ⟨rfl, below1 W _⟩
set_option maxHeartbeats 1000000 in
theorem atom_3_84z (w : Nat) (W : World) (X : Int) (H : Hid (∀ W, Calls Tryd.prog 44 #[.int .u32 (cutN w 27 5 : Nat)] W fun e W' => e = .returned (.tuple #[.int .i64 X, .int .i64 84]) ∧ W = W')) (h : cutN w 12 3 = 3) (z : cutN w 20 5 = 0) :
    Calls Tryd.prog 38 #[.int .u32 w] W fun e W' => e = .returned (.agg #[.int .i64 84, .int .i64 (cutN w 7 5 : Nat), .int .i64 (cutN w 15 5 : Nat), .int .i64 0, .int .i64 0]) ∧ Below W.heap.size W W' := by
  go_enter Tryd.func38, Tryd.ntmps38
  go_wp2_with (first | (go_at_call 24; (first | (with_reducible refine (bits_14_12 w _).mono ?_) | (with_reducible refine (bits_31_27 w _).mono ?_) | (with_reducible refine (bits_24_20 w _).mono ?_) | fail); rintro e w' ⟨rfl, rfl⟩) | (go_at_call 44; (with_reducible refine (H.out _).mono ?_); rintro e w' ⟨rfl, rfl⟩) | (go_at_call 35; (with_reducible refine (withAll w _ _).mono ?_); rintro e w1 ⟨rfl, hb1⟩; obtain ⟨hc1, hf1⟩ := bcell hb1) | (go_at_call 28; (with_reducible refine (withRdRs1 w _ _ _).mono ?_); rintro e w1 ⟨rfl, hb1⟩; obtain ⟨hc1, hf1⟩ := bcell hb1) | fail)
  refine bodyPost_ret (v := .agg #[.int .i64 84, .int .i64 (cutN w 7 5 : Nat), .int .i64 (cutN w 15 5 : Nat), .int .i64 0, .int .i64 0]) (by simp [results, Tryd.results38, go_sem, hc1]) rfl ?_
  exact ⟨rfl, fin5 hb1 _ _ _ _ _⟩
set_option maxHeartbeats 1000000 in
theorem atom_3_84n (w : Nat) (W : World) (X : Int) (H : Hid (∀ W, Calls Tryd.prog 44 #[.int .u32 (cutN w 27 5 : Nat)] W fun e W' => e = .returned (.tuple #[.int .i64 X, .int .i64 84]) ∧ W = W')) (h : cutN w 12 3 = 3) (z : ((cutN w 20 5 : Nat) != (0 : Int)) = true) :
    Calls Tryd.prog 38 #[.int .u32 w] W fun e W' => e = .returned (.agg #[.int .i64 0, .int .i64 0, .int .i64 0, .int .i64 0, .int .i64 0]) ∧ Below W.heap.size W W' := by
  go_enter Tryd.func38, Tryd.ntmps38
  go_wp2_with (first | (go_at_call 24; (first | (with_reducible refine (bits_14_12 w _).mono ?_) | (with_reducible refine (bits_31_27 w _).mono ?_) | (with_reducible refine (bits_24_20 w _).mono ?_) | fail); rintro e w' ⟨rfl, rfl⟩) | (go_at_call 44; (with_reducible refine (H.out _).mono ?_); rintro e w' ⟨rfl, rfl⟩) | (go_at_call 35; (with_reducible refine (withAll w _ _).mono ?_); rintro e w1 ⟨rfl, hb1⟩; obtain ⟨hc1, hf1⟩ := bcell hb1) | (go_at_call 28; (with_reducible refine (withRdRs1 w _ _ _).mono ?_); rintro e w1 ⟨rfl, hb1⟩; obtain ⟨hc1, hf1⟩ := bcell hb1) | fail)
  go_returns
  exact ⟨rfl, below1 W _⟩
set_option maxHeartbeats 1000000 in
theorem atom_3_o (w : Nat) (W : World) (A X : Int) (H : Hid (∀ W, Calls Tryd.prog 44 #[.int .u32 (cutN w 27 5 : Nat)] W fun e W' => e = .returned (.tuple #[.int .i64 X, .int .i64 A]) ∧ W = W')) (h : cutN w 12 3 = 3) (g1 : (A != 73) = true) (g2 : (A != 84) = true) :
    Calls Tryd.prog 38 #[.int .u32 w] W fun e W' => e = .returned (.agg #[.int .i64 A, .int .i64 (cutN w 7 5 : Nat), .int .i64 (cutN w 15 5 : Nat), .int .i64 (cutN w 20 5 : Nat), .int .i64 0]) ∧ Below W.heap.size W W' := by
  go_enter Tryd.func38, Tryd.ntmps38
  go_wp2_with (first | (go_at_call 24; (first | (with_reducible refine (bits_14_12 w _).mono ?_) | (with_reducible refine (bits_31_27 w _).mono ?_) | (with_reducible refine (bits_24_20 w _).mono ?_) | fail); rintro e w' ⟨rfl, rfl⟩) | (go_at_call 44; (with_reducible refine (H.out _).mono ?_); rintro e w' ⟨rfl, rfl⟩) | (go_at_call 35; (with_reducible refine (withAll w _ _).mono ?_); rintro e w1 ⟨rfl, hb1⟩; obtain ⟨hc1, hf1⟩ := bcell hb1) | (go_at_call 28; (with_reducible refine (withRdRs1 w _ _ _).mono ?_); rintro e w1 ⟨rfl, hb1⟩; obtain ⟨hc1, hf1⟩ := bcell hb1) | fail)
  refine bodyPost_ret (v := .agg #[.int .i64 A, .int .i64 (cutN w 7 5 : Nat), .int .i64 (cutN w 15 5 : Nat), .int .i64 (cutN w 20 5 : Nat), .int .i64 0]) (by simp [results, Tryd.results38, go_sem, hc1]) rfl ?_
  exact ⟨rfl, fin5 hb1 _ _ _ _ _⟩
set_option maxHeartbeats 1000000 in
theorem atom_n_o (w : Nat) (W : World) (X Y : Int) (H : Hid (∀ W, Calls Tryd.prog 44 #[.int .u32 (cutN w 27 5 : Nat)] W fun e W' => e = .returned (.tuple #[.int .i64 X, .int .i64 Y]) ∧ W = W')) (h2 : ((cutN w 12 3 : Nat) == (2 : Int)) = false) (h3 : ((cutN w 12 3 : Nat) == (3 : Int)) = false) :
    Calls Tryd.prog 38 #[.int .u32 w] W fun e W' => e = .returned (.agg #[.int .i64 0, .int .i64 (cutN w 7 5 : Nat), .int .i64 (cutN w 15 5 : Nat), .int .i64 (cutN w 20 5 : Nat), .int .i64 0]) ∧ Below W.heap.size W W' := by
  go_enter Tryd.func38, Tryd.ntmps38
  go_wp2_with (first | (go_at_call 24; (first | (with_reducible refine (bits_14_12 w _).mono ?_) | (with_reducible refine (bits_31_27 w _).mono ?_) | (with_reducible refine (bits_24_20 w _).mono ?_) | fail); rintro e w' ⟨rfl, rfl⟩) | (go_at_call 44; (with_reducible refine (H.out _).mono ?_); rintro e w' ⟨rfl, rfl⟩) | (go_at_call 35; (with_reducible refine (withAll w _ _).mono ?_); rintro e w1 ⟨rfl, hb1⟩; obtain ⟨hc1, hf1⟩ := bcell hb1) | (go_at_call 28; (with_reducible refine (withRdRs1 w _ _ _).mono ?_); rintro e w1 ⟨rfl, hb1⟩; obtain ⟨hc1, hf1⟩ := bcell hb1) | fail)
  refine bodyPost_ret (v := .agg #[.int .i64 0, .int .i64 (cutN w 7 5 : Nat), .int .i64 (cutN w 15 5 : Nat), .int .i64 (cutN w 20 5 : Nat), .int .i64 0]) (by simp [results, Tryd.results38, go_sem, hc1]) rfl ?_
  exact ⟨rfl, fin5 hb1 _ _ _ _ _⟩
theorem atom_any (w : Nat) (W : World) :
    Calls Tryd.prog 38 #[.int .u32 w] W fun e W' => e = .returned (.agg #[.int .i64 (pAtom w).op, .int .i64 (pAtom w).rd, .int .i64 (pAtom w).rs1, .int .i64 (pAtom w).rs2, .int .i64 (pAtom w).imm]) ∧ Below W.heap.size W W' := by
  have H := fun W' : World => ops_any (cutN w 27 5) W'
  have key : ∀ A : Int, opA (cutN w 12 3) (cutN w 27 5) = A → (∀ a b c d e : Int, pAtom w = ⟨a, b, c, d, e⟩ → Calls Tryd.prog 38 #[.int .u32 w] W (fun e' W' => e' = .returned (.agg #[.int .i64 a, .int .i64 b, .int .i64 c, .int .i64 d, .int .i64 e]) ∧ Below W.heap.size W W') → Calls Tryd.prog 38 #[.int .u32 w] W fun e W' => e = .returned (.agg #[.int .i64 (pAtom w).op, .int .i64 (pAtom w).rd, .int .i64 (pAtom w).rs1, .int .i64 (pAtom w).rs2, .int .i64 (pAtom w).imm]) ∧ Below W.heap.size W W') := by
    intro A _ a b c d e he h
    rw [he]
    exact h
  by_cases h2 : cutN w 12 3 = 2
  · have e : opA (cutN w 12 3) (cutN w 27 5) = aW (cutN w 27 5) := by unfold opA; rw [if_pos h2]
    by_cases h73 : aW (cutN w 27 5) = 73
    · rw [h73] at H
      by_cases z : cutN w 20 5 = 0
      · exact key _ rfl _ _ _ _ _ (by unfold pAtom; rw [e, h73, if_pos (Or.inl rfl), if_pos z]) (atom_2_73z w W _ (Lib.hid H) h2 z)
      · exact key _ rfl _ _ _ _ _ (by unfold pAtom; rw [e, h73, if_pos (Or.inl rfl), if_neg z]; rfl) (atom_2_73n w W _ (Lib.hid H) h2 (by rw [bne_iff_ne]; omega))
    · by_cases h84 : aW (cutN w 27 5) = 84
      · rw [h84] at H
        by_cases z : cutN w 20 5 = 0
        · exact key _ rfl _ _ _ _ _ (by unfold pAtom; rw [e, h84, if_pos (Or.inr rfl), if_pos z]) (atom_2_84z w W _ (Lib.hid H) h2 z)
        · exact key _ rfl _ _ _ _ _ (by unfold pAtom; rw [e, h84, if_pos (Or.inr rfl), if_neg z]; rfl) (atom_2_84n w W _ (Lib.hid H) h2 (by rw [bne_iff_ne]; omega))
      · exact key _ rfl _ _ _ _ _ (by unfold pAtom; rw [e, if_neg (by omega)]) (atom_2_o w W _ _ (Lib.hid H) h2 (by rw [bne_iff_ne]; omega) (by rw [bne_iff_ne]; omega))
  · by_cases h3 : cutN w 12 3 = 3
    · have e : opA (cutN w 12 3) (cutN w 27 5) = aD (cutN w 27 5) := by unfold opA; rw [if_neg h2, if_pos h3]
      by_cases h73 : aD (cutN w 27 5) = 73
      · rw [h73] at H
        by_cases z : cutN w 20 5 = 0
        · exact key _ rfl _ _ _ _ _ (by unfold pAtom; rw [e, h73, if_pos (Or.inl rfl), if_pos z]) (atom_3_73z w W _ (Lib.hid H) h3 z)
        · exact key _ rfl _ _ _ _ _ (by unfold pAtom; rw [e, h73, if_pos (Or.inl rfl), if_neg z]; rfl) (atom_3_73n w W _ (Lib.hid H) h3 (by rw [bne_iff_ne]; omega))
      · by_cases h84 : aD (cutN w 27 5) = 84
        · rw [h84] at H
          by_cases z : cutN w 20 5 = 0
          · exact key _ rfl _ _ _ _ _ (by unfold pAtom; rw [e, h84, if_pos (Or.inr rfl), if_pos z]) (atom_3_84z w W _ (Lib.hid H) h3 z)
          · exact key _ rfl _ _ _ _ _ (by unfold pAtom; rw [e, h84, if_pos (Or.inr rfl), if_neg z]; rfl) (atom_3_84n w W _ (Lib.hid H) h3 (by rw [bne_iff_ne]; omega))
        · exact key _ rfl _ _ _ _ _ (by unfold pAtom; rw [e, if_neg (by omega)]) (atom_3_o w W _ _ (Lib.hid H) h3 (by rw [bne_iff_ne]; omega) (by rw [bne_iff_ne]; omega))
    · have e : opA (cutN w 12 3) (cutN w 27 5) = 0 := by unfold opA; rw [if_neg h2, if_neg h3]
      exact key _ rfl _ _ _ _ _ (by unfold pAtom; rw [e, if_neg (by omega)]) (atom_n_o w W _ _ (Lib.hid H) (by rw [beq_eq_false_iff_ne]; omega) (by rw [beq_eq_false_iff_ne]; omega))


end Go.Proofs.YtnbpadnbmbdfeaaDoor
