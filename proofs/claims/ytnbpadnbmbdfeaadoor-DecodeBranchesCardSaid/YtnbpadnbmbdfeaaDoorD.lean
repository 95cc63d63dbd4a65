/- The program: operations of registers. -/
import Derived.Test.YtnbpadnbmbdfeaaDoorC
namespace Go.Proofs.YtnbpadnbmbdfeaaDoor
open Go.RowKit Go.Deep Go.Joins

/-- What the program's rows of operations hold. -/
def tab : Nat → List Int
  | 0 => [5, 6, 0, 0, 7, 8, 9, 10]
  | 1 => [11, 12, 13, 14, 15, 16, 17, 0]
  | 2 => [18, 19, 20, 21, 0, 0, 0, 0]
  | 3 => [50, 51, 0, 0, 0, 0, 0, 0]
  | 4 => [22, 0, 23, 24, 25, 0, 26, 27]
  | 5 => [31, 33, 34, 35, 36, 37, 39, 40]
  | 6 => [60, 61, 62, 63, 64, 65, 66, 67]
  | 7 => [32, 0, 0, 0, 0, 38, 0, 0]
  | 8 => [45, 47, 0, 0, 0, 48, 0, 0]
  | 9 => [68, 0, 0, 0, 69, 70, 71, 72]
  | 10 => [46, 0, 0, 0, 0, 49, 0, 0]
  | 11 => [0, 54, 55, 56, 0, 57, 58, 59]
  | _ => []
def row (g j : Nat) : Int := (tab g).getD j 0
def Laid (W : World) : Prop := 12 ≤ W.heap.size ∧ ∀ g j : Nat, g < 12 → j < 8 → W.cell? ⟨g, j, none⟩ = some (.int .i64 (row g j))
theorem Laid.below {W W' : World} (h : Laid W) (hb : Below W.heap.size W W') : Laid W' :=
  ⟨by have := hb.size; have := h.1; omega, fun g j hg hj => (hb.cell (p := ⟨g, j, none⟩) (by have := h.1; show g < _; omega)).trans (h.2 g j hg hj)⟩
def op33 (f3 f7 : Nat) : Int := if f7 = 0 then row 5 f3 else if f7 = 1 then row 6 f3 else if f7 = 32 then row 7 f3 else 0
set_option maxHeartbeats 400000 in
theorem sum_any (w : Nat) (W : World) (hL : Laid W) :
    Calls Tryd.prog 36 #[.int .u32 w] W fun e W' => e = .returned (.int .i64 (op33 (cutN w 12 3) (cutN w 25 7))) ∧ W = W' := by
  have h3 := lt_12_3 w
  have c5 := hL.2 5 _ (by omega) h3
  have c6 := hL.2 6 _ (by omega) h3
  have c7 := hL.2 7 _ (by omega) h3
  clear hL
  go_enter Tryd.func36, Tryd.ntmps36
  go_wp2_with (first | (go_at_call 24; (first | (with_reducible refine (bits_14_12 w _).mono ?_) | (with_reducible refine (bits_31_25 w _).mono ?_) | fail); rintro e w' ⟨rfl, rfl⟩) | fail)
  all_goals go_ret
  all_goals refine ⟨ret_int ?_, rfl⟩
  all_goals (unfold op33; (try simp only [beq_iff_eq, beq_eq_false_iff_ne, ne_eq] at *); repeat' split)
  all_goals first | rfl | omega
def op3b (f3 f7 : Nat) : Int := if f7 = 0 then row 8 f3 else if f7 = 1 then row 9 f3 else if f7 = 32 then row 10 f3 else 0
set_option maxHeartbeats 400000 in
theorem sumW_any (w : Nat) (W : World) (hL : Laid W) :
    Calls Tryd.prog 37 #[.int .u32 w] W fun e W' => e = .returned (.int .i64 (op3b (cutN w 12 3) (cutN w 25 7))) ∧ W = W' := by
  have h3 := lt_12_3 w
  have c5 := hL.2 8 _ (by omega) h3
  have c6 := hL.2 9 _ (by omega) h3
  have c7 := hL.2 10 _ (by omega) h3
  clear hL
  go_enter Tryd.func37, Tryd.ntmps37
  go_wp2_with (first | (go_at_call 24; (first | (with_reducible refine (bits_14_12 w _).mono ?_) | (with_reducible refine (bits_31_25 w _).mono ?_) | fail); rintro e w' ⟨rfl, rfl⟩) | fail)
  all_goals go_ret
  all_goals refine ⟨ret_int ?_, rfl⟩
  all_goals (unfold op3b; (try simp only [beq_iff_eq, beq_eq_false_iff_ne, ne_eq] at *); repeat' split)
  all_goals first | rfl | omega
def aW (c : Nat) : Int := if c = 0 then 76 else if c = 1 then 75 else if c = 2 then 73 else if c = 3 then 74 else if c = 4 then 77 else if c = 8 then 79 else if c = 12 then 78 else if c = 16 then 80 else if c = 20 then 81 else if c = 24 then 82 else if c = 28 then 83 else 0
def aD (c : Nat) : Int := if c = 0 then 87 else if c = 1 then 86 else if c = 2 then 84 else if c = 3 then 85 else if c = 4 then 88 else if c = 8 then 90 else if c = 12 then 89 else if c = 16 then 91 else if c = 20 then 92 else if c = 24 then 93 else if c = 28 then 94 else 0
theorem ret_two {j k : IntKind} {a b c d : Int} (h : a = c) (h2 : b = d) : Ending.returned (.tuple #[.int j a, .int k b]) = .returned (.tuple #[.int j c, .int k d]) := by rw [h, h2]
set_option maxHeartbeats 400000 in
theorem ops_0 (W : World) :
    Calls Tryd.prog 44 #[.int .u32 0] W fun e W' => e = .returned (.tuple #[.int .i64 76, .int .i64 87]) ∧ W = W' := by
  go_enter Tryd.func44, Tryd.ntmps44
  go_wp2_with fail
  go_returns
  exact ⟨rfl, rfl⟩
set_option maxHeartbeats 400000 in
theorem ops_1 (W : World) :
    Calls Tryd.prog 44 #[.int .u32 1] W fun e W' => e = .returned (.tuple #[.int .i64 75, .int .i64 86]) ∧ W = W' := by
  go_enter Tryd.func44, Tryd.ntmps44
  go_wp2_with fail
  go_returns
  exact ⟨rfl, rfl⟩
set_option maxHeartbeats 400000 in
theorem ops_2 (W : World) :
    Calls Tryd.prog 44 #[.int .u32 2] W fun e W' => e = .returned (.tuple #[.int .i64 73, .int .i64 84]) ∧ W = W' := by
  go_enter Tryd.func44, Tryd.ntmps44
  go_wp2_with fail
  go_returns
  exact ⟨rfl, rfl⟩
set_option maxHeartbeats 400000 in
theorem ops_3 (W : World) :
    Calls Tryd.prog 44 #[.int .u32 3] W fun e W' => e = .returned (.tuple #[.int .i64 74, .int .i64 85]) ∧ W = W' := by
  go_enter Tryd.func44, Tryd.ntmps44
  go_wp2_with fail
  go_returns
  exact ⟨rfl, rfl⟩
set_option maxHeartbeats 400000 in
theorem ops_4 (W : World) :
    Calls Tryd.prog 44 #[.int .u32 4] W fun e W' => e = .returned (.tuple #[.int .i64 77, .int .i64 88]) ∧ W = W' := by
  go_enter Tryd.func44, Tryd.ntmps44
  go_wp2_with fail
  go_returns
  exact ⟨rfl, rfl⟩
set_option maxHeartbeats 400000 in
theorem ops_8 (W : World) :
    Calls Tryd.prog 44 #[.int .u32 8] W fun e W' => e = .returned (.tuple #[.int .i64 79, .int .i64 90]) ∧ W = W' := by
  go_enter Tryd.func44, Tryd.ntmps44
  go_wp2_with fail
  go_returns
  exact ⟨rfl, rfl⟩
set_option maxHeartbeats 400000 in
theorem ops_12 (W : World) :
    Calls Tryd.prog 44 #[.int .u32 12] W fun e W' => e = .returned (.tuple #[.int .i64 78, .int .i64 89]) ∧ W = W' := by
  go_enter Tryd.func44, Tryd.ntmps44
  go_wp2_with fail
  go_returns
  exact ⟨rfl, rfl⟩
set_option maxHeartbeats 400000 in
theorem ops_16 (W : World) :
    Calls Tryd.prog 44 #[.int .u32 16] W fun e W' => e = .returned (.tuple #[.int .i64 80, .int .i64 91]) ∧ W = W' := by
  go_enter Tryd.func44, Tryd.ntmps44
  go_wp2_with fail
  go_returns
  exact ⟨rfl, rfl⟩
set_option maxHeartbeats 400000 in
theorem ops_20 (W : World) :
    Calls Tryd.prog 44 #[.int .u32 20] W fun e W' => e = .returned (.tuple #[.int .i64 81, .int .i64 92]) ∧ W = W' := by
  go_enter Tryd.func44, Tryd.ntmps44
  go_wp2_with fail
  go_returns
  exact ⟨rfl, rfl⟩
set_option maxHeartbeats 400000 in
theorem ops_24 (W : World) :
    Calls Tryd.prog 44 #[.int .u32 24] W fun e W' => e = .returned (.tuple #[.int .i64 82, .int .i64 93]) ∧ W = W' := by
  go_enter Tryd.func44, Tryd.ntmps44
  go_wp2_with fail
  go_returns
  exact ⟨rfl, rfl⟩
set_option maxHeartbeats 400000 in
theorem ops_28 (W : World) :
    Calls Tryd.prog 44 #[.int .u32 28] W fun e W' => e = .returned (.tuple #[.int .i64 83, .int .i64 94]) ∧ W = W' := by
  go_enter Tryd.func44, Tryd.ntmps44
  go_wp2_with fail
  go_returns
  exact ⟨rfl, rfl⟩
set_option maxHeartbeats 400000 in
theorem ops_no (c : Nat) (W : World) (n0 : ¬ c = 0) (n1 : ¬ c = 1) (n2 : ¬ c = 2) (n3 : ¬ c = 3) (n4 : ¬ c = 4) (n8 : ¬ c = 8) (n12 : ¬ c = 12) (n16 : ¬ c = 16) (n20 : ¬ c = 20) (n24 : ¬ c = 24) (n28 : ¬ c = 28) :
    Calls Tryd.prog 44 #[.int .u32 c] W fun e W' => e = .returned (.tuple #[.int .i64 0, .int .i64 0]) ∧ W = W' := by
  have m0 : ((c : Int) == 0) = false := by simp only [beq_eq_false_iff_ne, ne_eq]; omega
  have m1 : ((c : Int) == 1) = false := by simp only [beq_eq_false_iff_ne, ne_eq]; omega
  have m2 : ((c : Int) == 2) = false := by simp only [beq_eq_false_iff_ne, ne_eq]; omega
  have m3 : ((c : Int) == 3) = false := by simp only [beq_eq_false_iff_ne, ne_eq]; omega
  have m4 : ((c : Int) == 4) = false := by simp only [beq_eq_false_iff_ne, ne_eq]; omega
  have m8 : ((c : Int) == 8) = false := by simp only [beq_eq_false_iff_ne, ne_eq]; omega
  have m12 : ((c : Int) == 12) = false := by simp only [beq_eq_false_iff_ne, ne_eq]; omega
  have m16 : ((c : Int) == 16) = false := by simp only [beq_eq_false_iff_ne, ne_eq]; omega
  have m20 : ((c : Int) == 20) = false := by simp only [beq_eq_false_iff_ne, ne_eq]; omega
  have m24 : ((c : Int) == 24) = false := by simp only [beq_eq_false_iff_ne, ne_eq]; omega
  have m28 : ((c : Int) == 28) = false := by simp only [beq_eq_false_iff_ne, ne_eq]; omega
  clear n0 n1 n2 n3 n4 n8 n12 n16 n20 n24 n28
  go_enter Tryd.func44, Tryd.ntmps44
  go_wp2_with fail
  go_returns
  exact ⟨rfl, rfl⟩
theorem ops_any (c : Nat) (W : World) :
    Calls Tryd.prog 44 #[.int .u32 c] W fun e W' => e = .returned (.tuple #[.int .i64 (aW c), .int .i64 (aD c)]) ∧ W = W' := by
  by_cases n0 : c = 0
  · subst n0; exact ops_0 W
  by_cases n1 : c = 1
  · subst n1; exact ops_1 W
  by_cases n2 : c = 2
  · subst n2; exact ops_2 W
  by_cases n3 : c = 3
  · subst n3; exact ops_3 W
  by_cases n4 : c = 4
  · subst n4; exact ops_4 W
  by_cases n8 : c = 8
  · subst n8; exact ops_8 W
  by_cases n12 : c = 12
  · subst n12; exact ops_12 W
  by_cases n16 : c = 16
  · subst n16; exact ops_16 W
  by_cases n20 : c = 20
  · subst n20; exact ops_20 W
  by_cases n24 : c = 24
  · subst n24; exact ops_24 W
  by_cases n28 : c = 28
  · subst n28; exact ops_28 W
  have e1 : aW c = 0 := by unfold aW; simp [n0, n1, n2, n3, n4, n8, n12, n16, n20, n24, n28]
  have e2 : aD c = 0 := by unfold aD; simp [n0, n1, n2, n3, n4, n8, n12, n16, n20, n24, n28]
  rw [e1, e2]
  exact ops_no c W n0 n1 n2 n3 n4 n8 n12 n16 n20 n24 n28


end Go.Proofs.YtnbpadnbmbdfeaaDoor
