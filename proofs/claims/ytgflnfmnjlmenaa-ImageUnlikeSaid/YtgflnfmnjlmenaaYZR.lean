/- Is a processor right. -/
import Derived.Test.YtgflnfmnjlmenaaYZQ
import Derived.Test.YtgflnfmnjlmenaaYCFD
namespace Go.Proofs.Ytgflnfmnjlmenaa
open Go.RowKit Go.Deep Go.Joins
set_option maxRecDepth 100000
def modeB (m : Int) : Bool := m == 0 || m == 1 || m == 3
theorem mode_any (m : Int) (W : World) : Calls Try.prog 40 #[.int .i64 m] W fun e W' => e = .returned (.bool (modeB m)) ∧ W = W' := by
  by_cases h0 : m = 0
  · subst h0
    go_enter Try.func40, Try.ntmps40
    go_wp2
    go_ret
    exact ⟨rfl, rfl⟩
  by_cases h1 : m = 1
  · subst h1
    go_enter Try.func40, Try.ntmps40
    go_wp2
    go_ret
    exact ⟨rfl, rfl⟩
  by_cases h3 : m = 3
  · subst h3
    go_enter Try.func40, Try.ntmps40
    go_wp2
    go_ret
    exact ⟨rfl, rfl⟩
  have g0 : (m == 0) = false := by rw [beq_eq_false_iff_ne]; exact h0
  have g1 : (m == 1) = false := by rw [beq_eq_false_iff_ne]; exact h1
  have g3 : (m == 3) = false := by rw [beq_eq_false_iff_ne]; exact h3
  have HE := Lib.hid (show modeB m = false by unfold modeB; rw [g0, g1, g3]; rfl)
  go_enter Try.func40, Try.ntmps40
  go_wp2
  go_ret
  exact ⟨ret_bool HE.out.symm, rfl⟩
def x0V (h : Hart) : Int := h.x.headD 0
theorem hartC_x0 (h : Hart) : (hartC h)[0]? = some (.int .u64 (x0V h)) := by
  rw [hartC_x h 0 (by omega)]
  unfold xL x0V
  have := h.hx
  cases hh : h.x with
  | nil => rw [hh] at this; cases this
  | cons a l => rfl
def rightH (h : Hart) : Bool := (x0V h == 0) && (bits .and .u64 h.pc 1 == 0) && modeB h.mode && Cs.rightB h.c && (h.held || h.rat == 0)
set_option maxHeartbeats 1000000 in
theorem hr_a (h : Hart) (h0 : (x0V h == 0) = false) (W : World) : Calls Try.prog 29 #[hartV h] W fun e W' => e = .returned (.bool (rightH h)) ∧ Below W.heap.size W W' := by
  have m_x0 := hartC_x0 h
  have m_pc : (hartC h)[32]? = some (.int .u64 h.pc) := hartC_tail h 0
  have m_held : (hartC h)[50]? = some (.bool h.held) := hartC_tail h 18
  have m_rat : (hartC h)[51]? = some (.int .u64 h.rat) := hartC_tail h 19
  have m_mode : (hartC h)[33]? = some (.int .i64 h.mode) := hartC_tail h 1
  have HE : RowKit.Hid (rightH h = false) := Lib.hid (by unfold rightH; simp [h0])
  go_enter Try.func29, Try.ntmps29
  go_wp2_with (first | (with_reducible show wpList _ _ _ (⟨some 20, Op.load 25 (.tmp 19), 25, _, _, _⟩ :: _) _ _; refine wpList_load_wanted (by first | exact rfl | (simp [Region.wanted, yielded]; done) | (simp [Region.wanted, yielded, Act.put]; done)) rfl (Tr.Box.load_c (Tr.Box.new W h)) rfl ?_) | (go_at_call 40; (with_reducible refine (mode_any h.mode _).mono ?_); rintro e w1 ⟨he, rfl⟩; rw [hm] at he; subst he) | (go_at_call 41; (with_reducible refine (Cs.right_any h.c _).mono ?_); rintro e w1 ⟨he, k1⟩; rw [hr] at he; subst he; have m_w1_held : w1.cell? ⟨W.heap.size, 50, none⟩ = some (.bool h.held) := ((cell_of_row w1 W.heap.size 50 (hartC h) 27 (0, 0) ((Tr.Box.new W h).next k1)).trans (hartC_tail h 18)); have m_w1_rat : w1.cell? ⟨W.heap.size, 51, none⟩ = some (.int .u64 h.rat) := ((cell_of_row w1 W.heap.size 51 (hartC h) 27 (0, 0) ((Tr.Box.new W h).next k1)).trans (hartC_tail h 19))) | fail)
  all_goals go_ret
  all_goals exact ⟨ret_bool (HE.out.symm), (Below.refl _ _).alloc (Nat.le_refl _) (Tr.hartO h)⟩
set_option maxHeartbeats 1000000 in
theorem hr_b (h : Hart) (h0 : (x0V h == 0) = true) (h1 : (bits .and .u64 h.pc 1 == 0) = false) (W : World) : Calls Try.prog 29 #[hartV h] W fun e W' => e = .returned (.bool (rightH h)) ∧ Below W.heap.size W W' := by
  have m_x0 := hartC_x0 h
  have m_pc : (hartC h)[32]? = some (.int .u64 h.pc) := hartC_tail h 0
  have m_held : (hartC h)[50]? = some (.bool h.held) := hartC_tail h 18
  have m_rat : (hartC h)[51]? = some (.int .u64 h.rat) := hartC_tail h 19
  have m_mode : (hartC h)[33]? = some (.int .i64 h.mode) := hartC_tail h 1
  have HE : RowKit.Hid (rightH h = false) := Lib.hid (by unfold rightH; simp [h0, h1])
  go_enter Try.func29, Try.ntmps29
  go_wp2_with (first | (with_reducible show wpList _ _ _ (⟨some 20, Op.load 25 (.tmp 19), 25, _, _, _⟩ :: _) _ _; refine wpList_load_wanted (by first | exact rfl | (simp [Region.wanted, yielded]; done) | (simp [Region.wanted, yielded, Act.put]; done)) rfl (Tr.Box.load_c (Tr.Box.new W h)) rfl ?_) | (go_at_call 40; (with_reducible refine (mode_any h.mode _).mono ?_); rintro e w1 ⟨he, rfl⟩; rw [hm] at he; subst he) | (go_at_call 41; (with_reducible refine (Cs.right_any h.c _).mono ?_); rintro e w1 ⟨he, k1⟩; rw [hr] at he; subst he; have m_w1_held : w1.cell? ⟨W.heap.size, 50, none⟩ = some (.bool h.held) := ((cell_of_row w1 W.heap.size 50 (hartC h) 27 (0, 0) ((Tr.Box.new W h).next k1)).trans (hartC_tail h 18)); have m_w1_rat : w1.cell? ⟨W.heap.size, 51, none⟩ = some (.int .u64 h.rat) := ((cell_of_row w1 W.heap.size 51 (hartC h) 27 (0, 0) ((Tr.Box.new W h).next k1)).trans (hartC_tail h 19))) | fail)
  all_goals go_ret
  all_goals exact ⟨ret_bool (HE.out.symm), (Below.refl _ _).alloc (Nat.le_refl _) (Tr.hartO h)⟩
set_option maxHeartbeats 1000000 in
theorem hr_c (h : Hart) (h0 : (x0V h == 0) = true) (h1 : (bits .and .u64 h.pc 1 == 0) = true) (hm : modeB h.mode = false) (W : World) : Calls Try.prog 29 #[hartV h] W fun e W' => e = .returned (.bool (rightH h)) ∧ Below W.heap.size W W' := by
  have m_x0 := hartC_x0 h
  have m_pc : (hartC h)[32]? = some (.int .u64 h.pc) := hartC_tail h 0
  have m_held : (hartC h)[50]? = some (.bool h.held) := hartC_tail h 18
  have m_rat : (hartC h)[51]? = some (.int .u64 h.rat) := hartC_tail h 19
  have m_mode : (hartC h)[33]? = some (.int .i64 h.mode) := hartC_tail h 1
  have HE : RowKit.Hid (rightH h = false) := Lib.hid (by unfold rightH; simp [h0, h1, hm])
  go_enter Try.func29, Try.ntmps29
  go_wp2_with (first | (with_reducible show wpList _ _ _ (⟨some 20, Op.load 25 (.tmp 19), 25, _, _, _⟩ :: _) _ _; refine wpList_load_wanted (by first | exact rfl | (simp [Region.wanted, yielded]; done) | (simp [Region.wanted, yielded, Act.put]; done)) rfl (Tr.Box.load_c (Tr.Box.new W h)) rfl ?_) | (go_at_call 40; (with_reducible refine (mode_any h.mode _).mono ?_); rintro e w1 ⟨he, rfl⟩; rw [hm] at he; subst he) | (go_at_call 41; (with_reducible refine (Cs.right_any h.c _).mono ?_); rintro e w1 ⟨he, k1⟩; rw [hr] at he; subst he; have m_w1_held : w1.cell? ⟨W.heap.size, 50, none⟩ = some (.bool h.held) := ((cell_of_row w1 W.heap.size 50 (hartC h) 27 (0, 0) ((Tr.Box.new W h).next k1)).trans (hartC_tail h 18)); have m_w1_rat : w1.cell? ⟨W.heap.size, 51, none⟩ = some (.int .u64 h.rat) := ((cell_of_row w1 W.heap.size 51 (hartC h) 27 (0, 0) ((Tr.Box.new W h).next k1)).trans (hartC_tail h 19))) | fail)
  all_goals go_ret
  all_goals exact ⟨ret_bool (HE.out.symm), (Below.refl _ _).alloc (Nat.le_refl _) (Tr.hartO h)⟩
set_option maxHeartbeats 1000000 in
theorem hr_d (h : Hart) (h0 : (x0V h == 0) = true) (h1 : (bits .and .u64 h.pc 1 == 0) = true) (hm : modeB h.mode = true) (hr : Cs.rightB h.c = false) (W : World) : Calls Try.prog 29 #[hartV h] W fun e W' => e = .returned (.bool (rightH h)) ∧ Below W.heap.size W W' := by
  have m_x0 := hartC_x0 h
  have m_pc : (hartC h)[32]? = some (.int .u64 h.pc) := hartC_tail h 0
  have m_held : (hartC h)[50]? = some (.bool h.held) := hartC_tail h 18
  have m_rat : (hartC h)[51]? = some (.int .u64 h.rat) := hartC_tail h 19
  have m_mode : (hartC h)[33]? = some (.int .i64 h.mode) := hartC_tail h 1
  have HE : RowKit.Hid (rightH h = false) := Lib.hid (by unfold rightH; simp [h0, h1, hm, hr])
  go_enter Try.func29, Try.ntmps29
  go_wp2_with (first | (with_reducible show wpList _ _ _ (⟨some 20, Op.load 25 (.tmp 19), 25, _, _, _⟩ :: _) _ _; refine wpList_load_wanted (by first | exact rfl | (simp [Region.wanted, yielded]; done) | (simp [Region.wanted, yielded, Act.put]; done)) rfl (Tr.Box.load_c (Tr.Box.new W h)) rfl ?_) | (go_at_call 40; (with_reducible refine (mode_any h.mode _).mono ?_); rintro e w1 ⟨he, rfl⟩; rw [hm] at he; subst he) | (go_at_call 41; (with_reducible refine (Cs.right_any h.c _).mono ?_); rintro e w1 ⟨he, k1⟩; rw [hr] at he; subst he; have m_w1_held : w1.cell? ⟨W.heap.size, 50, none⟩ = some (.bool h.held) := ((cell_of_row w1 W.heap.size 50 (hartC h) 27 (0, 0) ((Tr.Box.new W h).next k1)).trans (hartC_tail h 18)); have m_w1_rat : w1.cell? ⟨W.heap.size, 51, none⟩ = some (.int .u64 h.rat) := ((cell_of_row w1 W.heap.size 51 (hartC h) 27 (0, 0) ((Tr.Box.new W h).next k1)).trans (hartC_tail h 19))) | fail)
  all_goals go_ret
  all_goals exact ⟨ret_bool (HE.out.symm), below_then ((Below.refl _ _).alloc (Nat.le_refl _) (Tr.hartO h)) k1⟩
set_option maxHeartbeats 1000000 in
theorem hr_e (h : Hart) (h0 : (x0V h == 0) = true) (h1 : (bits .and .u64 h.pc 1 == 0) = true) (hm : modeB h.mode = true) (hr : Cs.rightB h.c = true) (hh : h.held = true) (W : World) : Calls Try.prog 29 #[hartV h] W fun e W' => e = .returned (.bool (rightH h)) ∧ Below W.heap.size W W' := by
  have m_x0 := hartC_x0 h
  have m_pc : (hartC h)[32]? = some (.int .u64 h.pc) := hartC_tail h 0
  have m_held : (hartC h)[50]? = some (.bool h.held) := hartC_tail h 18
  have m_rat : (hartC h)[51]? = some (.int .u64 h.rat) := hartC_tail h 19
  have m_mode : (hartC h)[33]? = some (.int .i64 h.mode) := hartC_tail h 1
  have HE : RowKit.Hid (rightH h = true) := Lib.hid (by unfold rightH; simp [h0, h1, hm, hr, hh])
  go_enter Try.func29, Try.ntmps29
  go_wp2_with (first | (with_reducible show wpList _ _ _ (⟨some 20, Op.load 25 (.tmp 19), 25, _, _, _⟩ :: _) _ _; refine wpList_load_wanted (by first | exact rfl | (simp [Region.wanted, yielded]; done) | (simp [Region.wanted, yielded, Act.put]; done)) rfl (Tr.Box.load_c (Tr.Box.new W h)) rfl ?_) | (go_at_call 40; (with_reducible refine (mode_any h.mode _).mono ?_); rintro e w1 ⟨he, rfl⟩; rw [hm] at he; subst he) | (go_at_call 41; (with_reducible refine (Cs.right_any h.c _).mono ?_); rintro e w1 ⟨he, k1⟩; rw [hr] at he; subst he; have m_w1_held : w1.cell? ⟨W.heap.size, 50, none⟩ = some (.bool h.held) := ((cell_of_row w1 W.heap.size 50 (hartC h) 27 (0, 0) ((Tr.Box.new W h).next k1)).trans (hartC_tail h 18)); have m_w1_rat : w1.cell? ⟨W.heap.size, 51, none⟩ = some (.int .u64 h.rat) := ((cell_of_row w1 W.heap.size 51 (hartC h) 27 (0, 0) ((Tr.Box.new W h).next k1)).trans (hartC_tail h 19))) | fail)
  all_goals go_ret
  all_goals exact ⟨ret_bool (HE.out.symm), below_then ((Below.refl _ _).alloc (Nat.le_refl _) (Tr.hartO h)) k1⟩
set_option maxHeartbeats 1000000 in
theorem hr_f (h : Hart) (h0 : (x0V h == 0) = true) (h1 : (bits .and .u64 h.pc 1 == 0) = true) (hm : modeB h.mode = true) (hr : Cs.rightB h.c = true) (hh : h.held = false) (ha : (h.rat == 0) = true) (W : World) : Calls Try.prog 29 #[hartV h] W fun e W' => e = .returned (.bool (rightH h)) ∧ Below W.heap.size W W' := by
  have m_x0 := hartC_x0 h
  have m_pc : (hartC h)[32]? = some (.int .u64 h.pc) := hartC_tail h 0
  have m_held : (hartC h)[50]? = some (.bool h.held) := hartC_tail h 18
  have m_rat : (hartC h)[51]? = some (.int .u64 h.rat) := hartC_tail h 19
  have m_mode : (hartC h)[33]? = some (.int .i64 h.mode) := hartC_tail h 1
  have HE : RowKit.Hid (rightH h = true) := Lib.hid (by unfold rightH; simp [h0, h1, hm, hr, hh, ha])
  go_enter Try.func29, Try.ntmps29
  go_wp2_with (first | (with_reducible show wpList _ _ _ (⟨some 20, Op.load 25 (.tmp 19), 25, _, _, _⟩ :: _) _ _; refine wpList_load_wanted (by first | exact rfl | (simp [Region.wanted, yielded]; done) | (simp [Region.wanted, yielded, Act.put]; done)) rfl (Tr.Box.load_c (Tr.Box.new W h)) rfl ?_) | (go_at_call 40; (with_reducible refine (mode_any h.mode _).mono ?_); rintro e w1 ⟨he, rfl⟩; rw [hm] at he; subst he) | (go_at_call 41; (with_reducible refine (Cs.right_any h.c _).mono ?_); rintro e w1 ⟨he, k1⟩; rw [hr] at he; subst he; have m_w1_held : w1.cell? ⟨W.heap.size, 50, none⟩ = some (.bool h.held) := ((cell_of_row w1 W.heap.size 50 (hartC h) 27 (0, 0) ((Tr.Box.new W h).next k1)).trans (hartC_tail h 18)); have m_w1_rat : w1.cell? ⟨W.heap.size, 51, none⟩ = some (.int .u64 h.rat) := ((cell_of_row w1 W.heap.size 51 (hartC h) 27 (0, 0) ((Tr.Box.new W h).next k1)).trans (hartC_tail h 19))) | fail)
  all_goals go_ret
  all_goals exact ⟨ret_bool (HE.out.symm), below_then ((Below.refl _ _).alloc (Nat.le_refl _) (Tr.hartO h)) k1⟩
set_option maxHeartbeats 1000000 in
theorem hr_g (h : Hart) (h0 : (x0V h == 0) = true) (h1 : (bits .and .u64 h.pc 1 == 0) = true) (hm : modeB h.mode = true) (hr : Cs.rightB h.c = true) (hh : h.held = false) (ha : (h.rat == 0) = false) (W : World) : Calls Try.prog 29 #[hartV h] W fun e W' => e = .returned (.bool (rightH h)) ∧ Below W.heap.size W W' := by
  have m_x0 := hartC_x0 h
  have m_pc : (hartC h)[32]? = some (.int .u64 h.pc) := hartC_tail h 0
  have m_held : (hartC h)[50]? = some (.bool h.held) := hartC_tail h 18
  have m_rat : (hartC h)[51]? = some (.int .u64 h.rat) := hartC_tail h 19
  have m_mode : (hartC h)[33]? = some (.int .i64 h.mode) := hartC_tail h 1
  have HE : RowKit.Hid (rightH h = false) := Lib.hid (by unfold rightH; simp [h0, h1, hm, hr, hh, ha])
  go_enter Try.func29, Try.ntmps29
  go_wp2_with (first | (with_reducible show wpList _ _ _ (⟨some 20, Op.load 25 (.tmp 19), 25, _, _, _⟩ :: _) _ _; refine wpList_load_wanted (by first | exact rfl | (simp [Region.wanted, yielded]; done) | (simp [Region.wanted, yielded, Act.put]; done)) rfl (Tr.Box.load_c (Tr.Box.new W h)) rfl ?_) | (go_at_call 40; (with_reducible refine (mode_any h.mode _).mono ?_); rintro e w1 ⟨he, rfl⟩; rw [hm] at he; subst he) | (go_at_call 41; (with_reducible refine (Cs.right_any h.c _).mono ?_); rintro e w1 ⟨he, k1⟩; rw [hr] at he; subst he; have m_w1_held : w1.cell? ⟨W.heap.size, 50, none⟩ = some (.bool h.held) := ((cell_of_row w1 W.heap.size 50 (hartC h) 27 (0, 0) ((Tr.Box.new W h).next k1)).trans (hartC_tail h 18)); have m_w1_rat : w1.cell? ⟨W.heap.size, 51, none⟩ = some (.int .u64 h.rat) := ((cell_of_row w1 W.heap.size 51 (hartC h) 27 (0, 0) ((Tr.Box.new W h).next k1)).trans (hartC_tail h 19))) | fail)
  all_goals go_ret
  all_goals exact ⟨ret_bool (HE.out.symm), below_then ((Below.refl _ _).alloc (Nat.le_refl _) (Tr.hartO h)) k1⟩
theorem hright_any (h : Hart) (W : World) : Calls Try.prog 29 #[hartV h] W fun e W' => e = .returned (.bool (rightH h)) ∧ Below W.heap.size W W' := by
  cases h0 : (x0V h == 0) with
  | false => exact hr_a h h0 W
  | true =>
  cases h1 : (bits .and .u64 h.pc 1 == 0) with
  | false => exact hr_b h h0 h1 W
  | true =>
  cases hm : modeB h.mode with
  | false => exact hr_c h h0 h1 hm W
  | true =>
  cases hr : Cs.rightB h.c with
  | false => exact hr_d h h0 h1 hm hr W
  | true =>
  cases hh : h.held with
  | true => exact hr_e h h0 h1 hm hr hh W
  | false =>
  cases ha : (h.rat == 0) with
  | true => exact hr_f h h0 h1 hm hr hh ha W
  | false => exact hr_g h h0 h1 hm hr hh ha W
end Go.Proofs.Ytgflnfmnjlmenaa
