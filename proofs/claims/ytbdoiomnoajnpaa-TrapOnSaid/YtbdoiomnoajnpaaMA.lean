/- A right processor, as the laws ask it. -/
import Derived.Test.YtbdoiomnoajnpaaG
import Derived.Test.YtbdoiomnoajnpaaNC
namespace Go.Proofs.Ytbdoiomnoajnpaa
open Go.RowKit Go.Deep Go.Joins
def x0V (h : Hart) : Int := h.x.headD 0
theorem hartC_x0 (h : Hart) : (hartC h)[0]? = some (.int .u64 (x0V h)) := by
  rw [hartC_x h 0 (by omega)]
  unfold xL x0V
  match h.x, h.hx with
  | a :: l, _ => rfl
def modeB (m : Int) : Bool := m == 0 || m == 1 || m == 3
def rightH (h : Hart) : Bool := x0V h == 0 && (bits .and .u64 h.pc 1 == 0) && modeB h.mode && rrightB h.c && (h.held || h.rat == 0)
set_option maxHeartbeats 1000000 in
theorem right_a (h : Hart) (h0 : (x0V h == 0) = false) (W : World) : Calls Try.prog 16 #[hartV h] W fun e W' => e = .returned (.bool (rightH h)) ∧ Below W.heap.size W W' := by
  have m_x0 := hartC_x0 h
  have m_pc : (hartC h)[32]? = some (.int .u64 h.pc) := hartC_tail h 0
  have m_held : (hartC h)[50]? = some (.bool h.held) := hartC_tail h 18
  have m_rat : (hartC h)[51]? = some (.int .u64 h.rat) := hartC_tail h 19
  have m_mode : (hartC h)[33]? = some (.int .i64 h.mode) := hartC_tail h 1
  have HE : RowKit.Hid (rightH h = false) := Lib.hid (by unfold rightH modeB; rw [h0]; rfl)
  go_enter Try.func16, Try.ntmps16
  go_wp2_with fail
  all_goals go_ret
  all_goals exact ⟨ret_bool (HE.out.symm), (Below.refl _ _).alloc (Nat.le_refl _) _⟩
set_option maxHeartbeats 1000000 in
theorem right_b (h : Hart) (h0 : (x0V h == 0) = true) (h1 : (bits .and .u64 h.pc 1 == 0) = false) (W : World) : Calls Try.prog 16 #[hartV h] W fun e W' => e = .returned (.bool (rightH h)) ∧ Below W.heap.size W W' := by
  have m_x0 := hartC_x0 h
  have m_pc : (hartC h)[32]? = some (.int .u64 h.pc) := hartC_tail h 0
  have m_held : (hartC h)[50]? = some (.bool h.held) := hartC_tail h 18
  have m_rat : (hartC h)[51]? = some (.int .u64 h.rat) := hartC_tail h 19
  have m_mode : (hartC h)[33]? = some (.int .i64 h.mode) := hartC_tail h 1
  have HE : RowKit.Hid (rightH h = false) := Lib.hid (by unfold rightH modeB; rw [h0, h1]; rfl)
  go_enter Try.func16, Try.ntmps16
  go_wp2_with fail
  all_goals go_ret
  all_goals exact ⟨ret_bool (HE.out.symm), (Below.refl _ _).alloc (Nat.le_refl _) _⟩
set_option maxHeartbeats 1000000 in
theorem right_c (h : Hart) (h0 : (x0V h == 0) = true) (h1 : (bits .and .u64 h.pc 1 == 0) = true) (n0 : (h.mode == 0) = false) (n1 : (h.mode == 1) = false) (n3 : (h.mode == 3) = false) (W : World) : Calls Try.prog 16 #[hartV h] W fun e W' => e = .returned (.bool (rightH h)) ∧ Below W.heap.size W W' := by
  have m_x0 := hartC_x0 h
  have m_pc : (hartC h)[32]? = some (.int .u64 h.pc) := hartC_tail h 0
  have m_held : (hartC h)[50]? = some (.bool h.held) := hartC_tail h 18
  have m_rat : (hartC h)[51]? = some (.int .u64 h.rat) := hartC_tail h 19
  have m_mode : (hartC h)[33]? = some (.int .i64 h.mode) := hartC_tail h 1
  have HE : RowKit.Hid (rightH h = false) := Lib.hid (by unfold rightH modeB; rw [h0, h1, n0, n1, n3]; rfl)
  go_enter Try.func16, Try.ntmps16
  go_wp2_with fail
  all_goals go_ret
  all_goals exact ⟨ret_bool (HE.out.symm), (Below.refl _ _).alloc (Nat.le_refl _) _⟩
set_option maxHeartbeats 1000000 in
theorem right_d0 (h : Hart) (h0 : (x0V h == 0) = true) (h1 : (bits .and .u64 h.pc 1 == 0) = true) (hm : h.mode = 0) (hr : rrightB h.c = false) (W : World) : Calls Try.prog 16 #[hartV h] W fun e W' => e = .returned (.bool (rightH h)) ∧ Below W.heap.size W W' := by
  have m_x0 := hartC_x0 h
  have m_pc : (hartC h)[32]? = some (.int .u64 h.pc) := hartC_tail h 0
  have m_held : (hartC h)[50]? = some (.bool h.held) := hartC_tail h 18
  have m_rat : (hartC h)[51]? = some (.int .u64 h.rat) := hartC_tail h 19
  have m_mode : (hartC h)[33]? = some (.int .i64 0) := (hartC_tail h 1).trans (by show some (Value.int .i64 h.mode) = _; rw [hm])
  have HE : RowKit.Hid (rightH h = false) := Lib.hid (by unfold rightH modeB; rw [h0, h1, hm, hr]; rfl)
  clear hm
  go_enter Try.func16, Try.ntmps16
  go_wp2_with (first | (with_reducible show wpList _ _ _ (⟨some 30, Op.load 25 (.tmp 29), 25, _, _, _⟩ :: _) _ _; refine wpList_load_wanted (by first | exact rfl | (simp [Region.wanted, yielded]; done) | (simp [Region.wanted, yielded, Act.put]; done)) rfl (Box.load_c (Box.new W h)) rfl ?_) | (go_at_call 30; (with_reducible refine (rright_any h.c _).mono ?_); rintro e w1 ⟨he, k1⟩; rw [hr] at he; subst he; have m_w1_held : w1.cell? ⟨W.heap.size, 50, none⟩ = some (.bool h.held) := ((Box.new W h).next k1).cell 18; have m_w1_rat : w1.cell? ⟨W.heap.size, 51, none⟩ = some (.int .u64 h.rat) := ((Box.new W h).next k1).cell 19) | fail)
  all_goals go_ret
  all_goals exact ⟨ret_bool (HE.out.symm), below_then ((Below.refl _ _).alloc (Nat.le_refl _) (hartO h)) (Nat.le_refl _) k1⟩
set_option maxHeartbeats 1000000 in
theorem right_e0 (h : Hart) (h0 : (x0V h == 0) = true) (h1 : (bits .and .u64 h.pc 1 == 0) = true) (hm : h.mode = 0) (hr : rrightB h.c = true) (hh : h.held = true) (W : World) : Calls Try.prog 16 #[hartV h] W fun e W' => e = .returned (.bool (rightH h)) ∧ Below W.heap.size W W' := by
  have m_x0 := hartC_x0 h
  have m_pc : (hartC h)[32]? = some (.int .u64 h.pc) := hartC_tail h 0
  have m_held : (hartC h)[50]? = some (.bool h.held) := hartC_tail h 18
  have m_rat : (hartC h)[51]? = some (.int .u64 h.rat) := hartC_tail h 19
  have m_mode : (hartC h)[33]? = some (.int .i64 0) := (hartC_tail h 1).trans (by show some (Value.int .i64 h.mode) = _; rw [hm])
  have HE : RowKit.Hid (rightH h = true) := Lib.hid (by unfold rightH modeB; rw [h0, h1, hm, hr, hh]; rfl)
  clear hm
  go_enter Try.func16, Try.ntmps16
  go_wp2_with (first | (with_reducible show wpList _ _ _ (⟨some 30, Op.load 25 (.tmp 29), 25, _, _, _⟩ :: _) _ _; refine wpList_load_wanted (by first | exact rfl | (simp [Region.wanted, yielded]; done) | (simp [Region.wanted, yielded, Act.put]; done)) rfl (Box.load_c (Box.new W h)) rfl ?_) | (go_at_call 30; (with_reducible refine (rright_any h.c _).mono ?_); rintro e w1 ⟨he, k1⟩; rw [hr] at he; subst he; have m_w1_held : w1.cell? ⟨W.heap.size, 50, none⟩ = some (.bool h.held) := ((Box.new W h).next k1).cell 18; have m_w1_rat : w1.cell? ⟨W.heap.size, 51, none⟩ = some (.int .u64 h.rat) := ((Box.new W h).next k1).cell 19) | fail)
  all_goals go_ret
  all_goals exact ⟨ret_bool (HE.out.symm), below_then ((Below.refl _ _).alloc (Nat.le_refl _) (hartO h)) (Nat.le_refl _) k1⟩
set_option maxHeartbeats 1000000 in
theorem right_f0 (h : Hart) (h0 : (x0V h == 0) = true) (h1 : (bits .and .u64 h.pc 1 == 0) = true) (hm : h.mode = 0) (hr : rrightB h.c = true) (hh : h.held = false) (ha : (h.rat == 0) = true) (W : World) : Calls Try.prog 16 #[hartV h] W fun e W' => e = .returned (.bool (rightH h)) ∧ Below W.heap.size W W' := by
  have m_x0 := hartC_x0 h
  have m_pc : (hartC h)[32]? = some (.int .u64 h.pc) := hartC_tail h 0
  have m_held : (hartC h)[50]? = some (.bool h.held) := hartC_tail h 18
  have m_rat : (hartC h)[51]? = some (.int .u64 h.rat) := hartC_tail h 19
  have m_mode : (hartC h)[33]? = some (.int .i64 0) := (hartC_tail h 1).trans (by show some (Value.int .i64 h.mode) = _; rw [hm])
  have HE : RowKit.Hid (rightH h = true) := Lib.hid (by unfold rightH modeB; rw [h0, h1, hm, hr, hh, ha]; rfl)
  clear hm
  go_enter Try.func16, Try.ntmps16
  go_wp2_with (first | (with_reducible show wpList _ _ _ (⟨some 30, Op.load 25 (.tmp 29), 25, _, _, _⟩ :: _) _ _; refine wpList_load_wanted (by first | exact rfl | (simp [Region.wanted, yielded]; done) | (simp [Region.wanted, yielded, Act.put]; done)) rfl (Box.load_c (Box.new W h)) rfl ?_) | (go_at_call 30; (with_reducible refine (rright_any h.c _).mono ?_); rintro e w1 ⟨he, k1⟩; rw [hr] at he; subst he; have m_w1_held : w1.cell? ⟨W.heap.size, 50, none⟩ = some (.bool h.held) := ((Box.new W h).next k1).cell 18; have m_w1_rat : w1.cell? ⟨W.heap.size, 51, none⟩ = some (.int .u64 h.rat) := ((Box.new W h).next k1).cell 19) | fail)
  all_goals go_ret
  all_goals exact ⟨ret_bool (HE.out.symm), below_then ((Below.refl _ _).alloc (Nat.le_refl _) (hartO h)) (Nat.le_refl _) k1⟩
set_option maxHeartbeats 1000000 in
theorem right_g0 (h : Hart) (h0 : (x0V h == 0) = true) (h1 : (bits .and .u64 h.pc 1 == 0) = true) (hm : h.mode = 0) (hr : rrightB h.c = true) (hh : h.held = false) (ha : (h.rat == 0) = false) (W : World) : Calls Try.prog 16 #[hartV h] W fun e W' => e = .returned (.bool (rightH h)) ∧ Below W.heap.size W W' := by
  have m_x0 := hartC_x0 h
  have m_pc : (hartC h)[32]? = some (.int .u64 h.pc) := hartC_tail h 0
  have m_held : (hartC h)[50]? = some (.bool h.held) := hartC_tail h 18
  have m_rat : (hartC h)[51]? = some (.int .u64 h.rat) := hartC_tail h 19
  have m_mode : (hartC h)[33]? = some (.int .i64 0) := (hartC_tail h 1).trans (by show some (Value.int .i64 h.mode) = _; rw [hm])
  have HE : RowKit.Hid (rightH h = false) := Lib.hid (by unfold rightH modeB; rw [h0, h1, hm, hr, hh, ha]; rfl)
  clear hm
  go_enter Try.func16, Try.ntmps16
  go_wp2_with (first | (with_reducible show wpList _ _ _ (⟨some 30, Op.load 25 (.tmp 29), 25, _, _, _⟩ :: _) _ _; refine wpList_load_wanted (by first | exact rfl | (simp [Region.wanted, yielded]; done) | (simp [Region.wanted, yielded, Act.put]; done)) rfl (Box.load_c (Box.new W h)) rfl ?_) | (go_at_call 30; (with_reducible refine (rright_any h.c _).mono ?_); rintro e w1 ⟨he, k1⟩; rw [hr] at he; subst he; have m_w1_held : w1.cell? ⟨W.heap.size, 50, none⟩ = some (.bool h.held) := ((Box.new W h).next k1).cell 18; have m_w1_rat : w1.cell? ⟨W.heap.size, 51, none⟩ = some (.int .u64 h.rat) := ((Box.new W h).next k1).cell 19) | fail)
  all_goals go_ret
  all_goals exact ⟨ret_bool (HE.out.symm), below_then ((Below.refl _ _).alloc (Nat.le_refl _) (hartO h)) (Nat.le_refl _) k1⟩
set_option maxHeartbeats 1000000 in
theorem right_d1 (h : Hart) (h0 : (x0V h == 0) = true) (h1 : (bits .and .u64 h.pc 1 == 0) = true) (hm : h.mode = 1) (hr : rrightB h.c = false) (W : World) : Calls Try.prog 16 #[hartV h] W fun e W' => e = .returned (.bool (rightH h)) ∧ Below W.heap.size W W' := by
  have m_x0 := hartC_x0 h
  have m_pc : (hartC h)[32]? = some (.int .u64 h.pc) := hartC_tail h 0
  have m_held : (hartC h)[50]? = some (.bool h.held) := hartC_tail h 18
  have m_rat : (hartC h)[51]? = some (.int .u64 h.rat) := hartC_tail h 19
  have m_mode : (hartC h)[33]? = some (.int .i64 1) := (hartC_tail h 1).trans (by show some (Value.int .i64 h.mode) = _; rw [hm])
  have HE : RowKit.Hid (rightH h = false) := Lib.hid (by unfold rightH modeB; rw [h0, h1, hm, hr]; rfl)
  clear hm
  go_enter Try.func16, Try.ntmps16
  go_wp2_with (first | (with_reducible show wpList _ _ _ (⟨some 30, Op.load 25 (.tmp 29), 25, _, _, _⟩ :: _) _ _; refine wpList_load_wanted (by first | exact rfl | (simp [Region.wanted, yielded]; done) | (simp [Region.wanted, yielded, Act.put]; done)) rfl (Box.load_c (Box.new W h)) rfl ?_) | (go_at_call 30; (with_reducible refine (rright_any h.c _).mono ?_); rintro e w1 ⟨he, k1⟩; rw [hr] at he; subst he; have m_w1_held : w1.cell? ⟨W.heap.size, 50, none⟩ = some (.bool h.held) := ((Box.new W h).next k1).cell 18; have m_w1_rat : w1.cell? ⟨W.heap.size, 51, none⟩ = some (.int .u64 h.rat) := ((Box.new W h).next k1).cell 19) | fail)
  all_goals go_ret
  all_goals exact ⟨ret_bool (HE.out.symm), below_then ((Below.refl _ _).alloc (Nat.le_refl _) (hartO h)) (Nat.le_refl _) k1⟩
set_option maxHeartbeats 1000000 in
theorem right_e1 (h : Hart) (h0 : (x0V h == 0) = true) (h1 : (bits .and .u64 h.pc 1 == 0) = true) (hm : h.mode = 1) (hr : rrightB h.c = true) (hh : h.held = true) (W : World) : Calls Try.prog 16 #[hartV h] W fun e W' => e = .returned (.bool (rightH h)) ∧ Below W.heap.size W W' := by
  have m_x0 := hartC_x0 h
  have m_pc : (hartC h)[32]? = some (.int .u64 h.pc) := hartC_tail h 0
  have m_held : (hartC h)[50]? = some (.bool h.held) := hartC_tail h 18
  have m_rat : (hartC h)[51]? = some (.int .u64 h.rat) := hartC_tail h 19
  have m_mode : (hartC h)[33]? = some (.int .i64 1) := (hartC_tail h 1).trans (by show some (Value.int .i64 h.mode) = _; rw [hm])
  have HE : RowKit.Hid (rightH h = true) := Lib.hid (by unfold rightH modeB; rw [h0, h1, hm, hr, hh]; rfl)
  clear hm
  go_enter Try.func16, Try.ntmps16
  go_wp2_with (first | (with_reducible show wpList _ _ _ (⟨some 30, Op.load 25 (.tmp 29), 25, _, _, _⟩ :: _) _ _; refine wpList_load_wanted (by first | exact rfl | (simp [Region.wanted, yielded]; done) | (simp [Region.wanted, yielded, Act.put]; done)) rfl (Box.load_c (Box.new W h)) rfl ?_) | (go_at_call 30; (with_reducible refine (rright_any h.c _).mono ?_); rintro e w1 ⟨he, k1⟩; rw [hr] at he; subst he; have m_w1_held : w1.cell? ⟨W.heap.size, 50, none⟩ = some (.bool h.held) := ((Box.new W h).next k1).cell 18; have m_w1_rat : w1.cell? ⟨W.heap.size, 51, none⟩ = some (.int .u64 h.rat) := ((Box.new W h).next k1).cell 19) | fail)
  all_goals go_ret
  all_goals exact ⟨ret_bool (HE.out.symm), below_then ((Below.refl _ _).alloc (Nat.le_refl _) (hartO h)) (Nat.le_refl _) k1⟩
set_option maxHeartbeats 1000000 in
theorem right_f1 (h : Hart) (h0 : (x0V h == 0) = true) (h1 : (bits .and .u64 h.pc 1 == 0) = true) (hm : h.mode = 1) (hr : rrightB h.c = true) (hh : h.held = false) (ha : (h.rat == 0) = true) (W : World) : Calls Try.prog 16 #[hartV h] W fun e W' => e = .returned (.bool (rightH h)) ∧ Below W.heap.size W W' := by
  have m_x0 := hartC_x0 h
  have m_pc : (hartC h)[32]? = some (.int .u64 h.pc) := hartC_tail h 0
  have m_held : (hartC h)[50]? = some (.bool h.held) := hartC_tail h 18
  have m_rat : (hartC h)[51]? = some (.int .u64 h.rat) := hartC_tail h 19
  have m_mode : (hartC h)[33]? = some (.int .i64 1) := (hartC_tail h 1).trans (by show some (Value.int .i64 h.mode) = _; rw [hm])
  have HE : RowKit.Hid (rightH h = true) := Lib.hid (by unfold rightH modeB; rw [h0, h1, hm, hr, hh, ha]; rfl)
  clear hm
  go_enter Try.func16, Try.ntmps16
  go_wp2_with (first | (with_reducible show wpList _ _ _ (⟨some 30, Op.load 25 (.tmp 29), 25, _, _, _⟩ :: _) _ _; refine wpList_load_wanted (by first | exact rfl | (simp [Region.wanted, yielded]; done) | (simp [Region.wanted, yielded, Act.put]; done)) rfl (Box.load_c (Box.new W h)) rfl ?_) | (go_at_call 30; (with_reducible refine (rright_any h.c _).mono ?_); rintro e w1 ⟨he, k1⟩; rw [hr] at he; subst he; have m_w1_held : w1.cell? ⟨W.heap.size, 50, none⟩ = some (.bool h.held) := ((Box.new W h).next k1).cell 18; have m_w1_rat : w1.cell? ⟨W.heap.size, 51, none⟩ = some (.int .u64 h.rat) := ((Box.new W h).next k1).cell 19) | fail)
  all_goals go_ret
  all_goals exact ⟨ret_bool (HE.out.symm), below_then ((Below.refl _ _).alloc (Nat.le_refl _) (hartO h)) (Nat.le_refl _) k1⟩
set_option maxHeartbeats 1000000 in
theorem right_g1 (h : Hart) (h0 : (x0V h == 0) = true) (h1 : (bits .and .u64 h.pc 1 == 0) = true) (hm : h.mode = 1) (hr : rrightB h.c = true) (hh : h.held = false) (ha : (h.rat == 0) = false) (W : World) : Calls Try.prog 16 #[hartV h] W fun e W' => e = .returned (.bool (rightH h)) ∧ Below W.heap.size W W' := by
  have m_x0 := hartC_x0 h
  have m_pc : (hartC h)[32]? = some (.int .u64 h.pc) := hartC_tail h 0
  have m_held : (hartC h)[50]? = some (.bool h.held) := hartC_tail h 18
  have m_rat : (hartC h)[51]? = some (.int .u64 h.rat) := hartC_tail h 19
  have m_mode : (hartC h)[33]? = some (.int .i64 1) := (hartC_tail h 1).trans (by show some (Value.int .i64 h.mode) = _; rw [hm])
  have HE : RowKit.Hid (rightH h = false) := Lib.hid (by unfold rightH modeB; rw [h0, h1, hm, hr, hh, ha]; rfl)
  clear hm
  go_enter Try.func16, Try.ntmps16
  go_wp2_with (first | (with_reducible show wpList _ _ _ (⟨some 30, Op.load 25 (.tmp 29), 25, _, _, _⟩ :: _) _ _; refine wpList_load_wanted (by first | exact rfl | (simp [Region.wanted, yielded]; done) | (simp [Region.wanted, yielded, Act.put]; done)) rfl (Box.load_c (Box.new W h)) rfl ?_) | (go_at_call 30; (with_reducible refine (rright_any h.c _).mono ?_); rintro e w1 ⟨he, k1⟩; rw [hr] at he; subst he; have m_w1_held : w1.cell? ⟨W.heap.size, 50, none⟩ = some (.bool h.held) := ((Box.new W h).next k1).cell 18; have m_w1_rat : w1.cell? ⟨W.heap.size, 51, none⟩ = some (.int .u64 h.rat) := ((Box.new W h).next k1).cell 19) | fail)
  all_goals go_ret
  all_goals exact ⟨ret_bool (HE.out.symm), below_then ((Below.refl _ _).alloc (Nat.le_refl _) (hartO h)) (Nat.le_refl _) k1⟩
set_option maxHeartbeats 1000000 in
theorem right_d3 (h : Hart) (h0 : (x0V h == 0) = true) (h1 : (bits .and .u64 h.pc 1 == 0) = true) (hm : h.mode = 3) (hr : rrightB h.c = false) (W : World) : Calls Try.prog 16 #[hartV h] W fun e W' => e = .returned (.bool (rightH h)) ∧ Below W.heap.size W W' := by
  have m_x0 := hartC_x0 h
  have m_pc : (hartC h)[32]? = some (.int .u64 h.pc) := hartC_tail h 0
  have m_held : (hartC h)[50]? = some (.bool h.held) := hartC_tail h 18
  have m_rat : (hartC h)[51]? = some (.int .u64 h.rat) := hartC_tail h 19
  have m_mode : (hartC h)[33]? = some (.int .i64 3) := (hartC_tail h 1).trans (by show some (Value.int .i64 h.mode) = _; rw [hm])
  have HE : RowKit.Hid (rightH h = false) := Lib.hid (by unfold rightH modeB; rw [h0, h1, hm, hr]; rfl)
  clear hm
  go_enter Try.func16, Try.ntmps16
  go_wp2_with (first | (with_reducible show wpList _ _ _ (⟨some 30, Op.load 25 (.tmp 29), 25, _, _, _⟩ :: _) _ _; refine wpList_load_wanted (by first | exact rfl | (simp [Region.wanted, yielded]; done) | (simp [Region.wanted, yielded, Act.put]; done)) rfl (Box.load_c (Box.new W h)) rfl ?_) | (go_at_call 30; (with_reducible refine (rright_any h.c _).mono ?_); rintro e w1 ⟨he, k1⟩; rw [hr] at he; subst he; have m_w1_held : w1.cell? ⟨W.heap.size, 50, none⟩ = some (.bool h.held) := ((Box.new W h).next k1).cell 18; have m_w1_rat : w1.cell? ⟨W.heap.size, 51, none⟩ = some (.int .u64 h.rat) := ((Box.new W h).next k1).cell 19) | fail)
  all_goals go_ret
  all_goals exact ⟨ret_bool (HE.out.symm), below_then ((Below.refl _ _).alloc (Nat.le_refl _) (hartO h)) (Nat.le_refl _) k1⟩
set_option maxHeartbeats 1000000 in
theorem right_e3 (h : Hart) (h0 : (x0V h == 0) = true) (h1 : (bits .and .u64 h.pc 1 == 0) = true) (hm : h.mode = 3) (hr : rrightB h.c = true) (hh : h.held = true) (W : World) : Calls Try.prog 16 #[hartV h] W fun e W' => e = .returned (.bool (rightH h)) ∧ Below W.heap.size W W' := by
  have m_x0 := hartC_x0 h
  have m_pc : (hartC h)[32]? = some (.int .u64 h.pc) := hartC_tail h 0
  have m_held : (hartC h)[50]? = some (.bool h.held) := hartC_tail h 18
  have m_rat : (hartC h)[51]? = some (.int .u64 h.rat) := hartC_tail h 19
  have m_mode : (hartC h)[33]? = some (.int .i64 3) := (hartC_tail h 1).trans (by show some (Value.int .i64 h.mode) = _; rw [hm])
  have HE : RowKit.Hid (rightH h = true) := Lib.hid (by unfold rightH modeB; rw [h0, h1, hm, hr, hh]; rfl)
  clear hm
  go_enter Try.func16, Try.ntmps16
  go_wp2_with (first | (with_reducible show wpList _ _ _ (⟨some 30, Op.load 25 (.tmp 29), 25, _, _, _⟩ :: _) _ _; refine wpList_load_wanted (by first | exact rfl | (simp [Region.wanted, yielded]; done) | (simp [Region.wanted, yielded, Act.put]; done)) rfl (Box.load_c (Box.new W h)) rfl ?_) | (go_at_call 30; (with_reducible refine (rright_any h.c _).mono ?_); rintro e w1 ⟨he, k1⟩; rw [hr] at he; subst he; have m_w1_held : w1.cell? ⟨W.heap.size, 50, none⟩ = some (.bool h.held) := ((Box.new W h).next k1).cell 18; have m_w1_rat : w1.cell? ⟨W.heap.size, 51, none⟩ = some (.int .u64 h.rat) := ((Box.new W h).next k1).cell 19) | fail)
  all_goals go_ret
  all_goals exact ⟨ret_bool (HE.out.symm), below_then ((Below.refl _ _).alloc (Nat.le_refl _) (hartO h)) (Nat.le_refl _) k1⟩
set_option maxHeartbeats 1000000 in
theorem right_f3 (h : Hart) (h0 : (x0V h == 0) = true) (h1 : (bits .and .u64 h.pc 1 == 0) = true) (hm : h.mode = 3) (hr : rrightB h.c = true) (hh : h.held = false) (ha : (h.rat == 0) = true) (W : World) : Calls Try.prog 16 #[hartV h] W fun e W' => e = .returned (.bool (rightH h)) ∧ Below W.heap.size W W' := by
  have m_x0 := hartC_x0 h
  have m_pc : (hartC h)[32]? = some (.int .u64 h.pc) := hartC_tail h 0
  have m_held : (hartC h)[50]? = some (.bool h.held) := hartC_tail h 18
  have m_rat : (hartC h)[51]? = some (.int .u64 h.rat) := hartC_tail h 19
  have m_mode : (hartC h)[33]? = some (.int .i64 3) := (hartC_tail h 1).trans (by show some (Value.int .i64 h.mode) = _; rw [hm])
  have HE : RowKit.Hid (rightH h = true) := Lib.hid (by unfold rightH modeB; rw [h0, h1, hm, hr, hh, ha]; rfl)
  clear hm
  go_enter Try.func16, Try.ntmps16
  go_wp2_with (first | (with_reducible show wpList _ _ _ (⟨some 30, Op.load 25 (.tmp 29), 25, _, _, _⟩ :: _) _ _; refine wpList_load_wanted (by first | exact rfl | (simp [Region.wanted, yielded]; done) | (simp [Region.wanted, yielded, Act.put]; done)) rfl (Box.load_c (Box.new W h)) rfl ?_) | (go_at_call 30; (with_reducible refine (rright_any h.c _).mono ?_); rintro e w1 ⟨he, k1⟩; rw [hr] at he; subst he; have m_w1_held : w1.cell? ⟨W.heap.size, 50, none⟩ = some (.bool h.held) := ((Box.new W h).next k1).cell 18; have m_w1_rat : w1.cell? ⟨W.heap.size, 51, none⟩ = some (.int .u64 h.rat) := ((Box.new W h).next k1).cell 19) | fail)
  all_goals go_ret
  all_goals exact ⟨ret_bool (HE.out.symm), below_then ((Below.refl _ _).alloc (Nat.le_refl _) (hartO h)) (Nat.le_refl _) k1⟩
set_option maxHeartbeats 1000000 in
theorem right_g3 (h : Hart) (h0 : (x0V h == 0) = true) (h1 : (bits .and .u64 h.pc 1 == 0) = true) (hm : h.mode = 3) (hr : rrightB h.c = true) (hh : h.held = false) (ha : (h.rat == 0) = false) (W : World) : Calls Try.prog 16 #[hartV h] W fun e W' => e = .returned (.bool (rightH h)) ∧ Below W.heap.size W W' := by
  have m_x0 := hartC_x0 h
  have m_pc : (hartC h)[32]? = some (.int .u64 h.pc) := hartC_tail h 0
  have m_held : (hartC h)[50]? = some (.bool h.held) := hartC_tail h 18
  have m_rat : (hartC h)[51]? = some (.int .u64 h.rat) := hartC_tail h 19
  have m_mode : (hartC h)[33]? = some (.int .i64 3) := (hartC_tail h 1).trans (by show some (Value.int .i64 h.mode) = _; rw [hm])
  have HE : RowKit.Hid (rightH h = false) := Lib.hid (by unfold rightH modeB; rw [h0, h1, hm, hr, hh, ha]; rfl)
  clear hm
  go_enter Try.func16, Try.ntmps16
  go_wp2_with (first | (with_reducible show wpList _ _ _ (⟨some 30, Op.load 25 (.tmp 29), 25, _, _, _⟩ :: _) _ _; refine wpList_load_wanted (by first | exact rfl | (simp [Region.wanted, yielded]; done) | (simp [Region.wanted, yielded, Act.put]; done)) rfl (Box.load_c (Box.new W h)) rfl ?_) | (go_at_call 30; (with_reducible refine (rright_any h.c _).mono ?_); rintro e w1 ⟨he, k1⟩; rw [hr] at he; subst he; have m_w1_held : w1.cell? ⟨W.heap.size, 50, none⟩ = some (.bool h.held) := ((Box.new W h).next k1).cell 18; have m_w1_rat : w1.cell? ⟨W.heap.size, 51, none⟩ = some (.int .u64 h.rat) := ((Box.new W h).next k1).cell 19) | fail)
  all_goals go_ret
  all_goals exact ⟨ret_bool (HE.out.symm), below_then ((Below.refl _ _).alloc (Nat.le_refl _) (hartO h)) (Nat.le_refl _) k1⟩
theorem right_any (h : Hart) (W : World) : Calls Try.prog 16 #[hartV h] W fun e W' => e = .returned (.bool (rightH h)) ∧ Below W.heap.size W W' := by
  rcases Bool.eq_false_or_eq_true (x0V h == 0) with h0 | h0
  rotate_left
  · exact right_a h h0 W
  rcases Bool.eq_false_or_eq_true (bits .and .u64 h.pc 1 == 0) with h1 | h1
  rotate_left
  · exact right_b h h0 h1 W
  by_cases m0 : h.mode = 0
  · have hm := m0
    rcases Bool.eq_false_or_eq_true (rrightB h.c) with hr | hr
    rotate_left
    · exact right_d0 h h0 h1 hm hr W
    rcases Bool.eq_false_or_eq_true h.held with hh | hh
    · exact right_e0 h h0 h1 hm hr hh W
    rcases Bool.eq_false_or_eq_true (h.rat == 0) with ha | ha
    · exact right_f0 h h0 h1 hm hr hh ha W
    · exact right_g0 h h0 h1 hm hr hh ha W
  by_cases m1 : h.mode = 1
  · have hm := m1
    rcases Bool.eq_false_or_eq_true (rrightB h.c) with hr | hr
    rotate_left
    · exact right_d1 h h0 h1 hm hr W
    rcases Bool.eq_false_or_eq_true h.held with hh | hh
    · exact right_e1 h h0 h1 hm hr hh W
    rcases Bool.eq_false_or_eq_true (h.rat == 0) with ha | ha
    · exact right_f1 h h0 h1 hm hr hh ha W
    · exact right_g1 h h0 h1 hm hr hh ha W
  by_cases m3 : h.mode = 3
  · have hm := m3
    rcases Bool.eq_false_or_eq_true (rrightB h.c) with hr | hr
    rotate_left
    · exact right_d3 h h0 h1 hm hr W
    rcases Bool.eq_false_or_eq_true h.held with hh | hh
    · exact right_e3 h h0 h1 hm hr hh W
    rcases Bool.eq_false_or_eq_true (h.rat == 0) with ha | ha
    · exact right_f3 h h0 h1 hm hr hh ha W
    · exact right_g3 h h0 h1 hm hr hh ha W
  exact right_c h h0 h1 (by simp [m0]) (by simp [m1]) (by simp [m3]) W

end Go.Proofs.Ytbdoiomnoajnpaa
