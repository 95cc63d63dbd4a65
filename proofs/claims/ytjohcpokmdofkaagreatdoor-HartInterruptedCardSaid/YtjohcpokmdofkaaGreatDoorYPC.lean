/- Best of the program. -/
import Derived.Test.YtjohcpokmdofkaaGreatDoorYPQ
namespace Go.Proofs.YtjohcpokmdofkaaGreatDoor.Pc
open Go.RowKit Go.Deep Go.Joins
theorem zero_and (x : Int) : bits .and .u32 x 0 = 0 := by
  apply bit_ext _ _ (u32_and _ _) u32_zero
  intro i _
  rw [bit_and, bit_zero]
  simp
/-- One source more: is it the best? -/
def stepB (m : Bool) (k q : Int) (x : Int × Int) : Int × Int := if (m && decide (x.2 < q)) = true then (k, q) else x
def onB (h : Pl) (s e : Int) (k : Nat) : Bool := bitT (bits .and .u32 (waitV s h.c) e) k
/-- The best of the first sources. -/
def stB (h : Pl) (s e l : Int) : Nat → Int × Int
  | 0 => (0, l)
  | 1 => (0, l)
  | 2 => stepB (onB h s e 1) 1 h.p1 (0, l)
  | 3 => stepB (onB h s e 2) 2 h.p2 (stepB (onB h s e 1) 1 h.p1 (0, l))
  | _ => stepB (onB h s e 3) 3 h.p3 (stepB (onB h s e 2) 2 h.p2 (stepB (onB h s e 1) 1 h.p1 (0, l)))
theorem stepB_take (m : Bool) (k q b t : Int) (hm : m = true) (h : t < q) : stepB m k q (b, t) = (k, q) := by unfold stepB; simp [hm, h]
theorem stepB_off (m : Bool) (k q b t : Int) (hm : m = false) : stepB m k q (b, t) = (b, t) := by unfold stepB; simp [hm]
theorem stepB_low (m : Bool) (k q b t : Int) (h : ¬ t < q) : stepB m k q (b, t) = (b, t) := by unfold stepB; simp [h]
/-- The source that interrupts. -/
def bestF (h : Pl) (s who : Int) : Int := if who = 0 then (stB h s h.e0 h.l0 4).1 else if who = 1 then (stB h s h.e1 h.l1 4).1 else 0
set_option maxRecDepth 100000 in
set_option maxHeartbeats 1000000 in
theorem best_0 (h : Pl) (s : Int) (W : World) : Calls Tryz.prog 59 #[plV h, .int .u32 s, .int .i64 0] W fun e W' => e = .returned (.int .i64 (stB h s h.e0 h.l0 4).1) ∧ Below W.heap.size W W' := by
  have a1 := Lib.hid (has_and (bits .and .u32 (waitV s h.c) h.e0) 1 (by omega))
  have a2 := Lib.hid (has_and (bits .and .u32 (waitV s h.c) h.e0) 2 (by omega))
  have a3 := Lib.hid (has_and (bits .and .u32 (waitV s h.c) h.e0) 3 (by omega))
  have i0 : ∀ w : World, (Instr.index 30 (.agg #[.int .u32 h.p0, .int .u32 h.p1, .int .u32 h.p2, .int .u32 h.p3]) (.int .i64 0)).run Tryz.prog w = .ok (.int .u32 h.p0) w := fun _ => by kernel_rfl
  have i1 : ∀ w : World, (Instr.index 30 (.agg #[.int .u32 h.p0, .int .u32 h.p1, .int .u32 h.p2, .int .u32 h.p3]) (.int .i64 1)).run Tryz.prog w = .ok (.int .u32 h.p1) w := fun _ => by kernel_rfl
  have i2 : ∀ w : World, (Instr.index 30 (.agg #[.int .u32 h.p0, .int .u32 h.p1, .int .u32 h.p2, .int .u32 h.p3]) (.int .i64 2)).run Tryz.prog w = .ok (.int .u32 h.p2) w := fun _ => by kernel_rfl
  have i3 : ∀ w : World, (Instr.index 30 (.agg #[.int .u32 h.p0, .int .u32 h.p1, .int .u32 h.p2, .int .u32 h.p3]) (.int .i64 3)).run Tryz.prog w = .ok (.int .u32 h.p3) w := fun _ => by kernel_rfl
  go_enter Tryz.func59, Tryz.ntmps59
  go_upto_region 3 with (fail)
  have X0 := Lib.hid (Box.new W h)
  have B0 := Lib.hid (show Below W.heap.size W (W.alloc (plO h)) from (Below.refl _ _).alloc (Nat.le_refl _) _)
  generalize W.alloc (plO h) = w0 at *
  have hne : Nonempty (Near w0) := ⟨⟨w0, Below.refl _ _⟩⟩
  refine wp_region_near (by kernel_rfl) (by kernel_rfl) ?_
  repeat (first | (go_big_quiet_want; (with_reducible refine quiet_by _ (fun w hw => exec_load (t := 33) rfl (near_load X0.out w hw) rfl) ?_); simp only [Act.put, List.setIfInBounds_toArray, List.set_cons_zero, List.set_cons_succ]; go_big_quiet_on) | (go_big_quiet_want; (with_reducible refine quiet_by _ (fun w hw => exec_load (t := 29) rfl (near_e0 X0.out w hw) rfl) ?_); simp only [Act.put, List.setIfInBounds_toArray, List.set_cons_zero, List.set_cons_succ]; go_big_quiet_on) | go_big_quiet_step (first | (go_at_call 87; exact near_call (wait_any h s _)) | fail))
  refine wpQuiet_nil ?_
  rintro _ ⟨pn, rfl⟩
  have X1 := Lib.hid (X0.out.next pn.near)
  have B1 := Lib.hid (below_then B0.out (Nat.le_refl _) pn.near)
  clear X0 B0 hne
  generalize pn.wx = w1 at *
  go_upto_region 4 with (fail)
  have hne : Nonempty (Near w1) := ⟨⟨w1, Below.refl _ _⟩⟩
  refine wp_region_near (by kernel_rfl) (by kernel_rfl) ?_
  repeat (first | (go_big_quiet_want; (with_reducible refine quiet_by _ (fun w hw => exec_load (t := 29) rfl (near_l0 X1.out w hw) rfl) ?_); simp only [Act.put, List.setIfInBounds_toArray, List.set_cons_zero, List.set_cons_succ]; go_big_quiet_on) | go_big_quiet_step (first | fail | fail))
  refine wpQuiet_nil ?_
  rintro _ ⟨pn, rfl⟩
  have X2 := Lib.hid (X1.out.next pn.near)
  have B2 := Lib.hid (below_then B1.out (by have := B1.out.size; omega) pn.near)
  clear X1 B1 hne
  generalize pn.wx = w2 at *
  go_wp2_with (first | (with_reducible refine wpList_load_by rfl rfl (Box.load_prio X2.out) rfl ?_) | fail)
  go_loopw [8, 9, 32] (fun b t i wr => ∃ (k : Nat) (x : Int × Int), k ≤ 4 ∧ i = .int .i64 k ∧ b = .int .i64 x.1 ∧ t = .int .u32 x.2 ∧ RowKit.Hid (stB h s h.e0 h.l0 k = x) ∧ RowKit.Hid (w2 = wr)) (fun _ _ i _ => 4 - (intOf i).toNat)
  case atStart => exact ⟨0, _, by omega, rfl, rfl, rfl, Lib.hid rfl, Lib.hid rfl⟩
  case round =>
    obtain ⟨k, ⟨b, t⟩, hk, rfl, rfl, rfl, HN, HW⟩ := hrel
    cases HW.out
    clear HW
    match k, hk, HN with
    | 0, _, HN =>
      have hz : (bits .and .u32 (bits .and .u32 (waitV s h.c) h.e0) 0 != 0) = false := by rw [zero_and]; rfl
      have HS : RowKit.Hid (stB h s h.e0 h.l0 1 = (b, t)) := Lib.hid (HN.out)
      go_wp2_with (first | (go_at_call 88; (with_reducible refine (bit_lit0 _).mono ?_); rintro e w' ⟨rfl, rfl⟩) | fail)
      go_round
      case rel => exact ⟨1, _, by omega, rfl, rfl, rfl, HS, Lib.hid (by trivial)⟩
      case measure => simp [intOf]
    | 1, _, HN =>
      rcases Bool.eq_false_or_eq_true (onB h s h.e0 1) with hm | hm
      · have hz : (bits .and .u32 (bits .and .u32 (waitV s h.c) h.e0) 2 != 0) = true := a1.out.trans hm
        by_cases ht : t < h.p1
        · have HS : RowKit.Hid (stB h s h.e0 h.l0 2 = (1, h.p1)) := Lib.hid (by show stepB (onB h s h.e0 1) 1 h.p1 (stB h s h.e0 h.l0 1) = _; rw [HN.out]; exact stepB_take _ _ _ _ _ hm ht)
          go_wp2_with (first | (go_at_call 88; (with_reducible refine (bit_lit1 _).mono ?_); rintro e w' ⟨rfl, rfl⟩) | fail)
          go_round
          case rel => exact ⟨2, _, by omega, rfl, rfl, rfl, HS, Lib.hid (by trivial)⟩
          case measure => simp [intOf]
        · have HS : RowKit.Hid (stB h s h.e0 h.l0 2 = (b, t)) := Lib.hid (by show stepB (onB h s h.e0 1) 1 h.p1 (stB h s h.e0 h.l0 1) = _; rw [HN.out]; exact stepB_low _ _ _ _ _ ht)
          go_wp2_with (first | (go_at_call 88; (with_reducible refine (bit_lit1 _).mono ?_); rintro e w' ⟨rfl, rfl⟩) | fail)
          go_round
          case rel => exact ⟨2, _, by omega, rfl, rfl, rfl, HS, Lib.hid (by trivial)⟩
          case measure => simp [intOf]
      · have hz : (bits .and .u32 (bits .and .u32 (waitV s h.c) h.e0) 2 != 0) = false := a1.out.trans hm
        have HS : RowKit.Hid (stB h s h.e0 h.l0 2 = (b, t)) := Lib.hid (by show stepB (onB h s h.e0 1) 1 h.p1 (stB h s h.e0 h.l0 1) = _; rw [HN.out]; exact stepB_off _ _ _ _ _ hm)
        go_wp2_with (first | (go_at_call 88; (with_reducible refine (bit_lit1 _).mono ?_); rintro e w' ⟨rfl, rfl⟩) | fail)
        go_round
        case rel => exact ⟨2, _, by omega, rfl, rfl, rfl, HS, Lib.hid (by trivial)⟩
        case measure => simp [intOf]
    | 2, _, HN =>
      rcases Bool.eq_false_or_eq_true (onB h s h.e0 2) with hm | hm
      · have hz : (bits .and .u32 (bits .and .u32 (waitV s h.c) h.e0) 4 != 0) = true := a2.out.trans hm
        by_cases ht : t < h.p2
        · have HS : RowKit.Hid (stB h s h.e0 h.l0 3 = (2, h.p2)) := Lib.hid (by show stepB (onB h s h.e0 2) 2 h.p2 (stB h s h.e0 h.l0 2) = _; rw [HN.out]; exact stepB_take _ _ _ _ _ hm ht)
          go_wp2_with (first | (go_at_call 88; (with_reducible refine (bit_lit2 _).mono ?_); rintro e w' ⟨rfl, rfl⟩) | fail)
          go_round
          case rel => exact ⟨3, _, by omega, rfl, rfl, rfl, HS, Lib.hid (by trivial)⟩
          case measure => simp [intOf]
        · have HS : RowKit.Hid (stB h s h.e0 h.l0 3 = (b, t)) := Lib.hid (by show stepB (onB h s h.e0 2) 2 h.p2 (stB h s h.e0 h.l0 2) = _; rw [HN.out]; exact stepB_low _ _ _ _ _ ht)
          go_wp2_with (first | (go_at_call 88; (with_reducible refine (bit_lit2 _).mono ?_); rintro e w' ⟨rfl, rfl⟩) | fail)
          go_round
          case rel => exact ⟨3, _, by omega, rfl, rfl, rfl, HS, Lib.hid (by trivial)⟩
          case measure => simp [intOf]
      · have hz : (bits .and .u32 (bits .and .u32 (waitV s h.c) h.e0) 4 != 0) = false := a2.out.trans hm
        have HS : RowKit.Hid (stB h s h.e0 h.l0 3 = (b, t)) := Lib.hid (by show stepB (onB h s h.e0 2) 2 h.p2 (stB h s h.e0 h.l0 2) = _; rw [HN.out]; exact stepB_off _ _ _ _ _ hm)
        go_wp2_with (first | (go_at_call 88; (with_reducible refine (bit_lit2 _).mono ?_); rintro e w' ⟨rfl, rfl⟩) | fail)
        go_round
        case rel => exact ⟨3, _, by omega, rfl, rfl, rfl, HS, Lib.hid (by trivial)⟩
        case measure => simp [intOf]
    | 3, _, HN =>
      rcases Bool.eq_false_or_eq_true (onB h s h.e0 3) with hm | hm
      · have hz : (bits .and .u32 (bits .and .u32 (waitV s h.c) h.e0) 8 != 0) = true := a3.out.trans hm
        by_cases ht : t < h.p3
        · have HS : RowKit.Hid (stB h s h.e0 h.l0 4 = (3, h.p3)) := Lib.hid (by show stepB (onB h s h.e0 3) 3 h.p3 (stB h s h.e0 h.l0 3) = _; rw [HN.out]; exact stepB_take _ _ _ _ _ hm ht)
          go_wp2_with (first | (go_at_call 88; (with_reducible refine (bit_lit3 _).mono ?_); rintro e w' ⟨rfl, rfl⟩) | fail)
          go_round
          case rel => exact ⟨4, _, by omega, rfl, rfl, rfl, HS, Lib.hid (by trivial)⟩
          case measure => simp [intOf]
        · have HS : RowKit.Hid (stB h s h.e0 h.l0 4 = (b, t)) := Lib.hid (by show stepB (onB h s h.e0 3) 3 h.p3 (stB h s h.e0 h.l0 3) = _; rw [HN.out]; exact stepB_low _ _ _ _ _ ht)
          go_wp2_with (first | (go_at_call 88; (with_reducible refine (bit_lit3 _).mono ?_); rintro e w' ⟨rfl, rfl⟩) | fail)
          go_round
          case rel => exact ⟨4, _, by omega, rfl, rfl, rfl, HS, Lib.hid (by trivial)⟩
          case measure => simp [intOf]
      · have hz : (bits .and .u32 (bits .and .u32 (waitV s h.c) h.e0) 8 != 0) = false := a3.out.trans hm
        have HS : RowKit.Hid (stB h s h.e0 h.l0 4 = (b, t)) := Lib.hid (by show stepB (onB h s h.e0 3) 3 h.p3 (stB h s h.e0 h.l0 3) = _; rw [HN.out]; exact stepB_off _ _ _ _ _ hm)
        go_wp2_with (first | (go_at_call 88; (with_reducible refine (bit_lit3 _).mono ?_); rintro e w' ⟨rfl, rfl⟩) | fail)
        go_round
        case rel => exact ⟨4, _, by omega, rfl, rfl, rfl, HS, Lib.hid (by trivial)⟩
        case measure => simp [intOf]
    | 4, _, HN =>
      have HE : RowKit.Hid ((stB h s h.e0 h.l0 4).1 = b) := Lib.hid (by rw [HN.out])
      go_wp2_with fail
      go_ret
      exact ⟨ret_int HE.out.symm, B2.out⟩
set_option maxRecDepth 100000 in
set_option maxHeartbeats 1000000 in
theorem best_1 (h : Pl) (s : Int) (W : World) : Calls Tryz.prog 59 #[plV h, .int .u32 s, .int .i64 1] W fun e W' => e = .returned (.int .i64 (stB h s h.e1 h.l1 4).1) ∧ Below W.heap.size W W' := by
  have a1 := Lib.hid (has_and (bits .and .u32 (waitV s h.c) h.e1) 1 (by omega))
  have a2 := Lib.hid (has_and (bits .and .u32 (waitV s h.c) h.e1) 2 (by omega))
  have a3 := Lib.hid (has_and (bits .and .u32 (waitV s h.c) h.e1) 3 (by omega))
  have i0 : ∀ w : World, (Instr.index 30 (.agg #[.int .u32 h.p0, .int .u32 h.p1, .int .u32 h.p2, .int .u32 h.p3]) (.int .i64 0)).run Tryz.prog w = .ok (.int .u32 h.p0) w := fun _ => by kernel_rfl
  have i1 : ∀ w : World, (Instr.index 30 (.agg #[.int .u32 h.p0, .int .u32 h.p1, .int .u32 h.p2, .int .u32 h.p3]) (.int .i64 1)).run Tryz.prog w = .ok (.int .u32 h.p1) w := fun _ => by kernel_rfl
  have i2 : ∀ w : World, (Instr.index 30 (.agg #[.int .u32 h.p0, .int .u32 h.p1, .int .u32 h.p2, .int .u32 h.p3]) (.int .i64 2)).run Tryz.prog w = .ok (.int .u32 h.p2) w := fun _ => by kernel_rfl
  have i3 : ∀ w : World, (Instr.index 30 (.agg #[.int .u32 h.p0, .int .u32 h.p1, .int .u32 h.p2, .int .u32 h.p3]) (.int .i64 3)).run Tryz.prog w = .ok (.int .u32 h.p3) w := fun _ => by kernel_rfl
  go_enter Tryz.func59, Tryz.ntmps59
  go_upto_region 3 with (fail)
  have X0 := Lib.hid (Box.new W h)
  have B0 := Lib.hid (show Below W.heap.size W (W.alloc (plO h)) from (Below.refl _ _).alloc (Nat.le_refl _) _)
  generalize W.alloc (plO h) = w0 at *
  have hne : Nonempty (Near w0) := ⟨⟨w0, Below.refl _ _⟩⟩
  refine wp_region_near (by kernel_rfl) (by kernel_rfl) ?_
  repeat (first | (go_big_quiet_want; (with_reducible refine quiet_by _ (fun w hw => exec_load (t := 33) rfl (near_load X0.out w hw) rfl) ?_); simp only [Act.put, List.setIfInBounds_toArray, List.set_cons_zero, List.set_cons_succ]; go_big_quiet_on) | (go_big_quiet_want; (with_reducible refine quiet_by _ (fun w hw => exec_load (t := 29) rfl (near_e1 X0.out w hw) rfl) ?_); simp only [Act.put, List.setIfInBounds_toArray, List.set_cons_zero, List.set_cons_succ]; go_big_quiet_on) | go_big_quiet_step (first | (go_at_call 87; exact near_call (wait_any h s _)) | fail))
  refine wpQuiet_nil ?_
  rintro _ ⟨pn, rfl⟩
  have X1 := Lib.hid (X0.out.next pn.near)
  have B1 := Lib.hid (below_then B0.out (Nat.le_refl _) pn.near)
  clear X0 B0 hne
  generalize pn.wx = w1 at *
  go_upto_region 4 with (fail)
  have hne : Nonempty (Near w1) := ⟨⟨w1, Below.refl _ _⟩⟩
  refine wp_region_near (by kernel_rfl) (by kernel_rfl) ?_
  repeat (first | (go_big_quiet_want; (with_reducible refine quiet_by _ (fun w hw => exec_load (t := 29) rfl (near_l1 X1.out w hw) rfl) ?_); simp only [Act.put, List.setIfInBounds_toArray, List.set_cons_zero, List.set_cons_succ]; go_big_quiet_on) | go_big_quiet_step (first | fail | fail))
  refine wpQuiet_nil ?_
  rintro _ ⟨pn, rfl⟩
  have X2 := Lib.hid (X1.out.next pn.near)
  have B2 := Lib.hid (below_then B1.out (by have := B1.out.size; omega) pn.near)
  clear X1 B1 hne
  generalize pn.wx = w2 at *
  go_wp2_with (first | (with_reducible refine wpList_load_by rfl rfl (Box.load_prio X2.out) rfl ?_) | fail)
  go_loopw [8, 9, 32] (fun b t i wr => ∃ (k : Nat) (x : Int × Int), k ≤ 4 ∧ i = .int .i64 k ∧ b = .int .i64 x.1 ∧ t = .int .u32 x.2 ∧ RowKit.Hid (stB h s h.e1 h.l1 k = x) ∧ RowKit.Hid (w2 = wr)) (fun _ _ i _ => 4 - (intOf i).toNat)
  case atStart => exact ⟨0, _, by omega, rfl, rfl, rfl, Lib.hid rfl, Lib.hid rfl⟩
  case round =>
    obtain ⟨k, ⟨b, t⟩, hk, rfl, rfl, rfl, HN, HW⟩ := hrel
    cases HW.out
    clear HW
    match k, hk, HN with
    | 0, _, HN =>
      have hz : (bits .and .u32 (bits .and .u32 (waitV s h.c) h.e1) 0 != 0) = false := by rw [zero_and]; rfl
      have HS : RowKit.Hid (stB h s h.e1 h.l1 1 = (b, t)) := Lib.hid (HN.out)
      go_wp2_with (first | (go_at_call 88; (with_reducible refine (bit_lit0 _).mono ?_); rintro e w' ⟨rfl, rfl⟩) | fail)
      go_round
      case rel => exact ⟨1, _, by omega, rfl, rfl, rfl, HS, Lib.hid (by trivial)⟩
      case measure => simp [intOf]
    | 1, _, HN =>
      rcases Bool.eq_false_or_eq_true (onB h s h.e1 1) with hm | hm
      · have hz : (bits .and .u32 (bits .and .u32 (waitV s h.c) h.e1) 2 != 0) = true := a1.out.trans hm
        by_cases ht : t < h.p1
        · have HS : RowKit.Hid (stB h s h.e1 h.l1 2 = (1, h.p1)) := Lib.hid (by show stepB (onB h s h.e1 1) 1 h.p1 (stB h s h.e1 h.l1 1) = _; rw [HN.out]; exact stepB_take _ _ _ _ _ hm ht)
          go_wp2_with (first | (go_at_call 88; (with_reducible refine (bit_lit1 _).mono ?_); rintro e w' ⟨rfl, rfl⟩) | fail)
          go_round
          case rel => exact ⟨2, _, by omega, rfl, rfl, rfl, HS, Lib.hid (by trivial)⟩
          case measure => simp [intOf]
        · have HS : RowKit.Hid (stB h s h.e1 h.l1 2 = (b, t)) := Lib.hid (by show stepB (onB h s h.e1 1) 1 h.p1 (stB h s h.e1 h.l1 1) = _; rw [HN.out]; exact stepB_low _ _ _ _ _ ht)
          go_wp2_with (first | (go_at_call 88; (with_reducible refine (bit_lit1 _).mono ?_); rintro e w' ⟨rfl, rfl⟩) | fail)
          go_round
          case rel => exact ⟨2, _, by omega, rfl, rfl, rfl, HS, Lib.hid (by trivial)⟩
          case measure => simp [intOf]
      · have hz : (bits .and .u32 (bits .and .u32 (waitV s h.c) h.e1) 2 != 0) = false := a1.out.trans hm
        have HS : RowKit.Hid (stB h s h.e1 h.l1 2 = (b, t)) := Lib.hid (by show stepB (onB h s h.e1 1) 1 h.p1 (stB h s h.e1 h.l1 1) = _; rw [HN.out]; exact stepB_off _ _ _ _ _ hm)
        go_wp2_with (first | (go_at_call 88; (with_reducible refine (bit_lit1 _).mono ?_); rintro e w' ⟨rfl, rfl⟩) | fail)
        go_round
        case rel => exact ⟨2, _, by omega, rfl, rfl, rfl, HS, Lib.hid (by trivial)⟩
        case measure => simp [intOf]
    | 2, _, HN =>
      rcases Bool.eq_false_or_eq_true (onB h s h.e1 2) with hm | hm
      · have hz : (bits .and .u32 (bits .and .u32 (waitV s h.c) h.e1) 4 != 0) = true := a2.out.trans hm
        by_cases ht : t < h.p2
        · have HS : RowKit.Hid (stB h s h.e1 h.l1 3 = (2, h.p2)) := Lib.hid (by show stepB (onB h s h.e1 2) 2 h.p2 (stB h s h.e1 h.l1 2) = _; rw [HN.out]; exact stepB_take _ _ _ _ _ hm ht)
          go_wp2_with (first | (go_at_call 88; (with_reducible refine (bit_lit2 _).mono ?_); rintro e w' ⟨rfl, rfl⟩) | fail)
          go_round
          case rel => exact ⟨3, _, by omega, rfl, rfl, rfl, HS, Lib.hid (by trivial)⟩
          case measure => simp [intOf]
        · have HS : RowKit.Hid (stB h s h.e1 h.l1 3 = (b, t)) := Lib.hid (by show stepB (onB h s h.e1 2) 2 h.p2 (stB h s h.e1 h.l1 2) = _; rw [HN.out]; exact stepB_low _ _ _ _ _ ht)
          go_wp2_with (first | (go_at_call 88; (with_reducible refine (bit_lit2 _).mono ?_); rintro e w' ⟨rfl, rfl⟩) | fail)
          go_round
          case rel => exact ⟨3, _, by omega, rfl, rfl, rfl, HS, Lib.hid (by trivial)⟩
          case measure => simp [intOf]
      · have hz : (bits .and .u32 (bits .and .u32 (waitV s h.c) h.e1) 4 != 0) = false := a2.out.trans hm
        have HS : RowKit.Hid (stB h s h.e1 h.l1 3 = (b, t)) := Lib.hid (by show stepB (onB h s h.e1 2) 2 h.p2 (stB h s h.e1 h.l1 2) = _; rw [HN.out]; exact stepB_off _ _ _ _ _ hm)
        go_wp2_with (first | (go_at_call 88; (with_reducible refine (bit_lit2 _).mono ?_); rintro e w' ⟨rfl, rfl⟩) | fail)
        go_round
        case rel => exact ⟨3, _, by omega, rfl, rfl, rfl, HS, Lib.hid (by trivial)⟩
        case measure => simp [intOf]
    | 3, _, HN =>
      rcases Bool.eq_false_or_eq_true (onB h s h.e1 3) with hm | hm
      · have hz : (bits .and .u32 (bits .and .u32 (waitV s h.c) h.e1) 8 != 0) = true := a3.out.trans hm
        by_cases ht : t < h.p3
        · have HS : RowKit.Hid (stB h s h.e1 h.l1 4 = (3, h.p3)) := Lib.hid (by show stepB (onB h s h.e1 3) 3 h.p3 (stB h s h.e1 h.l1 3) = _; rw [HN.out]; exact stepB_take _ _ _ _ _ hm ht)
          go_wp2_with (first | (go_at_call 88; (with_reducible refine (bit_lit3 _).mono ?_); rintro e w' ⟨rfl, rfl⟩) | fail)
          go_round
          case rel => exact ⟨4, _, by omega, rfl, rfl, rfl, HS, Lib.hid (by trivial)⟩
          case measure => simp [intOf]
        · have HS : RowKit.Hid (stB h s h.e1 h.l1 4 = (b, t)) := Lib.hid (by show stepB (onB h s h.e1 3) 3 h.p3 (stB h s h.e1 h.l1 3) = _; rw [HN.out]; exact stepB_low _ _ _ _ _ ht)
          go_wp2_with (first | (go_at_call 88; (with_reducible refine (bit_lit3 _).mono ?_); rintro e w' ⟨rfl, rfl⟩) | fail)
          go_round
          case rel => exact ⟨4, _, by omega, rfl, rfl, rfl, HS, Lib.hid (by trivial)⟩
          case measure => simp [intOf]
      · have hz : (bits .and .u32 (bits .and .u32 (waitV s h.c) h.e1) 8 != 0) = false := a3.out.trans hm
        have HS : RowKit.Hid (stB h s h.e1 h.l1 4 = (b, t)) := Lib.hid (by show stepB (onB h s h.e1 3) 3 h.p3 (stB h s h.e1 h.l1 3) = _; rw [HN.out]; exact stepB_off _ _ _ _ _ hm)
        go_wp2_with (first | (go_at_call 88; (with_reducible refine (bit_lit3 _).mono ?_); rintro e w' ⟨rfl, rfl⟩) | fail)
        go_round
        case rel => exact ⟨4, _, by omega, rfl, rfl, rfl, HS, Lib.hid (by trivial)⟩
        case measure => simp [intOf]
    | 4, _, HN =>
      have HE : RowKit.Hid ((stB h s h.e1 h.l1 4).1 = b) := Lib.hid (by rw [HN.out])
      go_wp2_with fail
      go_ret
      exact ⟨ret_int HE.out.symm, B2.out⟩
set_option maxRecDepth 100000 in
set_option maxHeartbeats 1000000 in
theorem best_none (h : Pl) (s who : Int) (h0 : (who != 0) = true) (h1 : (who != 1) = true) (W : World) : Calls Tryz.prog 59 #[plV h, .int .u32 s, .int .i64 who] W fun e W' => e = .returned (.int .i64 0) ∧ Below W.heap.size W W' := by
  go_enter Tryz.func59, Tryz.ntmps59
  go_wp2
  go_ret
  exact ⟨rfl, (Below.refl _ _).alloc (Nat.le_refl _) _⟩
theorem best_any (h : Pl) (s who : Int) (W : World) : Calls Tryz.prog 59 #[plV h, .int .u32 s, .int .i64 who] W fun e W' => e = .returned (.int .i64 (bestF h s who)) ∧ Below W.heap.size W W' := by
  unfold bestF
  split
  · rename_i hw
    subst hw
    exact best_0 h s W
  · split
    · rename_i _ hw
      subst hw
      exact best_1 h s W
    · rename_i h0 h1
      exact best_none h s who (by simpa using h0) (by simpa using h1) W

end Go.Proofs.YtjohcpokmdofkaaGreatDoor.Pc
