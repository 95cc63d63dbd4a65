/- Best of the reference. Lines of the reference. -/
import Derived.Test.YtnedhjaphfjdmaaYPH
namespace Go.Proofs.Ytnedhjaphfjdmaa.Pc
open Go.RowKit Go.Deep Go.Joins
def topB (h : Pl) (l : Int) : Nat → Int
  | 0 => l
  | 1 => h.p1
  | 2 => h.p2
  | _ => h.p3
theorem shift_1 (x : Int) (hx : U32 x) : (bits .and .u32 (x / 2) 1 == 1) = bitT x 1 := has_shift x hx 1 (by omega)
theorem shift_2 (x : Int) (hx : U32 x) : (bits .and .u32 (x / 4) 1 == 1) = bitT x 2 := has_shift x hx 2 (by omega)
theorem shift_3 (x : Int) (hx : U32 x) : (bits .and .u32 (x / 8) 1 == 1) = bitT x 3 := has_shift x hx 3 (by omega)
set_option maxRecDepth 100000 in
set_option maxHeartbeats 1000000 in
theorem rbest_0 (h : Pl) (s : Int) (W : World) : Calls Try.prog 46 #[plV h, .int .u32 s, .int .i64 0] W fun e W' => e = .returned (.int .i64 (stB h s h.e0 h.l0 4).1) ∧ Below W.heap.size W W' := by
  have a1 := Lib.hid (shift_1 (bits .and .u32 (waitV s h.c) h.e0) (u32_and _ _))
  have a2 := Lib.hid (shift_2 (bits .and .u32 (waitV s h.c) h.e0) (u32_and _ _))
  have a3 := Lib.hid (shift_3 (bits .and .u32 (waitV s h.c) h.e0) (u32_and _ _))
  go_enter Try.func46, Try.ntmps46
  go_upto_region 1 with (fail)
  have X0 := Lib.hid (Box.new W h)
  have B0 := Lib.hid (show Below W.heap.size W (W.alloc (plO h)) from (Below.refl _ _).alloc (Nat.le_refl _) _)
  generalize hw0 : W.alloc (plO h) = w0 at *
  have hsz : W.heap.size ≤ w0.heap.size := B0.out.size
  go_wp2_with fail
  go_loopw [7, 8] (fun b i wr => ∃ (k j : Nat), 1 ≤ k ∧ k ≤ 4 ∧ j < k ∧ i = .int .i64 k ∧ b = .int .i64 j ∧ RowKit.Hid (stB h s h.e0 h.l0 k = ((j : Int), topB h h.l0 j)) ∧ RowKit.Hid (j = 0 ∨ h.l0 < topB h h.l0 j) ∧ RowKit.Hid (Below w0.heap.size w0 wr)) (fun _ i _ => 4 - (intOf i).toNat)
  case atStart => exact ⟨1, 0, by omega, by omega, by omega, rfl, rfl, Lib.hid rfl, Lib.hid (.inl rfl), Lib.hid (Below.refl _ _)⟩
  case round =>
    obtain ⟨k, j, hk1, hk, hj, rfl, rfl, HN, HT, HW⟩ := hrel
    have X1 := Lib.hid (X0.out.next HW.out)
    match k, j, hk1, hk, hj, HN, HT with
    | 1, 0, _, _, _, HN, HT =>
      rcases Bool.eq_false_or_eq_true (onB h s h.e0 1) with hm | hm
      · have hz : (bits .and .u32 ((bits .and .u32 (waitV s h.c) h.e0) / 2) 1 == 1) = true := a1.out.trans hm
        by_cases hl : h.l0 < h.p1
        · have HS : RowKit.Hid (stB h s h.e0 h.l0 2 = (((1 : Nat) : Int), topB h h.l0 1)) := Lib.hid (by show stepB (onB h s h.e0 1) 1 h.p1 (stB h s h.e0 h.l0 1) = _; rw [HN.out]; exact stepB_take _ _ _ _ _ hm hl)
          have HU : RowKit.Hid ((1 : Nat) = 0 ∨ h.l0 < topB h h.l0 1) := Lib.hid (.inr hl)
          go_upto_region 7 with (fail)
          have hne : Nonempty (Near _) := ⟨⟨wr, Below.refl _ _⟩⟩
          refine wp_region_near (by kernel_rfl) (by kernel_rfl) ?_
          repeat (first | (go_big_quiet_want; (with_reducible refine quiet_by _ (fun w hw => exec_load (t := 33) rfl (near_load X1.out w hw) rfl) ?_); simp only [Act.put, List.setIfInBounds_toArray, List.set_cons_zero, List.set_cons_succ]; go_big_quiet_on) | (go_big_quiet_want; (with_reducible refine quiet_by _ (fun w hw => exec_load (t := 29) rfl (near_e0 X1.out w hw) rfl) ?_); simp only [Act.put, List.setIfInBounds_toArray, List.set_cons_zero, List.set_cons_succ]; go_big_quiet_on) | (go_big_quiet_want; (with_reducible refine quiet_by _ (fun w hw => exec_load (t := 29) rfl (near_p1 X1.out w hw) rfl) ?_); simp only [Act.put, List.setIfInBounds_toArray, List.set_cons_zero, List.set_cons_succ]; go_big_quiet_on) | (go_big_quiet_want; (with_reducible refine quiet_by _ (fun w hw => exec_load (t := 29) rfl (near_l0 X1.out w hw) rfl) ?_); simp only [Act.put, List.setIfInBounds_toArray, List.set_cons_zero, List.set_cons_succ]; go_big_quiet_on) | go_big_quiet_step (first | (go_at_call 64; exact near_call (rwait_any h s _)) | fail))
          refine wpQuiet_nil ?_
          rintro _ ⟨pn, rfl⟩
          have HV := Lib.hid (HW.out.trans (pn.near.mono HW.out.size))
          clear hne
          generalize pn.wx = w3 at *
          go_wp2_with fail
          go_round
          case rel => exact ⟨2, 1, by omega, by omega, by omega, rfl, rfl, HS, HU, HV⟩
          case measure => simp [intOf]
        · have HS : RowKit.Hid (stB h s h.e0 h.l0 2 = (((0 : Nat) : Int), topB h h.l0 0)) := Lib.hid (by show stepB (onB h s h.e0 1) 1 h.p1 (stB h s h.e0 h.l0 1) = _; rw [HN.out]; exact stepB_low _ _ _ _ _ hl)
          have HU : RowKit.Hid ((0 : Nat) = 0 ∨ h.l0 < topB h h.l0 0) := Lib.hid (.inl rfl)
          go_upto_region 7 with (fail)
          have hne : Nonempty (Near _) := ⟨⟨wr, Below.refl _ _⟩⟩
          refine wp_region_near (by kernel_rfl) (by kernel_rfl) ?_
          repeat (first | (go_big_quiet_want; (with_reducible refine quiet_by _ (fun w hw => exec_load (t := 33) rfl (near_load X1.out w hw) rfl) ?_); simp only [Act.put, List.setIfInBounds_toArray, List.set_cons_zero, List.set_cons_succ]; go_big_quiet_on) | (go_big_quiet_want; (with_reducible refine quiet_by _ (fun w hw => exec_load (t := 29) rfl (near_e0 X1.out w hw) rfl) ?_); simp only [Act.put, List.setIfInBounds_toArray, List.set_cons_zero, List.set_cons_succ]; go_big_quiet_on) | (go_big_quiet_want; (with_reducible refine quiet_by _ (fun w hw => exec_load (t := 29) rfl (near_p1 X1.out w hw) rfl) ?_); simp only [Act.put, List.setIfInBounds_toArray, List.set_cons_zero, List.set_cons_succ]; go_big_quiet_on) | (go_big_quiet_want; (with_reducible refine quiet_by _ (fun w hw => exec_load (t := 29) rfl (near_l0 X1.out w hw) rfl) ?_); simp only [Act.put, List.setIfInBounds_toArray, List.set_cons_zero, List.set_cons_succ]; go_big_quiet_on) | go_big_quiet_step (first | (go_at_call 64; exact near_call (rwait_any h s _)) | fail))
          refine wpQuiet_nil ?_
          rintro _ ⟨pn, rfl⟩
          have HV := Lib.hid (HW.out.trans (pn.near.mono HW.out.size))
          clear hne
          generalize pn.wx = w3 at *
          go_wp2_with fail
          go_round
          case rel => exact ⟨2, 0, by omega, by omega, by omega, rfl, rfl, HS, HU, HV⟩
          case measure => simp [intOf]
      · have hz : (bits .and .u32 ((bits .and .u32 (waitV s h.c) h.e0) / 2) 1 == 1) = false := a1.out.trans hm
        have HS : RowKit.Hid (stB h s h.e0 h.l0 2 = (((0 : Nat) : Int), topB h h.l0 0)) := Lib.hid (by show stepB (onB h s h.e0 1) 1 h.p1 (stB h s h.e0 h.l0 1) = _; rw [HN.out]; exact stepB_off _ _ _ _ _ hm)
        have HU : RowKit.Hid ((0 : Nat) = 0 ∨ h.l0 < topB h h.l0 0) := Lib.hid (HT.out)
        go_upto_region 7 with (fail)
        have hne : Nonempty (Near _) := ⟨⟨wr, Below.refl _ _⟩⟩
        refine wp_region_near (by kernel_rfl) (by kernel_rfl) ?_
        repeat (first | (go_big_quiet_want; (with_reducible refine quiet_by _ (fun w hw => exec_load (t := 33) rfl (near_load X1.out w hw) rfl) ?_); simp only [Act.put, List.setIfInBounds_toArray, List.set_cons_zero, List.set_cons_succ]; go_big_quiet_on) | (go_big_quiet_want; (with_reducible refine quiet_by _ (fun w hw => exec_load (t := 29) rfl (near_e0 X1.out w hw) rfl) ?_); simp only [Act.put, List.setIfInBounds_toArray, List.set_cons_zero, List.set_cons_succ]; go_big_quiet_on) | go_big_quiet_step (first | (go_at_call 64; exact near_call (rwait_any h s _)) | fail))
        refine wpQuiet_nil ?_
        rintro _ ⟨pn, rfl⟩
        have HV := Lib.hid (HW.out.trans (pn.near.mono HW.out.size))
        clear hne
        generalize pn.wx = w3 at *
        go_wp2_with fail
        go_round
        case rel => exact ⟨2, 0, by omega, by omega, by omega, rfl, rfl, HS, HU, HV⟩
        case measure => simp [intOf]
    | 2, 0, _, _, _, HN, HT =>
      rcases Bool.eq_false_or_eq_true (onB h s h.e0 2) with hm | hm
      · have hz : (bits .and .u32 ((bits .and .u32 (waitV s h.c) h.e0) / 4) 1 == 1) = true := a2.out.trans hm
        by_cases hl : h.l0 < h.p2
        · have HS : RowKit.Hid (stB h s h.e0 h.l0 3 = (((2 : Nat) : Int), topB h h.l0 2)) := Lib.hid (by show stepB (onB h s h.e0 2) 2 h.p2 (stB h s h.e0 h.l0 2) = _; rw [HN.out]; exact stepB_take _ _ _ _ _ hm hl)
          have HU : RowKit.Hid ((2 : Nat) = 0 ∨ h.l0 < topB h h.l0 2) := Lib.hid (.inr hl)
          go_upto_region 7 with (fail)
          have hne : Nonempty (Near _) := ⟨⟨wr, Below.refl _ _⟩⟩
          refine wp_region_near (by kernel_rfl) (by kernel_rfl) ?_
          repeat (first | (go_big_quiet_want; (with_reducible refine quiet_by _ (fun w hw => exec_load (t := 33) rfl (near_load X1.out w hw) rfl) ?_); simp only [Act.put, List.setIfInBounds_toArray, List.set_cons_zero, List.set_cons_succ]; go_big_quiet_on) | (go_big_quiet_want; (with_reducible refine quiet_by _ (fun w hw => exec_load (t := 29) rfl (near_e0 X1.out w hw) rfl) ?_); simp only [Act.put, List.setIfInBounds_toArray, List.set_cons_zero, List.set_cons_succ]; go_big_quiet_on) | (go_big_quiet_want; (with_reducible refine quiet_by _ (fun w hw => exec_load (t := 29) rfl (near_p2 X1.out w hw) rfl) ?_); simp only [Act.put, List.setIfInBounds_toArray, List.set_cons_zero, List.set_cons_succ]; go_big_quiet_on) | (go_big_quiet_want; (with_reducible refine quiet_by _ (fun w hw => exec_load (t := 29) rfl (near_l0 X1.out w hw) rfl) ?_); simp only [Act.put, List.setIfInBounds_toArray, List.set_cons_zero, List.set_cons_succ]; go_big_quiet_on) | go_big_quiet_step (first | (go_at_call 64; exact near_call (rwait_any h s _)) | fail))
          refine wpQuiet_nil ?_
          rintro _ ⟨pn, rfl⟩
          have HV := Lib.hid (HW.out.trans (pn.near.mono HW.out.size))
          clear hne
          generalize pn.wx = w3 at *
          go_wp2_with fail
          go_round
          case rel => exact ⟨3, 2, by omega, by omega, by omega, rfl, rfl, HS, HU, HV⟩
          case measure => simp [intOf]
        · have HS : RowKit.Hid (stB h s h.e0 h.l0 3 = (((0 : Nat) : Int), topB h h.l0 0)) := Lib.hid (by show stepB (onB h s h.e0 2) 2 h.p2 (stB h s h.e0 h.l0 2) = _; rw [HN.out]; exact stepB_low _ _ _ _ _ hl)
          have HU : RowKit.Hid ((0 : Nat) = 0 ∨ h.l0 < topB h h.l0 0) := Lib.hid (.inl rfl)
          go_upto_region 7 with (fail)
          have hne : Nonempty (Near _) := ⟨⟨wr, Below.refl _ _⟩⟩
          refine wp_region_near (by kernel_rfl) (by kernel_rfl) ?_
          repeat (first | (go_big_quiet_want; (with_reducible refine quiet_by _ (fun w hw => exec_load (t := 33) rfl (near_load X1.out w hw) rfl) ?_); simp only [Act.put, List.setIfInBounds_toArray, List.set_cons_zero, List.set_cons_succ]; go_big_quiet_on) | (go_big_quiet_want; (with_reducible refine quiet_by _ (fun w hw => exec_load (t := 29) rfl (near_e0 X1.out w hw) rfl) ?_); simp only [Act.put, List.setIfInBounds_toArray, List.set_cons_zero, List.set_cons_succ]; go_big_quiet_on) | (go_big_quiet_want; (with_reducible refine quiet_by _ (fun w hw => exec_load (t := 29) rfl (near_p2 X1.out w hw) rfl) ?_); simp only [Act.put, List.setIfInBounds_toArray, List.set_cons_zero, List.set_cons_succ]; go_big_quiet_on) | (go_big_quiet_want; (with_reducible refine quiet_by _ (fun w hw => exec_load (t := 29) rfl (near_l0 X1.out w hw) rfl) ?_); simp only [Act.put, List.setIfInBounds_toArray, List.set_cons_zero, List.set_cons_succ]; go_big_quiet_on) | go_big_quiet_step (first | (go_at_call 64; exact near_call (rwait_any h s _)) | fail))
          refine wpQuiet_nil ?_
          rintro _ ⟨pn, rfl⟩
          have HV := Lib.hid (HW.out.trans (pn.near.mono HW.out.size))
          clear hne
          generalize pn.wx = w3 at *
          go_wp2_with fail
          go_round
          case rel => exact ⟨3, 0, by omega, by omega, by omega, rfl, rfl, HS, HU, HV⟩
          case measure => simp [intOf]
      · have hz : (bits .and .u32 ((bits .and .u32 (waitV s h.c) h.e0) / 4) 1 == 1) = false := a2.out.trans hm
        have HS : RowKit.Hid (stB h s h.e0 h.l0 3 = (((0 : Nat) : Int), topB h h.l0 0)) := Lib.hid (by show stepB (onB h s h.e0 2) 2 h.p2 (stB h s h.e0 h.l0 2) = _; rw [HN.out]; exact stepB_off _ _ _ _ _ hm)
        have HU : RowKit.Hid ((0 : Nat) = 0 ∨ h.l0 < topB h h.l0 0) := Lib.hid (HT.out)
        go_upto_region 7 with (fail)
        have hne : Nonempty (Near _) := ⟨⟨wr, Below.refl _ _⟩⟩
        refine wp_region_near (by kernel_rfl) (by kernel_rfl) ?_
        repeat (first | (go_big_quiet_want; (with_reducible refine quiet_by _ (fun w hw => exec_load (t := 33) rfl (near_load X1.out w hw) rfl) ?_); simp only [Act.put, List.setIfInBounds_toArray, List.set_cons_zero, List.set_cons_succ]; go_big_quiet_on) | (go_big_quiet_want; (with_reducible refine quiet_by _ (fun w hw => exec_load (t := 29) rfl (near_e0 X1.out w hw) rfl) ?_); simp only [Act.put, List.setIfInBounds_toArray, List.set_cons_zero, List.set_cons_succ]; go_big_quiet_on) | go_big_quiet_step (first | (go_at_call 64; exact near_call (rwait_any h s _)) | fail))
        refine wpQuiet_nil ?_
        rintro _ ⟨pn, rfl⟩
        have HV := Lib.hid (HW.out.trans (pn.near.mono HW.out.size))
        clear hne
        generalize pn.wx = w3 at *
        go_wp2_with fail
        go_round
        case rel => exact ⟨3, 0, by omega, by omega, by omega, rfl, rfl, HS, HU, HV⟩
        case measure => simp [intOf]
    | 2, 1, _, _, _, HN, HT =>
      rcases Bool.eq_false_or_eq_true (onB h s h.e0 2) with hm | hm
      · have hz : (bits .and .u32 ((bits .and .u32 (waitV s h.c) h.e0) / 4) 1 == 1) = true := a2.out.trans hm
        by_cases hl : h.l0 < h.p2
        · have hx : h.l0 < h.p1 := HT.out.resolve_left (by decide)
          have HX := Lib.hid hx
          clear hx
          by_cases ht : h.p1 < h.p2
          · have HS : RowKit.Hid (stB h s h.e0 h.l0 3 = (((2 : Nat) : Int), topB h h.l0 2)) := Lib.hid (by show stepB (onB h s h.e0 2) 2 h.p2 (stB h s h.e0 h.l0 2) = _; rw [HN.out]; exact stepB_take _ _ _ _ _ hm ht)
            have HU : RowKit.Hid ((2 : Nat) = 0 ∨ h.l0 < topB h h.l0 2) := Lib.hid (.inr hl)
            go_upto_region 7 with (fail)
            have hne : Nonempty (Near _) := ⟨⟨wr, Below.refl _ _⟩⟩
            refine wp_region_near (by kernel_rfl) (by kernel_rfl) ?_
            repeat (first | (go_big_quiet_want; (with_reducible refine quiet_by _ (fun w hw => exec_load (t := 33) rfl (near_load X1.out w hw) rfl) ?_); simp only [Act.put, List.setIfInBounds_toArray, List.set_cons_zero, List.set_cons_succ]; go_big_quiet_on) | (go_big_quiet_want; (with_reducible refine quiet_by _ (fun w hw => exec_load (t := 29) rfl (near_e0 X1.out w hw) rfl) ?_); simp only [Act.put, List.setIfInBounds_toArray, List.set_cons_zero, List.set_cons_succ]; go_big_quiet_on) | (go_big_quiet_want; (with_reducible refine quiet_by _ (fun w hw => exec_load (t := 29) rfl (near_p2 X1.out w hw) rfl) ?_); simp only [Act.put, List.setIfInBounds_toArray, List.set_cons_zero, List.set_cons_succ]; go_big_quiet_on) | (go_big_quiet_want; (with_reducible refine quiet_by _ (fun w hw => exec_load (t := 29) rfl (near_l0 X1.out w hw) rfl) ?_); simp only [Act.put, List.setIfInBounds_toArray, List.set_cons_zero, List.set_cons_succ]; go_big_quiet_on) | (go_big_quiet_want; (with_reducible refine quiet_by _ (fun w hw => exec_load (t := 29) rfl (near_p1 X1.out w hw) rfl) ?_); simp only [Act.put, List.setIfInBounds_toArray, List.set_cons_zero, List.set_cons_succ]; go_big_quiet_on) | go_big_quiet_step (first | (go_at_call 64; exact near_call (rwait_any h s _)) | fail))
            refine wpQuiet_nil ?_
            rintro _ ⟨pn, rfl⟩
            have HV := Lib.hid (HW.out.trans (pn.near.mono HW.out.size))
            clear hne
            generalize pn.wx = w3 at *
            go_wp2_with fail
            go_round
            case rel => exact ⟨3, 2, by omega, by omega, by omega, rfl, rfl, HS, HU, HV⟩
            case measure => simp [intOf]
          · have HS : RowKit.Hid (stB h s h.e0 h.l0 3 = (((1 : Nat) : Int), topB h h.l0 1)) := Lib.hid (by show stepB (onB h s h.e0 2) 2 h.p2 (stB h s h.e0 h.l0 2) = _; rw [HN.out]; exact stepB_low _ _ _ _ _ ht)
            have HU : RowKit.Hid ((1 : Nat) = 0 ∨ h.l0 < topB h h.l0 1) := Lib.hid (.inr HX.out)
            go_upto_region 7 with (fail)
            have hne : Nonempty (Near _) := ⟨⟨wr, Below.refl _ _⟩⟩
            refine wp_region_near (by kernel_rfl) (by kernel_rfl) ?_
            repeat (first | (go_big_quiet_want; (with_reducible refine quiet_by _ (fun w hw => exec_load (t := 33) rfl (near_load X1.out w hw) rfl) ?_); simp only [Act.put, List.setIfInBounds_toArray, List.set_cons_zero, List.set_cons_succ]; go_big_quiet_on) | (go_big_quiet_want; (with_reducible refine quiet_by _ (fun w hw => exec_load (t := 29) rfl (near_e0 X1.out w hw) rfl) ?_); simp only [Act.put, List.setIfInBounds_toArray, List.set_cons_zero, List.set_cons_succ]; go_big_quiet_on) | (go_big_quiet_want; (with_reducible refine quiet_by _ (fun w hw => exec_load (t := 29) rfl (near_p2 X1.out w hw) rfl) ?_); simp only [Act.put, List.setIfInBounds_toArray, List.set_cons_zero, List.set_cons_succ]; go_big_quiet_on) | (go_big_quiet_want; (with_reducible refine quiet_by _ (fun w hw => exec_load (t := 29) rfl (near_l0 X1.out w hw) rfl) ?_); simp only [Act.put, List.setIfInBounds_toArray, List.set_cons_zero, List.set_cons_succ]; go_big_quiet_on) | (go_big_quiet_want; (with_reducible refine quiet_by _ (fun w hw => exec_load (t := 29) rfl (near_p1 X1.out w hw) rfl) ?_); simp only [Act.put, List.setIfInBounds_toArray, List.set_cons_zero, List.set_cons_succ]; go_big_quiet_on) | go_big_quiet_step (first | (go_at_call 64; exact near_call (rwait_any h s _)) | fail))
            refine wpQuiet_nil ?_
            rintro _ ⟨pn, rfl⟩
            have HV := Lib.hid (HW.out.trans (pn.near.mono HW.out.size))
            clear hne
            generalize pn.wx = w3 at *
            go_wp2_with fail
            go_round
            case rel => exact ⟨3, 1, by omega, by omega, by omega, rfl, rfl, HS, HU, HV⟩
            case measure => simp [intOf]
        · have hx : h.l0 < h.p1 := HT.out.resolve_left (by decide)
          have HX := Lib.hid hx
          have ht : ¬ h.p1 < h.p2 := by omega
          have HY := Lib.hid ht
          clear hx ht
          have HS : RowKit.Hid (stB h s h.e0 h.l0 3 = (((1 : Nat) : Int), topB h h.l0 1)) := Lib.hid (by show stepB (onB h s h.e0 2) 2 h.p2 (stB h s h.e0 h.l0 2) = _; rw [HN.out]; exact stepB_low _ _ _ _ _ HY.out)
          have HU : RowKit.Hid ((1 : Nat) = 0 ∨ h.l0 < topB h h.l0 1) := Lib.hid (.inr HX.out)
          go_upto_region 7 with (fail)
          have hne : Nonempty (Near _) := ⟨⟨wr, Below.refl _ _⟩⟩
          refine wp_region_near (by kernel_rfl) (by kernel_rfl) ?_
          repeat (first | (go_big_quiet_want; (with_reducible refine quiet_by _ (fun w hw => exec_load (t := 33) rfl (near_load X1.out w hw) rfl) ?_); simp only [Act.put, List.setIfInBounds_toArray, List.set_cons_zero, List.set_cons_succ]; go_big_quiet_on) | (go_big_quiet_want; (with_reducible refine quiet_by _ (fun w hw => exec_load (t := 29) rfl (near_e0 X1.out w hw) rfl) ?_); simp only [Act.put, List.setIfInBounds_toArray, List.set_cons_zero, List.set_cons_succ]; go_big_quiet_on) | (go_big_quiet_want; (with_reducible refine quiet_by _ (fun w hw => exec_load (t := 29) rfl (near_p2 X1.out w hw) rfl) ?_); simp only [Act.put, List.setIfInBounds_toArray, List.set_cons_zero, List.set_cons_succ]; go_big_quiet_on) | (go_big_quiet_want; (with_reducible refine quiet_by _ (fun w hw => exec_load (t := 29) rfl (near_l0 X1.out w hw) rfl) ?_); simp only [Act.put, List.setIfInBounds_toArray, List.set_cons_zero, List.set_cons_succ]; go_big_quiet_on) | go_big_quiet_step (first | (go_at_call 64; exact near_call (rwait_any h s _)) | fail))
          refine wpQuiet_nil ?_
          rintro _ ⟨pn, rfl⟩
          have HV := Lib.hid (HW.out.trans (pn.near.mono HW.out.size))
          clear hne
          generalize pn.wx = w3 at *
          go_wp2_with fail
          go_round
          case rel => exact ⟨3, 1, by omega, by omega, by omega, rfl, rfl, HS, HU, HV⟩
          case measure => simp [intOf]
      · have hz : (bits .and .u32 ((bits .and .u32 (waitV s h.c) h.e0) / 4) 1 == 1) = false := a2.out.trans hm
        have HS : RowKit.Hid (stB h s h.e0 h.l0 3 = (((1 : Nat) : Int), topB h h.l0 1)) := Lib.hid (by show stepB (onB h s h.e0 2) 2 h.p2 (stB h s h.e0 h.l0 2) = _; rw [HN.out]; exact stepB_off _ _ _ _ _ hm)
        have HU : RowKit.Hid ((1 : Nat) = 0 ∨ h.l0 < topB h h.l0 1) := Lib.hid (HT.out)
        go_upto_region 7 with (fail)
        have hne : Nonempty (Near _) := ⟨⟨wr, Below.refl _ _⟩⟩
        refine wp_region_near (by kernel_rfl) (by kernel_rfl) ?_
        repeat (first | (go_big_quiet_want; (with_reducible refine quiet_by _ (fun w hw => exec_load (t := 33) rfl (near_load X1.out w hw) rfl) ?_); simp only [Act.put, List.setIfInBounds_toArray, List.set_cons_zero, List.set_cons_succ]; go_big_quiet_on) | (go_big_quiet_want; (with_reducible refine quiet_by _ (fun w hw => exec_load (t := 29) rfl (near_e0 X1.out w hw) rfl) ?_); simp only [Act.put, List.setIfInBounds_toArray, List.set_cons_zero, List.set_cons_succ]; go_big_quiet_on) | go_big_quiet_step (first | (go_at_call 64; exact near_call (rwait_any h s _)) | fail))
        refine wpQuiet_nil ?_
        rintro _ ⟨pn, rfl⟩
        have HV := Lib.hid (HW.out.trans (pn.near.mono HW.out.size))
        clear hne
        generalize pn.wx = w3 at *
        go_wp2_with fail
        go_round
        case rel => exact ⟨3, 1, by omega, by omega, by omega, rfl, rfl, HS, HU, HV⟩
        case measure => simp [intOf]
    | 3, 0, _, _, _, HN, HT =>
      rcases Bool.eq_false_or_eq_true (onB h s h.e0 3) with hm | hm
      · have hz : (bits .and .u32 ((bits .and .u32 (waitV s h.c) h.e0) / 8) 1 == 1) = true := a3.out.trans hm
        by_cases hl : h.l0 < h.p3
        · have HS : RowKit.Hid (stB h s h.e0 h.l0 4 = (((3 : Nat) : Int), topB h h.l0 3)) := Lib.hid (by show stepB (onB h s h.e0 3) 3 h.p3 (stB h s h.e0 h.l0 3) = _; rw [HN.out]; exact stepB_take _ _ _ _ _ hm hl)
          have HU : RowKit.Hid ((3 : Nat) = 0 ∨ h.l0 < topB h h.l0 3) := Lib.hid (.inr hl)
          go_upto_region 7 with (fail)
          have hne : Nonempty (Near _) := ⟨⟨wr, Below.refl _ _⟩⟩
          refine wp_region_near (by kernel_rfl) (by kernel_rfl) ?_
          repeat (first | (go_big_quiet_want; (with_reducible refine quiet_by _ (fun w hw => exec_load (t := 33) rfl (near_load X1.out w hw) rfl) ?_); simp only [Act.put, List.setIfInBounds_toArray, List.set_cons_zero, List.set_cons_succ]; go_big_quiet_on) | (go_big_quiet_want; (with_reducible refine quiet_by _ (fun w hw => exec_load (t := 29) rfl (near_e0 X1.out w hw) rfl) ?_); simp only [Act.put, List.setIfInBounds_toArray, List.set_cons_zero, List.set_cons_succ]; go_big_quiet_on) | (go_big_quiet_want; (with_reducible refine quiet_by _ (fun w hw => exec_load (t := 29) rfl (near_p3 X1.out w hw) rfl) ?_); simp only [Act.put, List.setIfInBounds_toArray, List.set_cons_zero, List.set_cons_succ]; go_big_quiet_on) | (go_big_quiet_want; (with_reducible refine quiet_by _ (fun w hw => exec_load (t := 29) rfl (near_l0 X1.out w hw) rfl) ?_); simp only [Act.put, List.setIfInBounds_toArray, List.set_cons_zero, List.set_cons_succ]; go_big_quiet_on) | go_big_quiet_step (first | (go_at_call 64; exact near_call (rwait_any h s _)) | fail))
          refine wpQuiet_nil ?_
          rintro _ ⟨pn, rfl⟩
          have HV := Lib.hid (HW.out.trans (pn.near.mono HW.out.size))
          clear hne
          generalize pn.wx = w3 at *
          go_wp2_with fail
          go_round
          case rel => exact ⟨4, 3, by omega, by omega, by omega, rfl, rfl, HS, HU, HV⟩
          case measure => simp [intOf]
        · have HS : RowKit.Hid (stB h s h.e0 h.l0 4 = (((0 : Nat) : Int), topB h h.l0 0)) := Lib.hid (by show stepB (onB h s h.e0 3) 3 h.p3 (stB h s h.e0 h.l0 3) = _; rw [HN.out]; exact stepB_low _ _ _ _ _ hl)
          have HU : RowKit.Hid ((0 : Nat) = 0 ∨ h.l0 < topB h h.l0 0) := Lib.hid (.inl rfl)
          go_upto_region 7 with (fail)
          have hne : Nonempty (Near _) := ⟨⟨wr, Below.refl _ _⟩⟩
          refine wp_region_near (by kernel_rfl) (by kernel_rfl) ?_
          repeat (first | (go_big_quiet_want; (with_reducible refine quiet_by _ (fun w hw => exec_load (t := 33) rfl (near_load X1.out w hw) rfl) ?_); simp only [Act.put, List.setIfInBounds_toArray, List.set_cons_zero, List.set_cons_succ]; go_big_quiet_on) | (go_big_quiet_want; (with_reducible refine quiet_by _ (fun w hw => exec_load (t := 29) rfl (near_e0 X1.out w hw) rfl) ?_); simp only [Act.put, List.setIfInBounds_toArray, List.set_cons_zero, List.set_cons_succ]; go_big_quiet_on) | (go_big_quiet_want; (with_reducible refine quiet_by _ (fun w hw => exec_load (t := 29) rfl (near_p3 X1.out w hw) rfl) ?_); simp only [Act.put, List.setIfInBounds_toArray, List.set_cons_zero, List.set_cons_succ]; go_big_quiet_on) | (go_big_quiet_want; (with_reducible refine quiet_by _ (fun w hw => exec_load (t := 29) rfl (near_l0 X1.out w hw) rfl) ?_); simp only [Act.put, List.setIfInBounds_toArray, List.set_cons_zero, List.set_cons_succ]; go_big_quiet_on) | go_big_quiet_step (first | (go_at_call 64; exact near_call (rwait_any h s _)) | fail))
          refine wpQuiet_nil ?_
          rintro _ ⟨pn, rfl⟩
          have HV := Lib.hid (HW.out.trans (pn.near.mono HW.out.size))
          clear hne
          generalize pn.wx = w3 at *
          go_wp2_with fail
          go_round
          case rel => exact ⟨4, 0, by omega, by omega, by omega, rfl, rfl, HS, HU, HV⟩
          case measure => simp [intOf]
      · have hz : (bits .and .u32 ((bits .and .u32 (waitV s h.c) h.e0) / 8) 1 == 1) = false := a3.out.trans hm
        have HS : RowKit.Hid (stB h s h.e0 h.l0 4 = (((0 : Nat) : Int), topB h h.l0 0)) := Lib.hid (by show stepB (onB h s h.e0 3) 3 h.p3 (stB h s h.e0 h.l0 3) = _; rw [HN.out]; exact stepB_off _ _ _ _ _ hm)
        have HU : RowKit.Hid ((0 : Nat) = 0 ∨ h.l0 < topB h h.l0 0) := Lib.hid (HT.out)
        go_upto_region 7 with (fail)
        have hne : Nonempty (Near _) := ⟨⟨wr, Below.refl _ _⟩⟩
        refine wp_region_near (by kernel_rfl) (by kernel_rfl) ?_
        repeat (first | (go_big_quiet_want; (with_reducible refine quiet_by _ (fun w hw => exec_load (t := 33) rfl (near_load X1.out w hw) rfl) ?_); simp only [Act.put, List.setIfInBounds_toArray, List.set_cons_zero, List.set_cons_succ]; go_big_quiet_on) | (go_big_quiet_want; (with_reducible refine quiet_by _ (fun w hw => exec_load (t := 29) rfl (near_e0 X1.out w hw) rfl) ?_); simp only [Act.put, List.setIfInBounds_toArray, List.set_cons_zero, List.set_cons_succ]; go_big_quiet_on) | go_big_quiet_step (first | (go_at_call 64; exact near_call (rwait_any h s _)) | fail))
        refine wpQuiet_nil ?_
        rintro _ ⟨pn, rfl⟩
        have HV := Lib.hid (HW.out.trans (pn.near.mono HW.out.size))
        clear hne
        generalize pn.wx = w3 at *
        go_wp2_with fail
        go_round
        case rel => exact ⟨4, 0, by omega, by omega, by omega, rfl, rfl, HS, HU, HV⟩
        case measure => simp [intOf]
    | 3, 1, _, _, _, HN, HT =>
      rcases Bool.eq_false_or_eq_true (onB h s h.e0 3) with hm | hm
      · have hz : (bits .and .u32 ((bits .and .u32 (waitV s h.c) h.e0) / 8) 1 == 1) = true := a3.out.trans hm
        by_cases hl : h.l0 < h.p3
        · have hx : h.l0 < h.p1 := HT.out.resolve_left (by decide)
          have HX := Lib.hid hx
          clear hx
          by_cases ht : h.p1 < h.p3
          · have HS : RowKit.Hid (stB h s h.e0 h.l0 4 = (((3 : Nat) : Int), topB h h.l0 3)) := Lib.hid (by show stepB (onB h s h.e0 3) 3 h.p3 (stB h s h.e0 h.l0 3) = _; rw [HN.out]; exact stepB_take _ _ _ _ _ hm ht)
            have HU : RowKit.Hid ((3 : Nat) = 0 ∨ h.l0 < topB h h.l0 3) := Lib.hid (.inr hl)
            go_upto_region 7 with (fail)
            have hne : Nonempty (Near _) := ⟨⟨wr, Below.refl _ _⟩⟩
            refine wp_region_near (by kernel_rfl) (by kernel_rfl) ?_
            repeat (first | (go_big_quiet_want; (with_reducible refine quiet_by _ (fun w hw => exec_load (t := 33) rfl (near_load X1.out w hw) rfl) ?_); simp only [Act.put, List.setIfInBounds_toArray, List.set_cons_zero, List.set_cons_succ]; go_big_quiet_on) | (go_big_quiet_want; (with_reducible refine quiet_by _ (fun w hw => exec_load (t := 29) rfl (near_e0 X1.out w hw) rfl) ?_); simp only [Act.put, List.setIfInBounds_toArray, List.set_cons_zero, List.set_cons_succ]; go_big_quiet_on) | (go_big_quiet_want; (with_reducible refine quiet_by _ (fun w hw => exec_load (t := 29) rfl (near_p3 X1.out w hw) rfl) ?_); simp only [Act.put, List.setIfInBounds_toArray, List.set_cons_zero, List.set_cons_succ]; go_big_quiet_on) | (go_big_quiet_want; (with_reducible refine quiet_by _ (fun w hw => exec_load (t := 29) rfl (near_l0 X1.out w hw) rfl) ?_); simp only [Act.put, List.setIfInBounds_toArray, List.set_cons_zero, List.set_cons_succ]; go_big_quiet_on) | (go_big_quiet_want; (with_reducible refine quiet_by _ (fun w hw => exec_load (t := 29) rfl (near_p1 X1.out w hw) rfl) ?_); simp only [Act.put, List.setIfInBounds_toArray, List.set_cons_zero, List.set_cons_succ]; go_big_quiet_on) | go_big_quiet_step (first | (go_at_call 64; exact near_call (rwait_any h s _)) | fail))
            refine wpQuiet_nil ?_
            rintro _ ⟨pn, rfl⟩
            have HV := Lib.hid (HW.out.trans (pn.near.mono HW.out.size))
            clear hne
            generalize pn.wx = w3 at *
            go_wp2_with fail
            go_round
            case rel => exact ⟨4, 3, by omega, by omega, by omega, rfl, rfl, HS, HU, HV⟩
            case measure => simp [intOf]
          · have HS : RowKit.Hid (stB h s h.e0 h.l0 4 = (((1 : Nat) : Int), topB h h.l0 1)) := Lib.hid (by show stepB (onB h s h.e0 3) 3 h.p3 (stB h s h.e0 h.l0 3) = _; rw [HN.out]; exact stepB_low _ _ _ _ _ ht)
            have HU : RowKit.Hid ((1 : Nat) = 0 ∨ h.l0 < topB h h.l0 1) := Lib.hid (.inr HX.out)
            go_upto_region 7 with (fail)
            have hne : Nonempty (Near _) := ⟨⟨wr, Below.refl _ _⟩⟩
            refine wp_region_near (by kernel_rfl) (by kernel_rfl) ?_
            repeat (first | (go_big_quiet_want; (with_reducible refine quiet_by _ (fun w hw => exec_load (t := 33) rfl (near_load X1.out w hw) rfl) ?_); simp only [Act.put, List.setIfInBounds_toArray, List.set_cons_zero, List.set_cons_succ]; go_big_quiet_on) | (go_big_quiet_want; (with_reducible refine quiet_by _ (fun w hw => exec_load (t := 29) rfl (near_e0 X1.out w hw) rfl) ?_); simp only [Act.put, List.setIfInBounds_toArray, List.set_cons_zero, List.set_cons_succ]; go_big_quiet_on) | (go_big_quiet_want; (with_reducible refine quiet_by _ (fun w hw => exec_load (t := 29) rfl (near_p3 X1.out w hw) rfl) ?_); simp only [Act.put, List.setIfInBounds_toArray, List.set_cons_zero, List.set_cons_succ]; go_big_quiet_on) | (go_big_quiet_want; (with_reducible refine quiet_by _ (fun w hw => exec_load (t := 29) rfl (near_l0 X1.out w hw) rfl) ?_); simp only [Act.put, List.setIfInBounds_toArray, List.set_cons_zero, List.set_cons_succ]; go_big_quiet_on) | (go_big_quiet_want; (with_reducible refine quiet_by _ (fun w hw => exec_load (t := 29) rfl (near_p1 X1.out w hw) rfl) ?_); simp only [Act.put, List.setIfInBounds_toArray, List.set_cons_zero, List.set_cons_succ]; go_big_quiet_on) | go_big_quiet_step (first | (go_at_call 64; exact near_call (rwait_any h s _)) | fail))
            refine wpQuiet_nil ?_
            rintro _ ⟨pn, rfl⟩
            have HV := Lib.hid (HW.out.trans (pn.near.mono HW.out.size))
            clear hne
            generalize pn.wx = w3 at *
            go_wp2_with fail
            go_round
            case rel => exact ⟨4, 1, by omega, by omega, by omega, rfl, rfl, HS, HU, HV⟩
            case measure => simp [intOf]
        · have hx : h.l0 < h.p1 := HT.out.resolve_left (by decide)
          have HX := Lib.hid hx
          have ht : ¬ h.p1 < h.p3 := by omega
          have HY := Lib.hid ht
          clear hx ht
          have HS : RowKit.Hid (stB h s h.e0 h.l0 4 = (((1 : Nat) : Int), topB h h.l0 1)) := Lib.hid (by show stepB (onB h s h.e0 3) 3 h.p3 (stB h s h.e0 h.l0 3) = _; rw [HN.out]; exact stepB_low _ _ _ _ _ HY.out)
          have HU : RowKit.Hid ((1 : Nat) = 0 ∨ h.l0 < topB h h.l0 1) := Lib.hid (.inr HX.out)
          go_upto_region 7 with (fail)
          have hne : Nonempty (Near _) := ⟨⟨wr, Below.refl _ _⟩⟩
          refine wp_region_near (by kernel_rfl) (by kernel_rfl) ?_
          repeat (first | (go_big_quiet_want; (with_reducible refine quiet_by _ (fun w hw => exec_load (t := 33) rfl (near_load X1.out w hw) rfl) ?_); simp only [Act.put, List.setIfInBounds_toArray, List.set_cons_zero, List.set_cons_succ]; go_big_quiet_on) | (go_big_quiet_want; (with_reducible refine quiet_by _ (fun w hw => exec_load (t := 29) rfl (near_e0 X1.out w hw) rfl) ?_); simp only [Act.put, List.setIfInBounds_toArray, List.set_cons_zero, List.set_cons_succ]; go_big_quiet_on) | (go_big_quiet_want; (with_reducible refine quiet_by _ (fun w hw => exec_load (t := 29) rfl (near_p3 X1.out w hw) rfl) ?_); simp only [Act.put, List.setIfInBounds_toArray, List.set_cons_zero, List.set_cons_succ]; go_big_quiet_on) | (go_big_quiet_want; (with_reducible refine quiet_by _ (fun w hw => exec_load (t := 29) rfl (near_l0 X1.out w hw) rfl) ?_); simp only [Act.put, List.setIfInBounds_toArray, List.set_cons_zero, List.set_cons_succ]; go_big_quiet_on) | go_big_quiet_step (first | (go_at_call 64; exact near_call (rwait_any h s _)) | fail))
          refine wpQuiet_nil ?_
          rintro _ ⟨pn, rfl⟩
          have HV := Lib.hid (HW.out.trans (pn.near.mono HW.out.size))
          clear hne
          generalize pn.wx = w3 at *
          go_wp2_with fail
          go_round
          case rel => exact ⟨4, 1, by omega, by omega, by omega, rfl, rfl, HS, HU, HV⟩
          case measure => simp [intOf]
      · have hz : (bits .and .u32 ((bits .and .u32 (waitV s h.c) h.e0) / 8) 1 == 1) = false := a3.out.trans hm
        have HS : RowKit.Hid (stB h s h.e0 h.l0 4 = (((1 : Nat) : Int), topB h h.l0 1)) := Lib.hid (by show stepB (onB h s h.e0 3) 3 h.p3 (stB h s h.e0 h.l0 3) = _; rw [HN.out]; exact stepB_off _ _ _ _ _ hm)
        have HU : RowKit.Hid ((1 : Nat) = 0 ∨ h.l0 < topB h h.l0 1) := Lib.hid (HT.out)
        go_upto_region 7 with (fail)
        have hne : Nonempty (Near _) := ⟨⟨wr, Below.refl _ _⟩⟩
        refine wp_region_near (by kernel_rfl) (by kernel_rfl) ?_
        repeat (first | (go_big_quiet_want; (with_reducible refine quiet_by _ (fun w hw => exec_load (t := 33) rfl (near_load X1.out w hw) rfl) ?_); simp only [Act.put, List.setIfInBounds_toArray, List.set_cons_zero, List.set_cons_succ]; go_big_quiet_on) | (go_big_quiet_want; (with_reducible refine quiet_by _ (fun w hw => exec_load (t := 29) rfl (near_e0 X1.out w hw) rfl) ?_); simp only [Act.put, List.setIfInBounds_toArray, List.set_cons_zero, List.set_cons_succ]; go_big_quiet_on) | go_big_quiet_step (first | (go_at_call 64; exact near_call (rwait_any h s _)) | fail))
        refine wpQuiet_nil ?_
        rintro _ ⟨pn, rfl⟩
        have HV := Lib.hid (HW.out.trans (pn.near.mono HW.out.size))
        clear hne
        generalize pn.wx = w3 at *
        go_wp2_with fail
        go_round
        case rel => exact ⟨4, 1, by omega, by omega, by omega, rfl, rfl, HS, HU, HV⟩
        case measure => simp [intOf]
    | 3, 2, _, _, _, HN, HT =>
      rcases Bool.eq_false_or_eq_true (onB h s h.e0 3) with hm | hm
      · have hz : (bits .and .u32 ((bits .and .u32 (waitV s h.c) h.e0) / 8) 1 == 1) = true := a3.out.trans hm
        by_cases hl : h.l0 < h.p3
        · have hx : h.l0 < h.p2 := HT.out.resolve_left (by decide)
          have HX := Lib.hid hx
          clear hx
          by_cases ht : h.p2 < h.p3
          · have HS : RowKit.Hid (stB h s h.e0 h.l0 4 = (((3 : Nat) : Int), topB h h.l0 3)) := Lib.hid (by show stepB (onB h s h.e0 3) 3 h.p3 (stB h s h.e0 h.l0 3) = _; rw [HN.out]; exact stepB_take _ _ _ _ _ hm ht)
            have HU : RowKit.Hid ((3 : Nat) = 0 ∨ h.l0 < topB h h.l0 3) := Lib.hid (.inr hl)
            go_upto_region 7 with (fail)
            have hne : Nonempty (Near _) := ⟨⟨wr, Below.refl _ _⟩⟩
            refine wp_region_near (by kernel_rfl) (by kernel_rfl) ?_
            repeat (first | (go_big_quiet_want; (with_reducible refine quiet_by _ (fun w hw => exec_load (t := 33) rfl (near_load X1.out w hw) rfl) ?_); simp only [Act.put, List.setIfInBounds_toArray, List.set_cons_zero, List.set_cons_succ]; go_big_quiet_on) | (go_big_quiet_want; (with_reducible refine quiet_by _ (fun w hw => exec_load (t := 29) rfl (near_e0 X1.out w hw) rfl) ?_); simp only [Act.put, List.setIfInBounds_toArray, List.set_cons_zero, List.set_cons_succ]; go_big_quiet_on) | (go_big_quiet_want; (with_reducible refine quiet_by _ (fun w hw => exec_load (t := 29) rfl (near_p3 X1.out w hw) rfl) ?_); simp only [Act.put, List.setIfInBounds_toArray, List.set_cons_zero, List.set_cons_succ]; go_big_quiet_on) | (go_big_quiet_want; (with_reducible refine quiet_by _ (fun w hw => exec_load (t := 29) rfl (near_l0 X1.out w hw) rfl) ?_); simp only [Act.put, List.setIfInBounds_toArray, List.set_cons_zero, List.set_cons_succ]; go_big_quiet_on) | (go_big_quiet_want; (with_reducible refine quiet_by _ (fun w hw => exec_load (t := 29) rfl (near_p2 X1.out w hw) rfl) ?_); simp only [Act.put, List.setIfInBounds_toArray, List.set_cons_zero, List.set_cons_succ]; go_big_quiet_on) | go_big_quiet_step (first | (go_at_call 64; exact near_call (rwait_any h s _)) | fail))
            refine wpQuiet_nil ?_
            rintro _ ⟨pn, rfl⟩
            have HV := Lib.hid (HW.out.trans (pn.near.mono HW.out.size))
            clear hne
            generalize pn.wx = w3 at *
            go_wp2_with fail
            go_round
            case rel => exact ⟨4, 3, by omega, by omega, by omega, rfl, rfl, HS, HU, HV⟩
            case measure => simp [intOf]
          · have HS : RowKit.Hid (stB h s h.e0 h.l0 4 = (((2 : Nat) : Int), topB h h.l0 2)) := Lib.hid (by show stepB (onB h s h.e0 3) 3 h.p3 (stB h s h.e0 h.l0 3) = _; rw [HN.out]; exact stepB_low _ _ _ _ _ ht)
            have HU : RowKit.Hid ((2 : Nat) = 0 ∨ h.l0 < topB h h.l0 2) := Lib.hid (.inr HX.out)
            go_upto_region 7 with (fail)
            have hne : Nonempty (Near _) := ⟨⟨wr, Below.refl _ _⟩⟩
            refine wp_region_near (by kernel_rfl) (by kernel_rfl) ?_
            repeat (first | (go_big_quiet_want; (with_reducible refine quiet_by _ (fun w hw => exec_load (t := 33) rfl (near_load X1.out w hw) rfl) ?_); simp only [Act.put, List.setIfInBounds_toArray, List.set_cons_zero, List.set_cons_succ]; go_big_quiet_on) | (go_big_quiet_want; (with_reducible refine quiet_by _ (fun w hw => exec_load (t := 29) rfl (near_e0 X1.out w hw) rfl) ?_); simp only [Act.put, List.setIfInBounds_toArray, List.set_cons_zero, List.set_cons_succ]; go_big_quiet_on) | (go_big_quiet_want; (with_reducible refine quiet_by _ (fun w hw => exec_load (t := 29) rfl (near_p3 X1.out w hw) rfl) ?_); simp only [Act.put, List.setIfInBounds_toArray, List.set_cons_zero, List.set_cons_succ]; go_big_quiet_on) | (go_big_quiet_want; (with_reducible refine quiet_by _ (fun w hw => exec_load (t := 29) rfl (near_l0 X1.out w hw) rfl) ?_); simp only [Act.put, List.setIfInBounds_toArray, List.set_cons_zero, List.set_cons_succ]; go_big_quiet_on) | (go_big_quiet_want; (with_reducible refine quiet_by _ (fun w hw => exec_load (t := 29) rfl (near_p2 X1.out w hw) rfl) ?_); simp only [Act.put, List.setIfInBounds_toArray, List.set_cons_zero, List.set_cons_succ]; go_big_quiet_on) | go_big_quiet_step (first | (go_at_call 64; exact near_call (rwait_any h s _)) | fail))
            refine wpQuiet_nil ?_
            rintro _ ⟨pn, rfl⟩
            have HV := Lib.hid (HW.out.trans (pn.near.mono HW.out.size))
            clear hne
            generalize pn.wx = w3 at *
            go_wp2_with fail
            go_round
            case rel => exact ⟨4, 2, by omega, by omega, by omega, rfl, rfl, HS, HU, HV⟩
            case measure => simp [intOf]
        · have hx : h.l0 < h.p2 := HT.out.resolve_left (by decide)
          have HX := Lib.hid hx
          have ht : ¬ h.p2 < h.p3 := by omega
          have HY := Lib.hid ht
          clear hx ht
          have HS : RowKit.Hid (stB h s h.e0 h.l0 4 = (((2 : Nat) : Int), topB h h.l0 2)) := Lib.hid (by show stepB (onB h s h.e0 3) 3 h.p3 (stB h s h.e0 h.l0 3) = _; rw [HN.out]; exact stepB_low _ _ _ _ _ HY.out)
          have HU : RowKit.Hid ((2 : Nat) = 0 ∨ h.l0 < topB h h.l0 2) := Lib.hid (.inr HX.out)
          go_upto_region 7 with (fail)
          have hne : Nonempty (Near _) := ⟨⟨wr, Below.refl _ _⟩⟩
          refine wp_region_near (by kernel_rfl) (by kernel_rfl) ?_
          repeat (first | (go_big_quiet_want; (with_reducible refine quiet_by _ (fun w hw => exec_load (t := 33) rfl (near_load X1.out w hw) rfl) ?_); simp only [Act.put, List.setIfInBounds_toArray, List.set_cons_zero, List.set_cons_succ]; go_big_quiet_on) | (go_big_quiet_want; (with_reducible refine quiet_by _ (fun w hw => exec_load (t := 29) rfl (near_e0 X1.out w hw) rfl) ?_); simp only [Act.put, List.setIfInBounds_toArray, List.set_cons_zero, List.set_cons_succ]; go_big_quiet_on) | (go_big_quiet_want; (with_reducible refine quiet_by _ (fun w hw => exec_load (t := 29) rfl (near_p3 X1.out w hw) rfl) ?_); simp only [Act.put, List.setIfInBounds_toArray, List.set_cons_zero, List.set_cons_succ]; go_big_quiet_on) | (go_big_quiet_want; (with_reducible refine quiet_by _ (fun w hw => exec_load (t := 29) rfl (near_l0 X1.out w hw) rfl) ?_); simp only [Act.put, List.setIfInBounds_toArray, List.set_cons_zero, List.set_cons_succ]; go_big_quiet_on) | go_big_quiet_step (first | (go_at_call 64; exact near_call (rwait_any h s _)) | fail))
          refine wpQuiet_nil ?_
          rintro _ ⟨pn, rfl⟩
          have HV := Lib.hid (HW.out.trans (pn.near.mono HW.out.size))
          clear hne
          generalize pn.wx = w3 at *
          go_wp2_with fail
          go_round
          case rel => exact ⟨4, 2, by omega, by omega, by omega, rfl, rfl, HS, HU, HV⟩
          case measure => simp [intOf]
      · have hz : (bits .and .u32 ((bits .and .u32 (waitV s h.c) h.e0) / 8) 1 == 1) = false := a3.out.trans hm
        have HS : RowKit.Hid (stB h s h.e0 h.l0 4 = (((2 : Nat) : Int), topB h h.l0 2)) := Lib.hid (by show stepB (onB h s h.e0 3) 3 h.p3 (stB h s h.e0 h.l0 3) = _; rw [HN.out]; exact stepB_off _ _ _ _ _ hm)
        have HU : RowKit.Hid ((2 : Nat) = 0 ∨ h.l0 < topB h h.l0 2) := Lib.hid (HT.out)
        go_upto_region 7 with (fail)
        have hne : Nonempty (Near _) := ⟨⟨wr, Below.refl _ _⟩⟩
        refine wp_region_near (by kernel_rfl) (by kernel_rfl) ?_
        repeat (first | (go_big_quiet_want; (with_reducible refine quiet_by _ (fun w hw => exec_load (t := 33) rfl (near_load X1.out w hw) rfl) ?_); simp only [Act.put, List.setIfInBounds_toArray, List.set_cons_zero, List.set_cons_succ]; go_big_quiet_on) | (go_big_quiet_want; (with_reducible refine quiet_by _ (fun w hw => exec_load (t := 29) rfl (near_e0 X1.out w hw) rfl) ?_); simp only [Act.put, List.setIfInBounds_toArray, List.set_cons_zero, List.set_cons_succ]; go_big_quiet_on) | go_big_quiet_step (first | (go_at_call 64; exact near_call (rwait_any h s _)) | fail))
        refine wpQuiet_nil ?_
        rintro _ ⟨pn, rfl⟩
        have HV := Lib.hid (HW.out.trans (pn.near.mono HW.out.size))
        clear hne
        generalize pn.wx = w3 at *
        go_wp2_with fail
        go_round
        case rel => exact ⟨4, 2, by omega, by omega, by omega, rfl, rfl, HS, HU, HV⟩
        case measure => simp [intOf]
    | 4, 0, _, _, _, HN, HT =>
      have HE : RowKit.Hid ((stB h s h.e0 h.l0 4).1 = 0) := Lib.hid (by rw [HN.out]; rfl)
      go_wp2_with fail
      go_ret
      exact ⟨ret_int HE.out.symm, B0.out.trans (HW.out.mono hsz)⟩
    | 4, 1, _, _, _, HN, HT =>
      have HE : RowKit.Hid ((stB h s h.e0 h.l0 4).1 = 1) := Lib.hid (by rw [HN.out]; rfl)
      go_wp2_with fail
      go_ret
      exact ⟨ret_int HE.out.symm, B0.out.trans (HW.out.mono hsz)⟩
    | 4, 2, _, _, _, HN, HT =>
      have HE : RowKit.Hid ((stB h s h.e0 h.l0 4).1 = 2) := Lib.hid (by rw [HN.out]; rfl)
      go_wp2_with fail
      go_ret
      exact ⟨ret_int HE.out.symm, B0.out.trans (HW.out.mono hsz)⟩
    | 4, 3, _, _, _, HN, HT =>
      have HE : RowKit.Hid ((stB h s h.e0 h.l0 4).1 = 3) := Lib.hid (by rw [HN.out]; rfl)
      go_wp2_with fail
      go_ret
      exact ⟨ret_int HE.out.symm, B0.out.trans (HW.out.mono hsz)⟩
set_option maxRecDepth 100000 in
set_option maxHeartbeats 1000000 in
theorem rbest_1 (h : Pl) (s : Int) (W : World) : Calls Try.prog 46 #[plV h, .int .u32 s, .int .i64 1] W fun e W' => e = .returned (.int .i64 (stB h s h.e1 h.l1 4).1) ∧ Below W.heap.size W W' := by
  have a1 := Lib.hid (shift_1 (bits .and .u32 (waitV s h.c) h.e1) (u32_and _ _))
  have a2 := Lib.hid (shift_2 (bits .and .u32 (waitV s h.c) h.e1) (u32_and _ _))
  have a3 := Lib.hid (shift_3 (bits .and .u32 (waitV s h.c) h.e1) (u32_and _ _))
  go_enter Try.func46, Try.ntmps46
  go_upto_region 1 with (fail)
  have X0 := Lib.hid (Box.new W h)
  have B0 := Lib.hid (show Below W.heap.size W (W.alloc (plO h)) from (Below.refl _ _).alloc (Nat.le_refl _) _)
  generalize hw0 : W.alloc (plO h) = w0 at *
  have hsz : W.heap.size ≤ w0.heap.size := B0.out.size
  go_wp2_with fail
  go_loopw [7, 8] (fun b i wr => ∃ (k j : Nat), 1 ≤ k ∧ k ≤ 4 ∧ j < k ∧ i = .int .i64 k ∧ b = .int .i64 j ∧ RowKit.Hid (stB h s h.e1 h.l1 k = ((j : Int), topB h h.l1 j)) ∧ RowKit.Hid (j = 0 ∨ h.l1 < topB h h.l1 j) ∧ RowKit.Hid (Below w0.heap.size w0 wr)) (fun _ i _ => 4 - (intOf i).toNat)
  case atStart => exact ⟨1, 0, by omega, by omega, by omega, rfl, rfl, Lib.hid rfl, Lib.hid (.inl rfl), Lib.hid (Below.refl _ _)⟩
  case round =>
    obtain ⟨k, j, hk1, hk, hj, rfl, rfl, HN, HT, HW⟩ := hrel
    have X1 := Lib.hid (X0.out.next HW.out)
    match k, j, hk1, hk, hj, HN, HT with
    | 1, 0, _, _, _, HN, HT =>
      rcases Bool.eq_false_or_eq_true (onB h s h.e1 1) with hm | hm
      · have hz : (bits .and .u32 ((bits .and .u32 (waitV s h.c) h.e1) / 2) 1 == 1) = true := a1.out.trans hm
        by_cases hl : h.l1 < h.p1
        · have HS : RowKit.Hid (stB h s h.e1 h.l1 2 = (((1 : Nat) : Int), topB h h.l1 1)) := Lib.hid (by show stepB (onB h s h.e1 1) 1 h.p1 (stB h s h.e1 h.l1 1) = _; rw [HN.out]; exact stepB_take _ _ _ _ _ hm hl)
          have HU : RowKit.Hid ((1 : Nat) = 0 ∨ h.l1 < topB h h.l1 1) := Lib.hid (.inr hl)
          go_upto_region 7 with (fail)
          have hne : Nonempty (Near _) := ⟨⟨wr, Below.refl _ _⟩⟩
          refine wp_region_near (by kernel_rfl) (by kernel_rfl) ?_
          repeat (first | (go_big_quiet_want; (with_reducible refine quiet_by _ (fun w hw => exec_load (t := 33) rfl (near_load X1.out w hw) rfl) ?_); simp only [Act.put, List.setIfInBounds_toArray, List.set_cons_zero, List.set_cons_succ]; go_big_quiet_on) | (go_big_quiet_want; (with_reducible refine quiet_by _ (fun w hw => exec_load (t := 29) rfl (near_e1 X1.out w hw) rfl) ?_); simp only [Act.put, List.setIfInBounds_toArray, List.set_cons_zero, List.set_cons_succ]; go_big_quiet_on) | (go_big_quiet_want; (with_reducible refine quiet_by _ (fun w hw => exec_load (t := 29) rfl (near_p1 X1.out w hw) rfl) ?_); simp only [Act.put, List.setIfInBounds_toArray, List.set_cons_zero, List.set_cons_succ]; go_big_quiet_on) | (go_big_quiet_want; (with_reducible refine quiet_by _ (fun w hw => exec_load (t := 29) rfl (near_l1 X1.out w hw) rfl) ?_); simp only [Act.put, List.setIfInBounds_toArray, List.set_cons_zero, List.set_cons_succ]; go_big_quiet_on) | go_big_quiet_step (first | (go_at_call 64; exact near_call (rwait_any h s _)) | fail))
          refine wpQuiet_nil ?_
          rintro _ ⟨pn, rfl⟩
          have HV := Lib.hid (HW.out.trans (pn.near.mono HW.out.size))
          clear hne
          generalize pn.wx = w3 at *
          go_wp2_with fail
          go_round
          case rel => exact ⟨2, 1, by omega, by omega, by omega, rfl, rfl, HS, HU, HV⟩
          case measure => simp [intOf]
        · have HS : RowKit.Hid (stB h s h.e1 h.l1 2 = (((0 : Nat) : Int), topB h h.l1 0)) := Lib.hid (by show stepB (onB h s h.e1 1) 1 h.p1 (stB h s h.e1 h.l1 1) = _; rw [HN.out]; exact stepB_low _ _ _ _ _ hl)
          have HU : RowKit.Hid ((0 : Nat) = 0 ∨ h.l1 < topB h h.l1 0) := Lib.hid (.inl rfl)
          go_upto_region 7 with (fail)
          have hne : Nonempty (Near _) := ⟨⟨wr, Below.refl _ _⟩⟩
          refine wp_region_near (by kernel_rfl) (by kernel_rfl) ?_
          repeat (first | (go_big_quiet_want; (with_reducible refine quiet_by _ (fun w hw => exec_load (t := 33) rfl (near_load X1.out w hw) rfl) ?_); simp only [Act.put, List.setIfInBounds_toArray, List.set_cons_zero, List.set_cons_succ]; go_big_quiet_on) | (go_big_quiet_want; (with_reducible refine quiet_by _ (fun w hw => exec_load (t := 29) rfl (near_e1 X1.out w hw) rfl) ?_); simp only [Act.put, List.setIfInBounds_toArray, List.set_cons_zero, List.set_cons_succ]; go_big_quiet_on) | (go_big_quiet_want; (with_reducible refine quiet_by _ (fun w hw => exec_load (t := 29) rfl (near_p1 X1.out w hw) rfl) ?_); simp only [Act.put, List.setIfInBounds_toArray, List.set_cons_zero, List.set_cons_succ]; go_big_quiet_on) | (go_big_quiet_want; (with_reducible refine quiet_by _ (fun w hw => exec_load (t := 29) rfl (near_l1 X1.out w hw) rfl) ?_); simp only [Act.put, List.setIfInBounds_toArray, List.set_cons_zero, List.set_cons_succ]; go_big_quiet_on) | go_big_quiet_step (first | (go_at_call 64; exact near_call (rwait_any h s _)) | fail))
          refine wpQuiet_nil ?_
          rintro _ ⟨pn, rfl⟩
          have HV := Lib.hid (HW.out.trans (pn.near.mono HW.out.size))
          clear hne
          generalize pn.wx = w3 at *
          go_wp2_with fail
          go_round
          case rel => exact ⟨2, 0, by omega, by omega, by omega, rfl, rfl, HS, HU, HV⟩
          case measure => simp [intOf]
      · have hz : (bits .and .u32 ((bits .and .u32 (waitV s h.c) h.e1) / 2) 1 == 1) = false := a1.out.trans hm
        have HS : RowKit.Hid (stB h s h.e1 h.l1 2 = (((0 : Nat) : Int), topB h h.l1 0)) := Lib.hid (by show stepB (onB h s h.e1 1) 1 h.p1 (stB h s h.e1 h.l1 1) = _; rw [HN.out]; exact stepB_off _ _ _ _ _ hm)
        have HU : RowKit.Hid ((0 : Nat) = 0 ∨ h.l1 < topB h h.l1 0) := Lib.hid (HT.out)
        go_upto_region 7 with (fail)
        have hne : Nonempty (Near _) := ⟨⟨wr, Below.refl _ _⟩⟩
        refine wp_region_near (by kernel_rfl) (by kernel_rfl) ?_
        repeat (first | (go_big_quiet_want; (with_reducible refine quiet_by _ (fun w hw => exec_load (t := 33) rfl (near_load X1.out w hw) rfl) ?_); simp only [Act.put, List.setIfInBounds_toArray, List.set_cons_zero, List.set_cons_succ]; go_big_quiet_on) | (go_big_quiet_want; (with_reducible refine quiet_by _ (fun w hw => exec_load (t := 29) rfl (near_e1 X1.out w hw) rfl) ?_); simp only [Act.put, List.setIfInBounds_toArray, List.set_cons_zero, List.set_cons_succ]; go_big_quiet_on) | go_big_quiet_step (first | (go_at_call 64; exact near_call (rwait_any h s _)) | fail))
        refine wpQuiet_nil ?_
        rintro _ ⟨pn, rfl⟩
        have HV := Lib.hid (HW.out.trans (pn.near.mono HW.out.size))
        clear hne
        generalize pn.wx = w3 at *
        go_wp2_with fail
        go_round
        case rel => exact ⟨2, 0, by omega, by omega, by omega, rfl, rfl, HS, HU, HV⟩
        case measure => simp [intOf]
    | 2, 0, _, _, _, HN, HT =>
      rcases Bool.eq_false_or_eq_true (onB h s h.e1 2) with hm | hm
      · have hz : (bits .and .u32 ((bits .and .u32 (waitV s h.c) h.e1) / 4) 1 == 1) = true := a2.out.trans hm
        by_cases hl : h.l1 < h.p2
        · have HS : RowKit.Hid (stB h s h.e1 h.l1 3 = (((2 : Nat) : Int), topB h h.l1 2)) := Lib.hid (by show stepB (onB h s h.e1 2) 2 h.p2 (stB h s h.e1 h.l1 2) = _; rw [HN.out]; exact stepB_take _ _ _ _ _ hm hl)
          have HU : RowKit.Hid ((2 : Nat) = 0 ∨ h.l1 < topB h h.l1 2) := Lib.hid (.inr hl)
          go_upto_region 7 with (fail)
          have hne : Nonempty (Near _) := ⟨⟨wr, Below.refl _ _⟩⟩
          refine wp_region_near (by kernel_rfl) (by kernel_rfl) ?_
          repeat (first | (go_big_quiet_want; (with_reducible refine quiet_by _ (fun w hw => exec_load (t := 33) rfl (near_load X1.out w hw) rfl) ?_); simp only [Act.put, List.setIfInBounds_toArray, List.set_cons_zero, List.set_cons_succ]; go_big_quiet_on) | (go_big_quiet_want; (with_reducible refine quiet_by _ (fun w hw => exec_load (t := 29) rfl (near_e1 X1.out w hw) rfl) ?_); simp only [Act.put, List.setIfInBounds_toArray, List.set_cons_zero, List.set_cons_succ]; go_big_quiet_on) | (go_big_quiet_want; (with_reducible refine quiet_by _ (fun w hw => exec_load (t := 29) rfl (near_p2 X1.out w hw) rfl) ?_); simp only [Act.put, List.setIfInBounds_toArray, List.set_cons_zero, List.set_cons_succ]; go_big_quiet_on) | (go_big_quiet_want; (with_reducible refine quiet_by _ (fun w hw => exec_load (t := 29) rfl (near_l1 X1.out w hw) rfl) ?_); simp only [Act.put, List.setIfInBounds_toArray, List.set_cons_zero, List.set_cons_succ]; go_big_quiet_on) | go_big_quiet_step (first | (go_at_call 64; exact near_call (rwait_any h s _)) | fail))
          refine wpQuiet_nil ?_
          rintro _ ⟨pn, rfl⟩
          have HV := Lib.hid (HW.out.trans (pn.near.mono HW.out.size))
          clear hne
          generalize pn.wx = w3 at *
          go_wp2_with fail
          go_round
          case rel => exact ⟨3, 2, by omega, by omega, by omega, rfl, rfl, HS, HU, HV⟩
          case measure => simp [intOf]
        · have HS : RowKit.Hid (stB h s h.e1 h.l1 3 = (((0 : Nat) : Int), topB h h.l1 0)) := Lib.hid (by show stepB (onB h s h.e1 2) 2 h.p2 (stB h s h.e1 h.l1 2) = _; rw [HN.out]; exact stepB_low _ _ _ _ _ hl)
          have HU : RowKit.Hid ((0 : Nat) = 0 ∨ h.l1 < topB h h.l1 0) := Lib.hid (.inl rfl)
          go_upto_region 7 with (fail)
          have hne : Nonempty (Near _) := ⟨⟨wr, Below.refl _ _⟩⟩
          refine wp_region_near (by kernel_rfl) (by kernel_rfl) ?_
          repeat (first | (go_big_quiet_want; (with_reducible refine quiet_by _ (fun w hw => exec_load (t := 33) rfl (near_load X1.out w hw) rfl) ?_); simp only [Act.put, List.setIfInBounds_toArray, List.set_cons_zero, List.set_cons_succ]; go_big_quiet_on) | (go_big_quiet_want; (with_reducible refine quiet_by _ (fun w hw => exec_load (t := 29) rfl (near_e1 X1.out w hw) rfl) ?_); simp only [Act.put, List.setIfInBounds_toArray, List.set_cons_zero, List.set_cons_succ]; go_big_quiet_on) | (go_big_quiet_want; (with_reducible refine quiet_by _ (fun w hw => exec_load (t := 29) rfl (near_p2 X1.out w hw) rfl) ?_); simp only [Act.put, List.setIfInBounds_toArray, List.set_cons_zero, List.set_cons_succ]; go_big_quiet_on) | (go_big_quiet_want; (with_reducible refine quiet_by _ (fun w hw => exec_load (t := 29) rfl (near_l1 X1.out w hw) rfl) ?_); simp only [Act.put, List.setIfInBounds_toArray, List.set_cons_zero, List.set_cons_succ]; go_big_quiet_on) | go_big_quiet_step (first | (go_at_call 64; exact near_call (rwait_any h s _)) | fail))
          refine wpQuiet_nil ?_
          rintro _ ⟨pn, rfl⟩
          have HV := Lib.hid (HW.out.trans (pn.near.mono HW.out.size))
          clear hne
          generalize pn.wx = w3 at *
          go_wp2_with fail
          go_round
          case rel => exact ⟨3, 0, by omega, by omega, by omega, rfl, rfl, HS, HU, HV⟩
          case measure => simp [intOf]
      · have hz : (bits .and .u32 ((bits .and .u32 (waitV s h.c) h.e1) / 4) 1 == 1) = false := a2.out.trans hm
        have HS : RowKit.Hid (stB h s h.e1 h.l1 3 = (((0 : Nat) : Int), topB h h.l1 0)) := Lib.hid (by show stepB (onB h s h.e1 2) 2 h.p2 (stB h s h.e1 h.l1 2) = _; rw [HN.out]; exact stepB_off _ _ _ _ _ hm)
        have HU : RowKit.Hid ((0 : Nat) = 0 ∨ h.l1 < topB h h.l1 0) := Lib.hid (HT.out)
        go_upto_region 7 with (fail)
        have hne : Nonempty (Near _) := ⟨⟨wr, Below.refl _ _⟩⟩
        refine wp_region_near (by kernel_rfl) (by kernel_rfl) ?_
        repeat (first | (go_big_quiet_want; (with_reducible refine quiet_by _ (fun w hw => exec_load (t := 33) rfl (near_load X1.out w hw) rfl) ?_); simp only [Act.put, List.setIfInBounds_toArray, List.set_cons_zero, List.set_cons_succ]; go_big_quiet_on) | (go_big_quiet_want; (with_reducible refine quiet_by _ (fun w hw => exec_load (t := 29) rfl (near_e1 X1.out w hw) rfl) ?_); simp only [Act.put, List.setIfInBounds_toArray, List.set_cons_zero, List.set_cons_succ]; go_big_quiet_on) | go_big_quiet_step (first | (go_at_call 64; exact near_call (rwait_any h s _)) | fail))
        refine wpQuiet_nil ?_
        rintro _ ⟨pn, rfl⟩
        have HV := Lib.hid (HW.out.trans (pn.near.mono HW.out.size))
        clear hne
        generalize pn.wx = w3 at *
        go_wp2_with fail
        go_round
        case rel => exact ⟨3, 0, by omega, by omega, by omega, rfl, rfl, HS, HU, HV⟩
        case measure => simp [intOf]
    | 2, 1, _, _, _, HN, HT =>
      rcases Bool.eq_false_or_eq_true (onB h s h.e1 2) with hm | hm
      · have hz : (bits .and .u32 ((bits .and .u32 (waitV s h.c) h.e1) / 4) 1 == 1) = true := a2.out.trans hm
        by_cases hl : h.l1 < h.p2
        · have hx : h.l1 < h.p1 := HT.out.resolve_left (by decide)
          have HX := Lib.hid hx
          clear hx
          by_cases ht : h.p1 < h.p2
          · have HS : RowKit.Hid (stB h s h.e1 h.l1 3 = (((2 : Nat) : Int), topB h h.l1 2)) := Lib.hid (by show stepB (onB h s h.e1 2) 2 h.p2 (stB h s h.e1 h.l1 2) = _; rw [HN.out]; exact stepB_take _ _ _ _ _ hm ht)
            have HU : RowKit.Hid ((2 : Nat) = 0 ∨ h.l1 < topB h h.l1 2) := Lib.hid (.inr hl)
            go_upto_region 7 with (fail)
            have hne : Nonempty (Near _) := ⟨⟨wr, Below.refl _ _⟩⟩
            refine wp_region_near (by kernel_rfl) (by kernel_rfl) ?_
            repeat (first | (go_big_quiet_want; (with_reducible refine quiet_by _ (fun w hw => exec_load (t := 33) rfl (near_load X1.out w hw) rfl) ?_); simp only [Act.put, List.setIfInBounds_toArray, List.set_cons_zero, List.set_cons_succ]; go_big_quiet_on) | (go_big_quiet_want; (with_reducible refine quiet_by _ (fun w hw => exec_load (t := 29) rfl (near_e1 X1.out w hw) rfl) ?_); simp only [Act.put, List.setIfInBounds_toArray, List.set_cons_zero, List.set_cons_succ]; go_big_quiet_on) | (go_big_quiet_want; (with_reducible refine quiet_by _ (fun w hw => exec_load (t := 29) rfl (near_p2 X1.out w hw) rfl) ?_); simp only [Act.put, List.setIfInBounds_toArray, List.set_cons_zero, List.set_cons_succ]; go_big_quiet_on) | (go_big_quiet_want; (with_reducible refine quiet_by _ (fun w hw => exec_load (t := 29) rfl (near_l1 X1.out w hw) rfl) ?_); simp only [Act.put, List.setIfInBounds_toArray, List.set_cons_zero, List.set_cons_succ]; go_big_quiet_on) | (go_big_quiet_want; (with_reducible refine quiet_by _ (fun w hw => exec_load (t := 29) rfl (near_p1 X1.out w hw) rfl) ?_); simp only [Act.put, List.setIfInBounds_toArray, List.set_cons_zero, List.set_cons_succ]; go_big_quiet_on) | go_big_quiet_step (first | (go_at_call 64; exact near_call (rwait_any h s _)) | fail))
            refine wpQuiet_nil ?_
            rintro _ ⟨pn, rfl⟩
            have HV := Lib.hid (HW.out.trans (pn.near.mono HW.out.size))
            clear hne
            generalize pn.wx = w3 at *
            go_wp2_with fail
            go_round
            case rel => exact ⟨3, 2, by omega, by omega, by omega, rfl, rfl, HS, HU, HV⟩
            case measure => simp [intOf]
          · have HS : RowKit.Hid (stB h s h.e1 h.l1 3 = (((1 : Nat) : Int), topB h h.l1 1)) := Lib.hid (by show stepB (onB h s h.e1 2) 2 h.p2 (stB h s h.e1 h.l1 2) = _; rw [HN.out]; exact stepB_low _ _ _ _ _ ht)
            have HU : RowKit.Hid ((1 : Nat) = 0 ∨ h.l1 < topB h h.l1 1) := Lib.hid (.inr HX.out)
            go_upto_region 7 with (fail)
            have hne : Nonempty (Near _) := ⟨⟨wr, Below.refl _ _⟩⟩
            refine wp_region_near (by kernel_rfl) (by kernel_rfl) ?_
            repeat (first | (go_big_quiet_want; (with_reducible refine quiet_by _ (fun w hw => exec_load (t := 33) rfl (near_load X1.out w hw) rfl) ?_); simp only [Act.put, List.setIfInBounds_toArray, List.set_cons_zero, List.set_cons_succ]; go_big_quiet_on) | (go_big_quiet_want; (with_reducible refine quiet_by _ (fun w hw => exec_load (t := 29) rfl (near_e1 X1.out w hw) rfl) ?_); simp only [Act.put, List.setIfInBounds_toArray, List.set_cons_zero, List.set_cons_succ]; go_big_quiet_on) | (go_big_quiet_want; (with_reducible refine quiet_by _ (fun w hw => exec_load (t := 29) rfl (near_p2 X1.out w hw) rfl) ?_); simp only [Act.put, List.setIfInBounds_toArray, List.set_cons_zero, List.set_cons_succ]; go_big_quiet_on) | (go_big_quiet_want; (with_reducible refine quiet_by _ (fun w hw => exec_load (t := 29) rfl (near_l1 X1.out w hw) rfl) ?_); simp only [Act.put, List.setIfInBounds_toArray, List.set_cons_zero, List.set_cons_succ]; go_big_quiet_on) | (go_big_quiet_want; (with_reducible refine quiet_by _ (fun w hw => exec_load (t := 29) rfl (near_p1 X1.out w hw) rfl) ?_); simp only [Act.put, List.setIfInBounds_toArray, List.set_cons_zero, List.set_cons_succ]; go_big_quiet_on) | go_big_quiet_step (first | (go_at_call 64; exact near_call (rwait_any h s _)) | fail))
            refine wpQuiet_nil ?_
            rintro _ ⟨pn, rfl⟩
            have HV := Lib.hid (HW.out.trans (pn.near.mono HW.out.size))
            clear hne
            generalize pn.wx = w3 at *
            go_wp2_with fail
            go_round
            case rel => exact ⟨3, 1, by omega, by omega, by omega, rfl, rfl, HS, HU, HV⟩
            case measure => simp [intOf]
        · have hx : h.l1 < h.p1 := HT.out.resolve_left (by decide)
          have HX := Lib.hid hx
          have ht : ¬ h.p1 < h.p2 := by omega
          have HY := Lib.hid ht
          clear hx ht
          have HS : RowKit.Hid (stB h s h.e1 h.l1 3 = (((1 : Nat) : Int), topB h h.l1 1)) := Lib.hid (by show stepB (onB h s h.e1 2) 2 h.p2 (stB h s h.e1 h.l1 2) = _; rw [HN.out]; exact stepB_low _ _ _ _ _ HY.out)
          have HU : RowKit.Hid ((1 : Nat) = 0 ∨ h.l1 < topB h h.l1 1) := Lib.hid (.inr HX.out)
          go_upto_region 7 with (fail)
          have hne : Nonempty (Near _) := ⟨⟨wr, Below.refl _ _⟩⟩
          refine wp_region_near (by kernel_rfl) (by kernel_rfl) ?_
          repeat (first | (go_big_quiet_want; (with_reducible refine quiet_by _ (fun w hw => exec_load (t := 33) rfl (near_load X1.out w hw) rfl) ?_); simp only [Act.put, List.setIfInBounds_toArray, List.set_cons_zero, List.set_cons_succ]; go_big_quiet_on) | (go_big_quiet_want; (with_reducible refine quiet_by _ (fun w hw => exec_load (t := 29) rfl (near_e1 X1.out w hw) rfl) ?_); simp only [Act.put, List.setIfInBounds_toArray, List.set_cons_zero, List.set_cons_succ]; go_big_quiet_on) | (go_big_quiet_want; (with_reducible refine quiet_by _ (fun w hw => exec_load (t := 29) rfl (near_p2 X1.out w hw) rfl) ?_); simp only [Act.put, List.setIfInBounds_toArray, List.set_cons_zero, List.set_cons_succ]; go_big_quiet_on) | (go_big_quiet_want; (with_reducible refine quiet_by _ (fun w hw => exec_load (t := 29) rfl (near_l1 X1.out w hw) rfl) ?_); simp only [Act.put, List.setIfInBounds_toArray, List.set_cons_zero, List.set_cons_succ]; go_big_quiet_on) | go_big_quiet_step (first | (go_at_call 64; exact near_call (rwait_any h s _)) | fail))
          refine wpQuiet_nil ?_
          rintro _ ⟨pn, rfl⟩
          have HV := Lib.hid (HW.out.trans (pn.near.mono HW.out.size))
          clear hne
          generalize pn.wx = w3 at *
          go_wp2_with fail
          go_round
          case rel => exact ⟨3, 1, by omega, by omega, by omega, rfl, rfl, HS, HU, HV⟩
          case measure => simp [intOf]
      · have hz : (bits .and .u32 ((bits .and .u32 (waitV s h.c) h.e1) / 4) 1 == 1) = false := a2.out.trans hm
        have HS : RowKit.Hid (stB h s h.e1 h.l1 3 = (((1 : Nat) : Int), topB h h.l1 1)) := Lib.hid (by show stepB (onB h s h.e1 2) 2 h.p2 (stB h s h.e1 h.l1 2) = _; rw [HN.out]; exact stepB_off _ _ _ _ _ hm)
        have HU : RowKit.Hid ((1 : Nat) = 0 ∨ h.l1 < topB h h.l1 1) := Lib.hid (HT.out)
        go_upto_region 7 with (fail)
        have hne : Nonempty (Near _) := ⟨⟨wr, Below.refl _ _⟩⟩
        refine wp_region_near (by kernel_rfl) (by kernel_rfl) ?_
        repeat (first | (go_big_quiet_want; (with_reducible refine quiet_by _ (fun w hw => exec_load (t := 33) rfl (near_load X1.out w hw) rfl) ?_); simp only [Act.put, List.setIfInBounds_toArray, List.set_cons_zero, List.set_cons_succ]; go_big_quiet_on) | (go_big_quiet_want; (with_reducible refine quiet_by _ (fun w hw => exec_load (t := 29) rfl (near_e1 X1.out w hw) rfl) ?_); simp only [Act.put, List.setIfInBounds_toArray, List.set_cons_zero, List.set_cons_succ]; go_big_quiet_on) | go_big_quiet_step (first | (go_at_call 64; exact near_call (rwait_any h s _)) | fail))
        refine wpQuiet_nil ?_
        rintro _ ⟨pn, rfl⟩
        have HV := Lib.hid (HW.out.trans (pn.near.mono HW.out.size))
        clear hne
        generalize pn.wx = w3 at *
        go_wp2_with fail
        go_round
        case rel => exact ⟨3, 1, by omega, by omega, by omega, rfl, rfl, HS, HU, HV⟩
        case measure => simp [intOf]
    | 3, 0, _, _, _, HN, HT =>
      rcases Bool.eq_false_or_eq_true (onB h s h.e1 3) with hm | hm
      · have hz : (bits .and .u32 ((bits .and .u32 (waitV s h.c) h.e1) / 8) 1 == 1) = true := a3.out.trans hm
        by_cases hl : h.l1 < h.p3
        · have HS : RowKit.Hid (stB h s h.e1 h.l1 4 = (((3 : Nat) : Int), topB h h.l1 3)) := Lib.hid (by show stepB (onB h s h.e1 3) 3 h.p3 (stB h s h.e1 h.l1 3) = _; rw [HN.out]; exact stepB_take _ _ _ _ _ hm hl)
          have HU : RowKit.Hid ((3 : Nat) = 0 ∨ h.l1 < topB h h.l1 3) := Lib.hid (.inr hl)
          go_upto_region 7 with (fail)
          have hne : Nonempty (Near _) := ⟨⟨wr, Below.refl _ _⟩⟩
          refine wp_region_near (by kernel_rfl) (by kernel_rfl) ?_
          repeat (first | (go_big_quiet_want; (with_reducible refine quiet_by _ (fun w hw => exec_load (t := 33) rfl (near_load X1.out w hw) rfl) ?_); simp only [Act.put, List.setIfInBounds_toArray, List.set_cons_zero, List.set_cons_succ]; go_big_quiet_on) | (go_big_quiet_want; (with_reducible refine quiet_by _ (fun w hw => exec_load (t := 29) rfl (near_e1 X1.out w hw) rfl) ?_); simp only [Act.put, List.setIfInBounds_toArray, List.set_cons_zero, List.set_cons_succ]; go_big_quiet_on) | (go_big_quiet_want; (with_reducible refine quiet_by _ (fun w hw => exec_load (t := 29) rfl (near_p3 X1.out w hw) rfl) ?_); simp only [Act.put, List.setIfInBounds_toArray, List.set_cons_zero, List.set_cons_succ]; go_big_quiet_on) | (go_big_quiet_want; (with_reducible refine quiet_by _ (fun w hw => exec_load (t := 29) rfl (near_l1 X1.out w hw) rfl) ?_); simp only [Act.put, List.setIfInBounds_toArray, List.set_cons_zero, List.set_cons_succ]; go_big_quiet_on) | go_big_quiet_step (first | (go_at_call 64; exact near_call (rwait_any h s _)) | fail))
          refine wpQuiet_nil ?_
          rintro _ ⟨pn, rfl⟩
          have HV := Lib.hid (HW.out.trans (pn.near.mono HW.out.size))
          clear hne
          generalize pn.wx = w3 at *
          go_wp2_with fail
          go_round
          case rel => exact ⟨4, 3, by omega, by omega, by omega, rfl, rfl, HS, HU, HV⟩
          case measure => simp [intOf]
        · have HS : RowKit.Hid (stB h s h.e1 h.l1 4 = (((0 : Nat) : Int), topB h h.l1 0)) := Lib.hid (by show stepB (onB h s h.e1 3) 3 h.p3 (stB h s h.e1 h.l1 3) = _; rw [HN.out]; exact stepB_low _ _ _ _ _ hl)
          have HU : RowKit.Hid ((0 : Nat) = 0 ∨ h.l1 < topB h h.l1 0) := Lib.hid (.inl rfl)
          go_upto_region 7 with (fail)
          have hne : Nonempty (Near _) := ⟨⟨wr, Below.refl _ _⟩⟩
          refine wp_region_near (by kernel_rfl) (by kernel_rfl) ?_
          repeat (first | (go_big_quiet_want; (with_reducible refine quiet_by _ (fun w hw => exec_load (t := 33) rfl (near_load X1.out w hw) rfl) ?_); simp only [Act.put, List.setIfInBounds_toArray, List.set_cons_zero, List.set_cons_succ]; go_big_quiet_on) | (go_big_quiet_want; (with_reducible refine quiet_by _ (fun w hw => exec_load (t := 29) rfl (near_e1 X1.out w hw) rfl) ?_); simp only [Act.put, List.setIfInBounds_toArray, List.set_cons_zero, List.set_cons_succ]; go_big_quiet_on) | (go_big_quiet_want; (with_reducible refine quiet_by _ (fun w hw => exec_load (t := 29) rfl (near_p3 X1.out w hw) rfl) ?_); simp only [Act.put, List.setIfInBounds_toArray, List.set_cons_zero, List.set_cons_succ]; go_big_quiet_on) | (go_big_quiet_want; (with_reducible refine quiet_by _ (fun w hw => exec_load (t := 29) rfl (near_l1 X1.out w hw) rfl) ?_); simp only [Act.put, List.setIfInBounds_toArray, List.set_cons_zero, List.set_cons_succ]; go_big_quiet_on) | go_big_quiet_step (first | (go_at_call 64; exact near_call (rwait_any h s _)) | fail))
          refine wpQuiet_nil ?_
          rintro _ ⟨pn, rfl⟩
          have HV := Lib.hid (HW.out.trans (pn.near.mono HW.out.size))
          clear hne
          generalize pn.wx = w3 at *
          go_wp2_with fail
          go_round
          case rel => exact ⟨4, 0, by omega, by omega, by omega, rfl, rfl, HS, HU, HV⟩
          case measure => simp [intOf]
      · have hz : (bits .and .u32 ((bits .and .u32 (waitV s h.c) h.e1) / 8) 1 == 1) = false := a3.out.trans hm
        have HS : RowKit.Hid (stB h s h.e1 h.l1 4 = (((0 : Nat) : Int), topB h h.l1 0)) := Lib.hid (by show stepB (onB h s h.e1 3) 3 h.p3 (stB h s h.e1 h.l1 3) = _; rw [HN.out]; exact stepB_off _ _ _ _ _ hm)
        have HU : RowKit.Hid ((0 : Nat) = 0 ∨ h.l1 < topB h h.l1 0) := Lib.hid (HT.out)
        go_upto_region 7 with (fail)
        have hne : Nonempty (Near _) := ⟨⟨wr, Below.refl _ _⟩⟩
        refine wp_region_near (by kernel_rfl) (by kernel_rfl) ?_
        repeat (first | (go_big_quiet_want; (with_reducible refine quiet_by _ (fun w hw => exec_load (t := 33) rfl (near_load X1.out w hw) rfl) ?_); simp only [Act.put, List.setIfInBounds_toArray, List.set_cons_zero, List.set_cons_succ]; go_big_quiet_on) | (go_big_quiet_want; (with_reducible refine quiet_by _ (fun w hw => exec_load (t := 29) rfl (near_e1 X1.out w hw) rfl) ?_); simp only [Act.put, List.setIfInBounds_toArray, List.set_cons_zero, List.set_cons_succ]; go_big_quiet_on) | go_big_quiet_step (first | (go_at_call 64; exact near_call (rwait_any h s _)) | fail))
        refine wpQuiet_nil ?_
        rintro _ ⟨pn, rfl⟩
        have HV := Lib.hid (HW.out.trans (pn.near.mono HW.out.size))
        clear hne
        generalize pn.wx = w3 at *
        go_wp2_with fail
        go_round
        case rel => exact ⟨4, 0, by omega, by omega, by omega, rfl, rfl, HS, HU, HV⟩
        case measure => simp [intOf]
    | 3, 1, _, _, _, HN, HT =>
      rcases Bool.eq_false_or_eq_true (onB h s h.e1 3) with hm | hm
      · have hz : (bits .and .u32 ((bits .and .u32 (waitV s h.c) h.e1) / 8) 1 == 1) = true := a3.out.trans hm
        by_cases hl : h.l1 < h.p3
        · have hx : h.l1 < h.p1 := HT.out.resolve_left (by decide)
          have HX := Lib.hid hx
          clear hx
          by_cases ht : h.p1 < h.p3
          · have HS : RowKit.Hid (stB h s h.e1 h.l1 4 = (((3 : Nat) : Int), topB h h.l1 3)) := Lib.hid (by show stepB (onB h s h.e1 3) 3 h.p3 (stB h s h.e1 h.l1 3) = _; rw [HN.out]; exact stepB_take _ _ _ _ _ hm ht)
            have HU : RowKit.Hid ((3 : Nat) = 0 ∨ h.l1 < topB h h.l1 3) := Lib.hid (.inr hl)
            go_upto_region 7 with (fail)
            have hne : Nonempty (Near _) := ⟨⟨wr, Below.refl _ _⟩⟩
            refine wp_region_near (by kernel_rfl) (by kernel_rfl) ?_
            repeat (first | (go_big_quiet_want; (with_reducible refine quiet_by _ (fun w hw => exec_load (t := 33) rfl (near_load X1.out w hw) rfl) ?_); simp only [Act.put, List.setIfInBounds_toArray, List.set_cons_zero, List.set_cons_succ]; go_big_quiet_on) | (go_big_quiet_want; (with_reducible refine quiet_by _ (fun w hw => exec_load (t := 29) rfl (near_e1 X1.out w hw) rfl) ?_); simp only [Act.put, List.setIfInBounds_toArray, List.set_cons_zero, List.set_cons_succ]; go_big_quiet_on) | (go_big_quiet_want; (with_reducible refine quiet_by _ (fun w hw => exec_load (t := 29) rfl (near_p3 X1.out w hw) rfl) ?_); simp only [Act.put, List.setIfInBounds_toArray, List.set_cons_zero, List.set_cons_succ]; go_big_quiet_on) | (go_big_quiet_want; (with_reducible refine quiet_by _ (fun w hw => exec_load (t := 29) rfl (near_l1 X1.out w hw) rfl) ?_); simp only [Act.put, List.setIfInBounds_toArray, List.set_cons_zero, List.set_cons_succ]; go_big_quiet_on) | (go_big_quiet_want; (with_reducible refine quiet_by _ (fun w hw => exec_load (t := 29) rfl (near_p1 X1.out w hw) rfl) ?_); simp only [Act.put, List.setIfInBounds_toArray, List.set_cons_zero, List.set_cons_succ]; go_big_quiet_on) | go_big_quiet_step (first | (go_at_call 64; exact near_call (rwait_any h s _)) | fail))
            refine wpQuiet_nil ?_
            rintro _ ⟨pn, rfl⟩
            have HV := Lib.hid (HW.out.trans (pn.near.mono HW.out.size))
            clear hne
            generalize pn.wx = w3 at *
            go_wp2_with fail
            go_round
            case rel => exact ⟨4, 3, by omega, by omega, by omega, rfl, rfl, HS, HU, HV⟩
            case measure => simp [intOf]
          · have HS : RowKit.Hid (stB h s h.e1 h.l1 4 = (((1 : Nat) : Int), topB h h.l1 1)) := Lib.hid (by show stepB (onB h s h.e1 3) 3 h.p3 (stB h s h.e1 h.l1 3) = _; rw [HN.out]; exact stepB_low _ _ _ _ _ ht)
            have HU : RowKit.Hid ((1 : Nat) = 0 ∨ h.l1 < topB h h.l1 1) := Lib.hid (.inr HX.out)
            go_upto_region 7 with (fail)
            have hne : Nonempty (Near _) := ⟨⟨wr, Below.refl _ _⟩⟩
            refine wp_region_near (by kernel_rfl) (by kernel_rfl) ?_
            repeat (first | (go_big_quiet_want; (with_reducible refine quiet_by _ (fun w hw => exec_load (t := 33) rfl (near_load X1.out w hw) rfl) ?_); simp only [Act.put, List.setIfInBounds_toArray, List.set_cons_zero, List.set_cons_succ]; go_big_quiet_on) | (go_big_quiet_want; (with_reducible refine quiet_by _ (fun w hw => exec_load (t := 29) rfl (near_e1 X1.out w hw) rfl) ?_); simp only [Act.put, List.setIfInBounds_toArray, List.set_cons_zero, List.set_cons_succ]; go_big_quiet_on) | (go_big_quiet_want; (with_reducible refine quiet_by _ (fun w hw => exec_load (t := 29) rfl (near_p3 X1.out w hw) rfl) ?_); simp only [Act.put, List.setIfInBounds_toArray, List.set_cons_zero, List.set_cons_succ]; go_big_quiet_on) | (go_big_quiet_want; (with_reducible refine quiet_by _ (fun w hw => exec_load (t := 29) rfl (near_l1 X1.out w hw) rfl) ?_); simp only [Act.put, List.setIfInBounds_toArray, List.set_cons_zero, List.set_cons_succ]; go_big_quiet_on) | (go_big_quiet_want; (with_reducible refine quiet_by _ (fun w hw => exec_load (t := 29) rfl (near_p1 X1.out w hw) rfl) ?_); simp only [Act.put, List.setIfInBounds_toArray, List.set_cons_zero, List.set_cons_succ]; go_big_quiet_on) | go_big_quiet_step (first | (go_at_call 64; exact near_call (rwait_any h s _)) | fail))
            refine wpQuiet_nil ?_
            rintro _ ⟨pn, rfl⟩
            have HV := Lib.hid (HW.out.trans (pn.near.mono HW.out.size))
            clear hne
            generalize pn.wx = w3 at *
            go_wp2_with fail
            go_round
            case rel => exact ⟨4, 1, by omega, by omega, by omega, rfl, rfl, HS, HU, HV⟩
            case measure => simp [intOf]
        · have hx : h.l1 < h.p1 := HT.out.resolve_left (by decide)
          have HX := Lib.hid hx
          have ht : ¬ h.p1 < h.p3 := by omega
          have HY := Lib.hid ht
          clear hx ht
          have HS : RowKit.Hid (stB h s h.e1 h.l1 4 = (((1 : Nat) : Int), topB h h.l1 1)) := Lib.hid (by show stepB (onB h s h.e1 3) 3 h.p3 (stB h s h.e1 h.l1 3) = _; rw [HN.out]; exact stepB_low _ _ _ _ _ HY.out)
          have HU : RowKit.Hid ((1 : Nat) = 0 ∨ h.l1 < topB h h.l1 1) := Lib.hid (.inr HX.out)
          go_upto_region 7 with (fail)
          have hne : Nonempty (Near _) := ⟨⟨wr, Below.refl _ _⟩⟩
          refine wp_region_near (by kernel_rfl) (by kernel_rfl) ?_
          repeat (first | (go_big_quiet_want; (with_reducible refine quiet_by _ (fun w hw => exec_load (t := 33) rfl (near_load X1.out w hw) rfl) ?_); simp only [Act.put, List.setIfInBounds_toArray, List.set_cons_zero, List.set_cons_succ]; go_big_quiet_on) | (go_big_quiet_want; (with_reducible refine quiet_by _ (fun w hw => exec_load (t := 29) rfl (near_e1 X1.out w hw) rfl) ?_); simp only [Act.put, List.setIfInBounds_toArray, List.set_cons_zero, List.set_cons_succ]; go_big_quiet_on) | (go_big_quiet_want; (with_reducible refine quiet_by _ (fun w hw => exec_load (t := 29) rfl (near_p3 X1.out w hw) rfl) ?_); simp only [Act.put, List.setIfInBounds_toArray, List.set_cons_zero, List.set_cons_succ]; go_big_quiet_on) | (go_big_quiet_want; (with_reducible refine quiet_by _ (fun w hw => exec_load (t := 29) rfl (near_l1 X1.out w hw) rfl) ?_); simp only [Act.put, List.setIfInBounds_toArray, List.set_cons_zero, List.set_cons_succ]; go_big_quiet_on) | go_big_quiet_step (first | (go_at_call 64; exact near_call (rwait_any h s _)) | fail))
          refine wpQuiet_nil ?_
          rintro _ ⟨pn, rfl⟩
          have HV := Lib.hid (HW.out.trans (pn.near.mono HW.out.size))
          clear hne
          generalize pn.wx = w3 at *
          go_wp2_with fail
          go_round
          case rel => exact ⟨4, 1, by omega, by omega, by omega, rfl, rfl, HS, HU, HV⟩
          case measure => simp [intOf]
      · have hz : (bits .and .u32 ((bits .and .u32 (waitV s h.c) h.e1) / 8) 1 == 1) = false := a3.out.trans hm
        have HS : RowKit.Hid (stB h s h.e1 h.l1 4 = (((1 : Nat) : Int), topB h h.l1 1)) := Lib.hid (by show stepB (onB h s h.e1 3) 3 h.p3 (stB h s h.e1 h.l1 3) = _; rw [HN.out]; exact stepB_off _ _ _ _ _ hm)
        have HU : RowKit.Hid ((1 : Nat) = 0 ∨ h.l1 < topB h h.l1 1) := Lib.hid (HT.out)
        go_upto_region 7 with (fail)
        have hne : Nonempty (Near _) := ⟨⟨wr, Below.refl _ _⟩⟩
        refine wp_region_near (by kernel_rfl) (by kernel_rfl) ?_
        repeat (first | (go_big_quiet_want; (with_reducible refine quiet_by _ (fun w hw => exec_load (t := 33) rfl (near_load X1.out w hw) rfl) ?_); simp only [Act.put, List.setIfInBounds_toArray, List.set_cons_zero, List.set_cons_succ]; go_big_quiet_on) | (go_big_quiet_want; (with_reducible refine quiet_by _ (fun w hw => exec_load (t := 29) rfl (near_e1 X1.out w hw) rfl) ?_); simp only [Act.put, List.setIfInBounds_toArray, List.set_cons_zero, List.set_cons_succ]; go_big_quiet_on) | go_big_quiet_step (first | (go_at_call 64; exact near_call (rwait_any h s _)) | fail))
        refine wpQuiet_nil ?_
        rintro _ ⟨pn, rfl⟩
        have HV := Lib.hid (HW.out.trans (pn.near.mono HW.out.size))
        clear hne
        generalize pn.wx = w3 at *
        go_wp2_with fail
        go_round
        case rel => exact ⟨4, 1, by omega, by omega, by omega, rfl, rfl, HS, HU, HV⟩
        case measure => simp [intOf]
    | 3, 2, _, _, _, HN, HT =>
      rcases Bool.eq_false_or_eq_true (onB h s h.e1 3) with hm | hm
      · have hz : (bits .and .u32 ((bits .and .u32 (waitV s h.c) h.e1) / 8) 1 == 1) = true := a3.out.trans hm
        by_cases hl : h.l1 < h.p3
        · have hx : h.l1 < h.p2 := HT.out.resolve_left (by decide)
          have HX := Lib.hid hx
          clear hx
          by_cases ht : h.p2 < h.p3
          · have HS : RowKit.Hid (stB h s h.e1 h.l1 4 = (((3 : Nat) : Int), topB h h.l1 3)) := Lib.hid (by show stepB (onB h s h.e1 3) 3 h.p3 (stB h s h.e1 h.l1 3) = _; rw [HN.out]; exact stepB_take _ _ _ _ _ hm ht)
            have HU : RowKit.Hid ((3 : Nat) = 0 ∨ h.l1 < topB h h.l1 3) := Lib.hid (.inr hl)
            go_upto_region 7 with (fail)
            have hne : Nonempty (Near _) := ⟨⟨wr, Below.refl _ _⟩⟩
            refine wp_region_near (by kernel_rfl) (by kernel_rfl) ?_
            repeat (first | (go_big_quiet_want; (with_reducible refine quiet_by _ (fun w hw => exec_load (t := 33) rfl (near_load X1.out w hw) rfl) ?_); simp only [Act.put, List.setIfInBounds_toArray, List.set_cons_zero, List.set_cons_succ]; go_big_quiet_on) | (go_big_quiet_want; (with_reducible refine quiet_by _ (fun w hw => exec_load (t := 29) rfl (near_e1 X1.out w hw) rfl) ?_); simp only [Act.put, List.setIfInBounds_toArray, List.set_cons_zero, List.set_cons_succ]; go_big_quiet_on) | (go_big_quiet_want; (with_reducible refine quiet_by _ (fun w hw => exec_load (t := 29) rfl (near_p3 X1.out w hw) rfl) ?_); simp only [Act.put, List.setIfInBounds_toArray, List.set_cons_zero, List.set_cons_succ]; go_big_quiet_on) | (go_big_quiet_want; (with_reducible refine quiet_by _ (fun w hw => exec_load (t := 29) rfl (near_l1 X1.out w hw) rfl) ?_); simp only [Act.put, List.setIfInBounds_toArray, List.set_cons_zero, List.set_cons_succ]; go_big_quiet_on) | (go_big_quiet_want; (with_reducible refine quiet_by _ (fun w hw => exec_load (t := 29) rfl (near_p2 X1.out w hw) rfl) ?_); simp only [Act.put, List.setIfInBounds_toArray, List.set_cons_zero, List.set_cons_succ]; go_big_quiet_on) | go_big_quiet_step (first | (go_at_call 64; exact near_call (rwait_any h s _)) | fail))
            refine wpQuiet_nil ?_
            rintro _ ⟨pn, rfl⟩
            have HV := Lib.hid (HW.out.trans (pn.near.mono HW.out.size))
            clear hne
            generalize pn.wx = w3 at *
            go_wp2_with fail
            go_round
            case rel => exact ⟨4, 3, by omega, by omega, by omega, rfl, rfl, HS, HU, HV⟩
            case measure => simp [intOf]
          · have HS : RowKit.Hid (stB h s h.e1 h.l1 4 = (((2 : Nat) : Int), topB h h.l1 2)) := Lib.hid (by show stepB (onB h s h.e1 3) 3 h.p3 (stB h s h.e1 h.l1 3) = _; rw [HN.out]; exact stepB_low _ _ _ _ _ ht)
            have HU : RowKit.Hid ((2 : Nat) = 0 ∨ h.l1 < topB h h.l1 2) := Lib.hid (.inr HX.out)
            go_upto_region 7 with (fail)
            have hne : Nonempty (Near _) := ⟨⟨wr, Below.refl _ _⟩⟩
            refine wp_region_near (by kernel_rfl) (by kernel_rfl) ?_
            repeat (first | (go_big_quiet_want; (with_reducible refine quiet_by _ (fun w hw => exec_load (t := 33) rfl (near_load X1.out w hw) rfl) ?_); simp only [Act.put, List.setIfInBounds_toArray, List.set_cons_zero, List.set_cons_succ]; go_big_quiet_on) | (go_big_quiet_want; (with_reducible refine quiet_by _ (fun w hw => exec_load (t := 29) rfl (near_e1 X1.out w hw) rfl) ?_); simp only [Act.put, List.setIfInBounds_toArray, List.set_cons_zero, List.set_cons_succ]; go_big_quiet_on) | (go_big_quiet_want; (with_reducible refine quiet_by _ (fun w hw => exec_load (t := 29) rfl (near_p3 X1.out w hw) rfl) ?_); simp only [Act.put, List.setIfInBounds_toArray, List.set_cons_zero, List.set_cons_succ]; go_big_quiet_on) | (go_big_quiet_want; (with_reducible refine quiet_by _ (fun w hw => exec_load (t := 29) rfl (near_l1 X1.out w hw) rfl) ?_); simp only [Act.put, List.setIfInBounds_toArray, List.set_cons_zero, List.set_cons_succ]; go_big_quiet_on) | (go_big_quiet_want; (with_reducible refine quiet_by _ (fun w hw => exec_load (t := 29) rfl (near_p2 X1.out w hw) rfl) ?_); simp only [Act.put, List.setIfInBounds_toArray, List.set_cons_zero, List.set_cons_succ]; go_big_quiet_on) | go_big_quiet_step (first | (go_at_call 64; exact near_call (rwait_any h s _)) | fail))
            refine wpQuiet_nil ?_
            rintro _ ⟨pn, rfl⟩
            have HV := Lib.hid (HW.out.trans (pn.near.mono HW.out.size))
            clear hne
            generalize pn.wx = w3 at *
            go_wp2_with fail
            go_round
            case rel => exact ⟨4, 2, by omega, by omega, by omega, rfl, rfl, HS, HU, HV⟩
            case measure => simp [intOf]
        · have hx : h.l1 < h.p2 := HT.out.resolve_left (by decide)
          have HX := Lib.hid hx
          have ht : ¬ h.p2 < h.p3 := by omega
          have HY := Lib.hid ht
          clear hx ht
          have HS : RowKit.Hid (stB h s h.e1 h.l1 4 = (((2 : Nat) : Int), topB h h.l1 2)) := Lib.hid (by show stepB (onB h s h.e1 3) 3 h.p3 (stB h s h.e1 h.l1 3) = _; rw [HN.out]; exact stepB_low _ _ _ _ _ HY.out)
          have HU : RowKit.Hid ((2 : Nat) = 0 ∨ h.l1 < topB h h.l1 2) := Lib.hid (.inr HX.out)
          go_upto_region 7 with (fail)
          have hne : Nonempty (Near _) := ⟨⟨wr, Below.refl _ _⟩⟩
          refine wp_region_near (by kernel_rfl) (by kernel_rfl) ?_
          repeat (first | (go_big_quiet_want; (with_reducible refine quiet_by _ (fun w hw => exec_load (t := 33) rfl (near_load X1.out w hw) rfl) ?_); simp only [Act.put, List.setIfInBounds_toArray, List.set_cons_zero, List.set_cons_succ]; go_big_quiet_on) | (go_big_quiet_want; (with_reducible refine quiet_by _ (fun w hw => exec_load (t := 29) rfl (near_e1 X1.out w hw) rfl) ?_); simp only [Act.put, List.setIfInBounds_toArray, List.set_cons_zero, List.set_cons_succ]; go_big_quiet_on) | (go_big_quiet_want; (with_reducible refine quiet_by _ (fun w hw => exec_load (t := 29) rfl (near_p3 X1.out w hw) rfl) ?_); simp only [Act.put, List.setIfInBounds_toArray, List.set_cons_zero, List.set_cons_succ]; go_big_quiet_on) | (go_big_quiet_want; (with_reducible refine quiet_by _ (fun w hw => exec_load (t := 29) rfl (near_l1 X1.out w hw) rfl) ?_); simp only [Act.put, List.setIfInBounds_toArray, List.set_cons_zero, List.set_cons_succ]; go_big_quiet_on) | go_big_quiet_step (first | (go_at_call 64; exact near_call (rwait_any h s _)) | fail))
          refine wpQuiet_nil ?_
          rintro _ ⟨pn, rfl⟩
          have HV := Lib.hid (HW.out.trans (pn.near.mono HW.out.size))
          clear hne
          generalize pn.wx = w3 at *
          go_wp2_with fail
          go_round
          case rel => exact ⟨4, 2, by omega, by omega, by omega, rfl, rfl, HS, HU, HV⟩
          case measure => simp [intOf]
      · have hz : (bits .and .u32 ((bits .and .u32 (waitV s h.c) h.e1) / 8) 1 == 1) = false := a3.out.trans hm
        have HS : RowKit.Hid (stB h s h.e1 h.l1 4 = (((2 : Nat) : Int), topB h h.l1 2)) := Lib.hid (by show stepB (onB h s h.e1 3) 3 h.p3 (stB h s h.e1 h.l1 3) = _; rw [HN.out]; exact stepB_off _ _ _ _ _ hm)
        have HU : RowKit.Hid ((2 : Nat) = 0 ∨ h.l1 < topB h h.l1 2) := Lib.hid (HT.out)
        go_upto_region 7 with (fail)
        have hne : Nonempty (Near _) := ⟨⟨wr, Below.refl _ _⟩⟩
        refine wp_region_near (by kernel_rfl) (by kernel_rfl) ?_
        repeat (first | (go_big_quiet_want; (with_reducible refine quiet_by _ (fun w hw => exec_load (t := 33) rfl (near_load X1.out w hw) rfl) ?_); simp only [Act.put, List.setIfInBounds_toArray, List.set_cons_zero, List.set_cons_succ]; go_big_quiet_on) | (go_big_quiet_want; (with_reducible refine quiet_by _ (fun w hw => exec_load (t := 29) rfl (near_e1 X1.out w hw) rfl) ?_); simp only [Act.put, List.setIfInBounds_toArray, List.set_cons_zero, List.set_cons_succ]; go_big_quiet_on) | go_big_quiet_step (first | (go_at_call 64; exact near_call (rwait_any h s _)) | fail))
        refine wpQuiet_nil ?_
        rintro _ ⟨pn, rfl⟩
        have HV := Lib.hid (HW.out.trans (pn.near.mono HW.out.size))
        clear hne
        generalize pn.wx = w3 at *
        go_wp2_with fail
        go_round
        case rel => exact ⟨4, 2, by omega, by omega, by omega, rfl, rfl, HS, HU, HV⟩
        case measure => simp [intOf]
    | 4, 0, _, _, _, HN, HT =>
      have HE : RowKit.Hid ((stB h s h.e1 h.l1 4).1 = 0) := Lib.hid (by rw [HN.out]; rfl)
      go_wp2_with fail
      go_ret
      exact ⟨ret_int HE.out.symm, B0.out.trans (HW.out.mono hsz)⟩
    | 4, 1, _, _, _, HN, HT =>
      have HE : RowKit.Hid ((stB h s h.e1 h.l1 4).1 = 1) := Lib.hid (by rw [HN.out]; rfl)
      go_wp2_with fail
      go_ret
      exact ⟨ret_int HE.out.symm, B0.out.trans (HW.out.mono hsz)⟩
    | 4, 2, _, _, _, HN, HT =>
      have HE : RowKit.Hid ((stB h s h.e1 h.l1 4).1 = 2) := Lib.hid (by rw [HN.out]; rfl)
      go_wp2_with fail
      go_ret
      exact ⟨ret_int HE.out.symm, B0.out.trans (HW.out.mono hsz)⟩
    | 4, 3, _, _, _, HN, HT =>
      have HE : RowKit.Hid ((stB h s h.e1 h.l1 4).1 = 3) := Lib.hid (by rw [HN.out]; rfl)
      go_wp2_with fail
      go_ret
      exact ⟨ret_int HE.out.symm, B0.out.trans (HW.out.mono hsz)⟩
set_option maxRecDepth 100000 in
set_option maxHeartbeats 1000000 in
theorem rbest_lo (h : Pl) (s who : Int) (h0 : who < 0) (W : World) : Calls Try.prog 46 #[plV h, .int .u32 s, .int .i64 who] W fun e W' => e = .returned (.int .i64 0) ∧ Below W.heap.size W W' := by
  go_enter Try.func46, Try.ntmps46
  go_wp2
  go_ret
  exact ⟨rfl, (Below.refl _ _).alloc (Nat.le_refl _) _⟩
set_option maxRecDepth 100000 in
set_option maxHeartbeats 1000000 in
theorem rbest_hi (h : Pl) (s who : Int) (h0 : 1 < who) (W : World) : Calls Try.prog 46 #[plV h, .int .u32 s, .int .i64 who] W fun e W' => e = .returned (.int .i64 0) ∧ Below W.heap.size W W' := by
  have h1 : ¬ who < 0 := by omega
  go_enter Try.func46, Try.ntmps46
  go_wp2
  go_ret
  exact ⟨rfl, (Below.refl _ _).alloc (Nat.le_refl _) _⟩
theorem rbest_any (h : Pl) (s who : Int) (W : World) : Calls Try.prog 46 #[plV h, .int .u32 s, .int .i64 who] W fun e W' => e = .returned (.int .i64 (bestF h s who)) ∧ Below W.heap.size W W' := by
  unfold bestF
  split
  · rename_i hw
    subst hw
    exact rbest_0 h s W
  · split
    · rename_i _ hw
      subst hw
      exact rbest_1 h s W
    · rename_i h0 h1
      by_cases hl : who < 0
      · exact rbest_lo h s who hl W
      · exact rbest_hi h s who (by omega) W

end Go.Proofs.Ytnedhjaphfjdmaa.Pc
namespace Go.Proofs.Ytnedhjaphfjdmaa.Pc
open Go.RowKit Go.Deep Go.Joins
set_option maxHeartbeats 1000000 in
theorem rlines_11 (h : Pl) (s : Int) (n0 : bestF h s 0 = 0) (n1 : bestF h s 1 = 0) (W : World) : Calls Try.prog 23 #[plV h, .int .u32 s] W fun e W' => e = .returned (.int .u64 (linesF h s)) ∧ Below W.heap.size W W' := by
  have HE : RowKit.Hid (linesF h s = 0) := Lib.hid (by unfold linesF; rw [if_pos n0, if_pos n1] <;> decide +kernel)
  have q0 := rbest_any h s 0
  have q1 := rbest_any h s 1
  rw [n0] at q0
  rw [n1] at q1
  have Q0 := Lib.hid q0
  have Q1 := Lib.hid q1
  clear q0 q1
  go_enter Try.func23, Try.ntmps23
  go_wp2_with (first | (with_reducible refine wpList_load_by rfl rfl (Box.load ((Box.new W h).next k1)) rfl ?_) | (with_reducible refine wpList_load_by rfl rfl (Box.load (Box.new W h)) rfl ?_) | (go_at_call 46; (with_reducible refine (Q0.out _).mono ?_); rintro e w1 ⟨rfl, k1⟩) | (go_at_call 46; (with_reducible refine (Q1.out _).mono ?_); rintro e w2 ⟨rfl, k2⟩) | fail)
  go_ret
  exact ⟨ret_int HE.out.symm, below_then (below_then ((Below.refl _ _).alloc (Nat.le_refl _) _) (Nat.le_refl _) k1) (Nat.le_refl _) k2⟩
set_option maxHeartbeats 1000000 in
theorem rlines_10 (h : Pl) (s : Int) (n0 : bestF h s 0 = 0) (n1 : 0 < bestF h s 1) (W : World) : Calls Try.prog 23 #[plV h, .int .u32 s] W fun e W' => e = .returned (.int .u64 (linesF h s)) ∧ Below W.heap.size W W' := by
  have HE : RowKit.Hid (linesF h s = bits .or .u64 0 512) := Lib.hid (by unfold linesF; rw [if_pos n0, if_neg (by omega)] <;> decide +kernel)
  have q0 := rbest_any h s 0
  have q1 := rbest_any h s 1
  rw [n0] at q0
  have e1 : (bestF h s 1 != 0) = true := by rw [bne_iff_ne]; omega
  generalize bestF h s 1 = x1 at *
  have Q0 := Lib.hid q0
  have Q1 := Lib.hid q1
  clear q0 q1
  go_enter Try.func23, Try.ntmps23
  go_wp2_with (first | (with_reducible refine wpList_load_by rfl rfl (Box.load ((Box.new W h).next k1)) rfl ?_) | (with_reducible refine wpList_load_by rfl rfl (Box.load (Box.new W h)) rfl ?_) | (go_at_call 46; (with_reducible refine (Q0.out _).mono ?_); rintro e w1 ⟨rfl, k1⟩) | (go_at_call 46; (with_reducible refine (Q1.out _).mono ?_); rintro e w2 ⟨rfl, k2⟩) | fail)
  go_ret
  exact ⟨ret_int HE.out.symm, below_then (below_then ((Below.refl _ _).alloc (Nat.le_refl _) _) (Nat.le_refl _) k1) (Nat.le_refl _) k2⟩
set_option maxHeartbeats 1000000 in
theorem rlines_01 (h : Pl) (s : Int) (n0 : 0 < bestF h s 0) (n1 : bestF h s 1 = 0) (W : World) : Calls Try.prog 23 #[plV h, .int .u32 s] W fun e W' => e = .returned (.int .u64 (linesF h s)) ∧ Below W.heap.size W W' := by
  have HE : RowKit.Hid (linesF h s = bits .or .u64 0 2048) := Lib.hid (by unfold linesF; rw [if_neg (by omega), if_pos n1] <;> decide +kernel)
  have q0 := rbest_any h s 0
  have q1 := rbest_any h s 1
  have e0 : (bestF h s 0 != 0) = true := by rw [bne_iff_ne]; omega
  generalize bestF h s 0 = x0 at *
  rw [n1] at q1
  have Q0 := Lib.hid q0
  have Q1 := Lib.hid q1
  clear q0 q1
  go_enter Try.func23, Try.ntmps23
  go_wp2_with (first | (with_reducible refine wpList_load_by rfl rfl (Box.load ((Box.new W h).next k1)) rfl ?_) | (with_reducible refine wpList_load_by rfl rfl (Box.load (Box.new W h)) rfl ?_) | (go_at_call 46; (with_reducible refine (Q0.out _).mono ?_); rintro e w1 ⟨rfl, k1⟩) | (go_at_call 46; (with_reducible refine (Q1.out _).mono ?_); rintro e w2 ⟨rfl, k2⟩) | fail)
  go_ret
  exact ⟨ret_int HE.out.symm, below_then (below_then ((Below.refl _ _).alloc (Nat.le_refl _) _) (Nat.le_refl _) k1) (Nat.le_refl _) k2⟩
set_option maxHeartbeats 1000000 in
theorem rlines_00 (h : Pl) (s : Int) (n0 : 0 < bestF h s 0) (n1 : 0 < bestF h s 1) (W : World) : Calls Try.prog 23 #[plV h, .int .u32 s] W fun e W' => e = .returned (.int .u64 (linesF h s)) ∧ Below W.heap.size W W' := by
  have HE : RowKit.Hid (linesF h s = bits .or .u64 (bits .or .u64 0 2048) 512) := Lib.hid (by unfold linesF; rw [if_neg (by omega), if_neg (by omega)] <;> decide +kernel)
  have q0 := rbest_any h s 0
  have q1 := rbest_any h s 1
  have e0 : (bestF h s 0 != 0) = true := by rw [bne_iff_ne]; omega
  generalize bestF h s 0 = x0 at *
  have e1 : (bestF h s 1 != 0) = true := by rw [bne_iff_ne]; omega
  generalize bestF h s 1 = x1 at *
  have Q0 := Lib.hid q0
  have Q1 := Lib.hid q1
  clear q0 q1
  go_enter Try.func23, Try.ntmps23
  go_wp2_with (first | (with_reducible refine wpList_load_by rfl rfl (Box.load ((Box.new W h).next k1)) rfl ?_) | (with_reducible refine wpList_load_by rfl rfl (Box.load (Box.new W h)) rfl ?_) | (go_at_call 46; (with_reducible refine (Q0.out _).mono ?_); rintro e w1 ⟨rfl, k1⟩) | (go_at_call 46; (with_reducible refine (Q1.out _).mono ?_); rintro e w2 ⟨rfl, k2⟩) | fail)
  go_ret
  exact ⟨ret_int HE.out.symm, below_then (below_then ((Below.refl _ _).alloc (Nat.le_refl _) _) (Nat.le_refl _) k1) (Nat.le_refl _) k2⟩
theorem rlines_any (h : Pl) (s : Int) (W : World) : Calls Try.prog 23 #[plV h, .int .u32 s] W fun e W' => e = .returned (.int .u64 (linesF h s)) ∧ Below W.heap.size W W' := by
  have r0 := best_range h s 0
  have r1 := best_range h s 1
  by_cases n0 : bestF h s 0 = 0
  · by_cases n1 : bestF h s 1 = 0
    · exact rlines_11 h s n0 n1 W
    · exact rlines_10 h s n0 (by omega) W
  · by_cases n1 : bestF h s 1 = 0
    · exact rlines_01 h s (by omega) n1 W
    · exact rlines_00 h s (by omega) (by omega) W

end Go.Proofs.Ytnedhjaphfjdmaa.Pc
