/- PlicFirst walked: the middle mode. -/
import Derived.Test.YtmpmgepffphnfaaO
import Derived.BigQuiet
namespace Go.Proofs.Ytmpmgepffphnfaa
open Go.RowKit Go.Deep Go.Joins
set_option maxRecDepth 100000 in
set_option maxHeartbeats 1000000 in
theorem first_1_0 (h : Pl) (s who : Int) (hw : bits .and .i64 who 1 = 1) (c8 : RowKit.Hid (∀ W, Calls Try.prog 8 #[plV h, .int .u32 s, .int .i64 1] W fun e W' => e = .returned (.int .i64 0) ∧ Below W.heap.size W W')) (G1 : RowKit.Hid (¬ ((bits .and .u32 (bits .andNot .u32 s h.c / 2) 1 == 1) = true ∧ (bits .and .u32 (h.e1 / 2) 1 == 1) = true ∧ h.l1 < h.p1))) (G2 : RowKit.Hid (¬ ((bits .and .u32 (bits .andNot .u32 s h.c / 4) 1 == 1) = true ∧ (bits .and .u32 (h.e1 / 4) 1 == 1) = true ∧ h.l1 < h.p2))) (G3 : RowKit.Hid (¬ ((bits .and .u32 (bits .andNot .u32 s h.c / 8) 1 == 1) = true ∧ (bits .and .u32 (h.e1 / 8) 1 == 1) = true ∧ h.l1 < h.p3))) (W : World) : Calls Try.prog 6 #[plV h, .int .u32 s, .int .i64 who] W fun e W' => e = .returned (.bool true) ∧ Below W.heap.size W W' := by
  have X := Lib.hid ((Vs.nil W).new h)
  go_enter Try.func6, Try.ntmps6
  go_upto_region 5 with (first | (with_reducible refine wpList_load_by rfl rfl (Box.load (Vs.g0 X.out)) rfl ?_) | (go_at_call 7; (with_reducible refine (awake_any _).mono ?_); rintro e w' ⟨rfl, kk⟩; have X := Lib.hid (X.out.next kk); clear kk) | (go_at_call 8; (with_reducible refine (c8.out _).mono ?_); rintro e w' ⟨rfl, kk⟩; have X := Lib.hid (X.out.next kk); clear kk) | fail)
  have B0 := Lib.hid X.out.below
  have X0 := Lib.hid X.out.g0
  clear X
  generalize w' = w0 at *
  have hsz : W.heap.size ≤ w0.heap.size := B0.out.size
  have HZ := Lib.hid hsz
  clear hsz
  go_wp2_with fail
  go_loopw [8] (fun i wr => ∃ k : Nat, 1 ≤ k ∧ k ≤ 4 ∧ i = .int .i64 k ∧ RowKit.Hid (Below w0.heap.size w0 wr)) (fun i _ => 4 - (intOf i).toNat)
  case atStart => exact ⟨1, by omega, by omega, rfl, Lib.hid (Below.refl _ _)⟩
  case round =>
    obtain ⟨k, hk1, hk, rfl, HW⟩ := hrel
    have X1 := Lib.hid (X0.out.next HW.out)
    match k, hk1, hk with
    | 1, _, _ =>
      rcases Bool.eq_false_or_eq_true (bits .and .u32 (bits .andNot .u32 s h.c / 2) 1 == 1) with h1 | h1
      rotate_left
      · go_upto_region 8 with (fail)
        have hne : Nonempty (Near _) := ⟨⟨wr, Below.refl _ _⟩⟩
        refine wp_region_near (by kernel_rfl) (by kernel_rfl) ?_
        repeat (first | (go_big_quiet_want; (with_reducible refine quiet_by _ (fun w hw => exec_load (t := 22) rfl (near_c X1.out w hw) rfl) ?_); simp only [Act.put, List.setIfInBounds_toArray, List.set_cons_zero, List.set_cons_succ]; go_big_quiet_on) | go_big_quiet_step (first | fail | fail))
        refine wpQuiet_nil ?_
        rintro _ ⟨pn, rfl⟩
        have HV := Lib.hid (HW.out.trans (pn.near.mono HW.out.size))
        have X2 := Lib.hid (X1.out.next pn.near)
        clear hne
        generalize pn.wx = wa at *
        go_upto_region 11 with (fail)
        have hne : Nonempty (Near _) := ⟨⟨wa, Below.refl _ _⟩⟩
        refine wp_region_near (by kernel_rfl) (by kernel_rfl) ?_
        repeat (first | go_big_quiet_step (first | fail | fail))
        refine wpQuiet_nil ?_
        rintro _ ⟨pn, rfl⟩
        have HU := Lib.hid (HV.out.trans (pn.near.mono HV.out.size))
        clear hne
        generalize pn.wx = wb at *
        go_wp2_with fail
        go_round
        case rel => exact ⟨2, by omega, by omega, rfl, HU⟩
        case measure => simp [intOf]
      rcases Bool.eq_false_or_eq_true (bits .and .u32 (h.e1 / 2) 1 == 1) with h2 | h2
      rotate_left
      · go_upto_region 8 with (fail)
        have hne : Nonempty (Near _) := ⟨⟨wr, Below.refl _ _⟩⟩
        refine wp_region_near (by kernel_rfl) (by kernel_rfl) ?_
        repeat (first | (go_big_quiet_want; (with_reducible refine quiet_by _ (fun w hw => exec_load (t := 22) rfl (near_c X1.out w hw) rfl) ?_); simp only [Act.put, List.setIfInBounds_toArray, List.set_cons_zero, List.set_cons_succ]; go_big_quiet_on) | (go_big_quiet_want; (with_reducible refine quiet_by _ (fun w hw => exec_load (t := 22) rfl (near_e1 X1.out w hw) rfl) ?_); simp only [Act.put, List.setIfInBounds_toArray, List.set_cons_zero, List.set_cons_succ]; go_big_quiet_on) | go_big_quiet_step (first | fail | fail))
        refine wpQuiet_nil ?_
        rintro _ ⟨pn, rfl⟩
        have HV := Lib.hid (HW.out.trans (pn.near.mono HW.out.size))
        have X2 := Lib.hid (X1.out.next pn.near)
        clear hne
        generalize pn.wx = wa at *
        go_upto_region 11 with (fail)
        have hne : Nonempty (Near _) := ⟨⟨wa, Below.refl _ _⟩⟩
        refine wp_region_near (by kernel_rfl) (by kernel_rfl) ?_
        repeat (first | go_big_quiet_step (first | fail | fail))
        refine wpQuiet_nil ?_
        rintro _ ⟨pn, rfl⟩
        have HU := Lib.hid (HV.out.trans (pn.near.mono HV.out.size))
        clear hne
        generalize pn.wx = wb at *
        go_wp2_with fail
        go_round
        case rel => exact ⟨2, by omega, by omega, rfl, HU⟩
        case measure => simp [intOf]
      by_cases h3 : h.l1 < h.p1
      rotate_left
      · go_upto_region 8 with (fail)
        have hne : Nonempty (Near _) := ⟨⟨wr, Below.refl _ _⟩⟩
        refine wp_region_near (by kernel_rfl) (by kernel_rfl) ?_
        repeat (first | (go_big_quiet_want; (with_reducible refine quiet_by _ (fun w hw => exec_load (t := 22) rfl (near_c X1.out w hw) rfl) ?_); simp only [Act.put, List.setIfInBounds_toArray, List.set_cons_zero, List.set_cons_succ]; go_big_quiet_on) | (go_big_quiet_want; (with_reducible refine quiet_by _ (fun w hw => exec_load (t := 22) rfl (near_e1 X1.out w hw) rfl) ?_); simp only [Act.put, List.setIfInBounds_toArray, List.set_cons_zero, List.set_cons_succ]; go_big_quiet_on) | (go_big_quiet_want; (with_reducible refine quiet_by _ (fun w hw => exec_load (t := 22) rfl (near_p1 X1.out w hw) rfl) ?_); simp only [Act.put, List.setIfInBounds_toArray, List.set_cons_zero, List.set_cons_succ]; go_big_quiet_on) | (go_big_quiet_want; (with_reducible refine quiet_by _ (fun w hw => exec_load (t := 22) rfl (near_l1 X1.out w hw) rfl) ?_); simp only [Act.put, List.setIfInBounds_toArray, List.set_cons_zero, List.set_cons_succ]; go_big_quiet_on) | go_big_quiet_step (first | fail | fail))
        refine wpQuiet_nil ?_
        rintro _ ⟨pn, rfl⟩
        have HV := Lib.hid (HW.out.trans (pn.near.mono HW.out.size))
        have X2 := Lib.hid (X1.out.next pn.near)
        clear hne
        generalize pn.wx = wa at *
        go_upto_region 11 with (fail)
        have hne : Nonempty (Near _) := ⟨⟨wa, Below.refl _ _⟩⟩
        refine wp_region_near (by kernel_rfl) (by kernel_rfl) ?_
        repeat (first | go_big_quiet_step (first | fail | fail))
        refine wpQuiet_nil ?_
        rintro _ ⟨pn, rfl⟩
        have HU := Lib.hid (HV.out.trans (pn.near.mono HV.out.size))
        clear hne
        generalize pn.wx = wb at *
        go_wp2_with fail
        go_round
        case rel => exact ⟨2, by omega, by omega, rfl, HU⟩
        case measure => simp [intOf]
      exact absurd ⟨h1, h2, h3⟩ G1.out
    | 2, _, _ =>
      rcases Bool.eq_false_or_eq_true (bits .and .u32 (bits .andNot .u32 s h.c / 4) 1 == 1) with h1 | h1
      rotate_left
      · go_upto_region 8 with (fail)
        have hne : Nonempty (Near _) := ⟨⟨wr, Below.refl _ _⟩⟩
        refine wp_region_near (by kernel_rfl) (by kernel_rfl) ?_
        repeat (first | (go_big_quiet_want; (with_reducible refine quiet_by _ (fun w hw => exec_load (t := 22) rfl (near_c X1.out w hw) rfl) ?_); simp only [Act.put, List.setIfInBounds_toArray, List.set_cons_zero, List.set_cons_succ]; go_big_quiet_on) | go_big_quiet_step (first | fail | fail))
        refine wpQuiet_nil ?_
        rintro _ ⟨pn, rfl⟩
        have HV := Lib.hid (HW.out.trans (pn.near.mono HW.out.size))
        have X2 := Lib.hid (X1.out.next pn.near)
        clear hne
        generalize pn.wx = wa at *
        go_upto_region 11 with (fail)
        have hne : Nonempty (Near _) := ⟨⟨wa, Below.refl _ _⟩⟩
        refine wp_region_near (by kernel_rfl) (by kernel_rfl) ?_
        repeat (first | go_big_quiet_step (first | fail | fail))
        refine wpQuiet_nil ?_
        rintro _ ⟨pn, rfl⟩
        have HU := Lib.hid (HV.out.trans (pn.near.mono HV.out.size))
        clear hne
        generalize pn.wx = wb at *
        go_wp2_with fail
        go_round
        case rel => exact ⟨3, by omega, by omega, rfl, HU⟩
        case measure => simp [intOf]
      rcases Bool.eq_false_or_eq_true (bits .and .u32 (h.e1 / 4) 1 == 1) with h2 | h2
      rotate_left
      · go_upto_region 8 with (fail)
        have hne : Nonempty (Near _) := ⟨⟨wr, Below.refl _ _⟩⟩
        refine wp_region_near (by kernel_rfl) (by kernel_rfl) ?_
        repeat (first | (go_big_quiet_want; (with_reducible refine quiet_by _ (fun w hw => exec_load (t := 22) rfl (near_c X1.out w hw) rfl) ?_); simp only [Act.put, List.setIfInBounds_toArray, List.set_cons_zero, List.set_cons_succ]; go_big_quiet_on) | (go_big_quiet_want; (with_reducible refine quiet_by _ (fun w hw => exec_load (t := 22) rfl (near_e1 X1.out w hw) rfl) ?_); simp only [Act.put, List.setIfInBounds_toArray, List.set_cons_zero, List.set_cons_succ]; go_big_quiet_on) | go_big_quiet_step (first | fail | fail))
        refine wpQuiet_nil ?_
        rintro _ ⟨pn, rfl⟩
        have HV := Lib.hid (HW.out.trans (pn.near.mono HW.out.size))
        have X2 := Lib.hid (X1.out.next pn.near)
        clear hne
        generalize pn.wx = wa at *
        go_upto_region 11 with (fail)
        have hne : Nonempty (Near _) := ⟨⟨wa, Below.refl _ _⟩⟩
        refine wp_region_near (by kernel_rfl) (by kernel_rfl) ?_
        repeat (first | go_big_quiet_step (first | fail | fail))
        refine wpQuiet_nil ?_
        rintro _ ⟨pn, rfl⟩
        have HU := Lib.hid (HV.out.trans (pn.near.mono HV.out.size))
        clear hne
        generalize pn.wx = wb at *
        go_wp2_with fail
        go_round
        case rel => exact ⟨3, by omega, by omega, rfl, HU⟩
        case measure => simp [intOf]
      by_cases h3 : h.l1 < h.p2
      rotate_left
      · go_upto_region 8 with (fail)
        have hne : Nonempty (Near _) := ⟨⟨wr, Below.refl _ _⟩⟩
        refine wp_region_near (by kernel_rfl) (by kernel_rfl) ?_
        repeat (first | (go_big_quiet_want; (with_reducible refine quiet_by _ (fun w hw => exec_load (t := 22) rfl (near_c X1.out w hw) rfl) ?_); simp only [Act.put, List.setIfInBounds_toArray, List.set_cons_zero, List.set_cons_succ]; go_big_quiet_on) | (go_big_quiet_want; (with_reducible refine quiet_by _ (fun w hw => exec_load (t := 22) rfl (near_e1 X1.out w hw) rfl) ?_); simp only [Act.put, List.setIfInBounds_toArray, List.set_cons_zero, List.set_cons_succ]; go_big_quiet_on) | (go_big_quiet_want; (with_reducible refine quiet_by _ (fun w hw => exec_load (t := 22) rfl (near_p2 X1.out w hw) rfl) ?_); simp only [Act.put, List.setIfInBounds_toArray, List.set_cons_zero, List.set_cons_succ]; go_big_quiet_on) | (go_big_quiet_want; (with_reducible refine quiet_by _ (fun w hw => exec_load (t := 22) rfl (near_l1 X1.out w hw) rfl) ?_); simp only [Act.put, List.setIfInBounds_toArray, List.set_cons_zero, List.set_cons_succ]; go_big_quiet_on) | go_big_quiet_step (first | fail | fail))
        refine wpQuiet_nil ?_
        rintro _ ⟨pn, rfl⟩
        have HV := Lib.hid (HW.out.trans (pn.near.mono HW.out.size))
        have X2 := Lib.hid (X1.out.next pn.near)
        clear hne
        generalize pn.wx = wa at *
        go_upto_region 11 with (fail)
        have hne : Nonempty (Near _) := ⟨⟨wa, Below.refl _ _⟩⟩
        refine wp_region_near (by kernel_rfl) (by kernel_rfl) ?_
        repeat (first | go_big_quiet_step (first | fail | fail))
        refine wpQuiet_nil ?_
        rintro _ ⟨pn, rfl⟩
        have HU := Lib.hid (HV.out.trans (pn.near.mono HV.out.size))
        clear hne
        generalize pn.wx = wb at *
        go_wp2_with fail
        go_round
        case rel => exact ⟨3, by omega, by omega, rfl, HU⟩
        case measure => simp [intOf]
      exact absurd ⟨h1, h2, h3⟩ G2.out
    | 3, _, _ =>
      rcases Bool.eq_false_or_eq_true (bits .and .u32 (bits .andNot .u32 s h.c / 8) 1 == 1) with h1 | h1
      rotate_left
      · go_upto_region 8 with (fail)
        have hne : Nonempty (Near _) := ⟨⟨wr, Below.refl _ _⟩⟩
        refine wp_region_near (by kernel_rfl) (by kernel_rfl) ?_
        repeat (first | (go_big_quiet_want; (with_reducible refine quiet_by _ (fun w hw => exec_load (t := 22) rfl (near_c X1.out w hw) rfl) ?_); simp only [Act.put, List.setIfInBounds_toArray, List.set_cons_zero, List.set_cons_succ]; go_big_quiet_on) | go_big_quiet_step (first | fail | fail))
        refine wpQuiet_nil ?_
        rintro _ ⟨pn, rfl⟩
        have HV := Lib.hid (HW.out.trans (pn.near.mono HW.out.size))
        have X2 := Lib.hid (X1.out.next pn.near)
        clear hne
        generalize pn.wx = wa at *
        go_upto_region 11 with (fail)
        have hne : Nonempty (Near _) := ⟨⟨wa, Below.refl _ _⟩⟩
        refine wp_region_near (by kernel_rfl) (by kernel_rfl) ?_
        repeat (first | go_big_quiet_step (first | fail | fail))
        refine wpQuiet_nil ?_
        rintro _ ⟨pn, rfl⟩
        have HU := Lib.hid (HV.out.trans (pn.near.mono HV.out.size))
        clear hne
        generalize pn.wx = wb at *
        go_wp2_with fail
        go_round
        case rel => exact ⟨4, by omega, by omega, rfl, HU⟩
        case measure => simp [intOf]
      rcases Bool.eq_false_or_eq_true (bits .and .u32 (h.e1 / 8) 1 == 1) with h2 | h2
      rotate_left
      · go_upto_region 8 with (fail)
        have hne : Nonempty (Near _) := ⟨⟨wr, Below.refl _ _⟩⟩
        refine wp_region_near (by kernel_rfl) (by kernel_rfl) ?_
        repeat (first | (go_big_quiet_want; (with_reducible refine quiet_by _ (fun w hw => exec_load (t := 22) rfl (near_c X1.out w hw) rfl) ?_); simp only [Act.put, List.setIfInBounds_toArray, List.set_cons_zero, List.set_cons_succ]; go_big_quiet_on) | (go_big_quiet_want; (with_reducible refine quiet_by _ (fun w hw => exec_load (t := 22) rfl (near_e1 X1.out w hw) rfl) ?_); simp only [Act.put, List.setIfInBounds_toArray, List.set_cons_zero, List.set_cons_succ]; go_big_quiet_on) | go_big_quiet_step (first | fail | fail))
        refine wpQuiet_nil ?_
        rintro _ ⟨pn, rfl⟩
        have HV := Lib.hid (HW.out.trans (pn.near.mono HW.out.size))
        have X2 := Lib.hid (X1.out.next pn.near)
        clear hne
        generalize pn.wx = wa at *
        go_upto_region 11 with (fail)
        have hne : Nonempty (Near _) := ⟨⟨wa, Below.refl _ _⟩⟩
        refine wp_region_near (by kernel_rfl) (by kernel_rfl) ?_
        repeat (first | go_big_quiet_step (first | fail | fail))
        refine wpQuiet_nil ?_
        rintro _ ⟨pn, rfl⟩
        have HU := Lib.hid (HV.out.trans (pn.near.mono HV.out.size))
        clear hne
        generalize pn.wx = wb at *
        go_wp2_with fail
        go_round
        case rel => exact ⟨4, by omega, by omega, rfl, HU⟩
        case measure => simp [intOf]
      by_cases h3 : h.l1 < h.p3
      rotate_left
      · go_upto_region 8 with (fail)
        have hne : Nonempty (Near _) := ⟨⟨wr, Below.refl _ _⟩⟩
        refine wp_region_near (by kernel_rfl) (by kernel_rfl) ?_
        repeat (first | (go_big_quiet_want; (with_reducible refine quiet_by _ (fun w hw => exec_load (t := 22) rfl (near_c X1.out w hw) rfl) ?_); simp only [Act.put, List.setIfInBounds_toArray, List.set_cons_zero, List.set_cons_succ]; go_big_quiet_on) | (go_big_quiet_want; (with_reducible refine quiet_by _ (fun w hw => exec_load (t := 22) rfl (near_e1 X1.out w hw) rfl) ?_); simp only [Act.put, List.setIfInBounds_toArray, List.set_cons_zero, List.set_cons_succ]; go_big_quiet_on) | (go_big_quiet_want; (with_reducible refine quiet_by _ (fun w hw => exec_load (t := 22) rfl (near_p3 X1.out w hw) rfl) ?_); simp only [Act.put, List.setIfInBounds_toArray, List.set_cons_zero, List.set_cons_succ]; go_big_quiet_on) | (go_big_quiet_want; (with_reducible refine quiet_by _ (fun w hw => exec_load (t := 22) rfl (near_l1 X1.out w hw) rfl) ?_); simp only [Act.put, List.setIfInBounds_toArray, List.set_cons_zero, List.set_cons_succ]; go_big_quiet_on) | go_big_quiet_step (first | fail | fail))
        refine wpQuiet_nil ?_
        rintro _ ⟨pn, rfl⟩
        have HV := Lib.hid (HW.out.trans (pn.near.mono HW.out.size))
        have X2 := Lib.hid (X1.out.next pn.near)
        clear hne
        generalize pn.wx = wa at *
        go_upto_region 11 with (fail)
        have hne : Nonempty (Near _) := ⟨⟨wa, Below.refl _ _⟩⟩
        refine wp_region_near (by kernel_rfl) (by kernel_rfl) ?_
        repeat (first | go_big_quiet_step (first | fail | fail))
        refine wpQuiet_nil ?_
        rintro _ ⟨pn, rfl⟩
        have HU := Lib.hid (HV.out.trans (pn.near.mono HV.out.size))
        clear hne
        generalize pn.wx = wb at *
        go_wp2_with fail
        go_round
        case rel => exact ⟨4, by omega, by omega, rfl, HU⟩
        case measure => simp [intOf]
      exact absurd ⟨h1, h2, h3⟩ G3.out
    | 4, _, _ =>
      go_wp2_with fail
      go_ret
      exact ⟨rfl, B0.out.trans (HW.out.mono HZ.out)⟩
set_option maxRecDepth 100000 in
set_option maxHeartbeats 1000000 in
theorem first_1_1 (h : Pl) (s who : Int) (hw : bits .and .i64 who 1 = 1) (c8 : RowKit.Hid (∀ W, Calls Try.prog 8 #[plV h, .int .u32 s, .int .i64 1] W fun e W' => e = .returned (.int .i64 1) ∧ Below W.heap.size W W')) (G1 : RowKit.Hid ((bits .and .u32 (bits .andNot .u32 s h.c / 2) 1 == 1) = true ∧ (bits .and .u32 (h.e1 / 2) 1 == 1) = true ∧ h.l1 < h.p1)) (G2 : RowKit.Hid (((bits .and .u32 (bits .andNot .u32 s h.c / 4) 1 == 1) = true ∧ (bits .and .u32 (h.e1 / 4) 1 == 1) = true ∧ h.l1 < h.p2) → h.p2 ≤ h.p1)) (G3 : RowKit.Hid (((bits .and .u32 (bits .andNot .u32 s h.c / 8) 1 == 1) = true ∧ (bits .and .u32 (h.e1 / 8) 1 == 1) = true ∧ h.l1 < h.p3) → h.p3 ≤ h.p1)) (W : World) : Calls Try.prog 6 #[plV h, .int .u32 s, .int .i64 who] W fun e W' => e = .returned (.bool true) ∧ Below W.heap.size W W' := by
  have X := Lib.hid ((Vs.nil W).new h)
  go_enter Try.func6, Try.ntmps6
  go_upto_region 5 with (first | (with_reducible refine wpList_load_by rfl rfl (Box.load (Vs.g0 X.out)) rfl ?_) | (go_at_call 7; (with_reducible refine (awake_any _).mono ?_); rintro e w' ⟨rfl, kk⟩; have X := Lib.hid (X.out.next kk); clear kk) | (go_at_call 8; (with_reducible refine (c8.out _).mono ?_); rintro e w' ⟨rfl, kk⟩; have X := Lib.hid (X.out.next kk); clear kk) | fail)
  have B0 := Lib.hid X.out.below
  have X0 := Lib.hid X.out.g0
  clear X
  generalize w' = w0 at *
  have hsz : W.heap.size ≤ w0.heap.size := B0.out.size
  have HZ := Lib.hid hsz
  clear hsz
  go_wp2_with fail
  go_loopw [8] (fun i wr => ∃ k : Nat, 1 ≤ k ∧ k ≤ 4 ∧ i = .int .i64 k ∧ RowKit.Hid (Below w0.heap.size w0 wr)) (fun i _ => 4 - (intOf i).toNat)
  case atStart => exact ⟨1, by omega, by omega, rfl, Lib.hid (Below.refl _ _)⟩
  case round =>
    obtain ⟨k, hk1, hk, rfl, HW⟩ := hrel
    have X1 := Lib.hid (X0.out.next HW.out)
    match k, hk1, hk with
    | 1, _, _ =>
      have h1 := G1.out.1
      have h2 := G1.out.2.1
      have h3 := G1.out.2.2
      go_upto_region 8 with (fail)
      have hne : Nonempty (Near _) := ⟨⟨wr, Below.refl _ _⟩⟩
      refine wp_region_near (by kernel_rfl) (by kernel_rfl) ?_
      repeat (first | (go_big_quiet_want; (with_reducible refine quiet_by _ (fun w hw => exec_load (t := 22) rfl (near_c X1.out w hw) rfl) ?_); simp only [Act.put, List.setIfInBounds_toArray, List.set_cons_zero, List.set_cons_succ]; go_big_quiet_on) | (go_big_quiet_want; (with_reducible refine quiet_by _ (fun w hw => exec_load (t := 22) rfl (near_e1 X1.out w hw) rfl) ?_); simp only [Act.put, List.setIfInBounds_toArray, List.set_cons_zero, List.set_cons_succ]; go_big_quiet_on) | (go_big_quiet_want; (with_reducible refine quiet_by _ (fun w hw => exec_load (t := 22) rfl (near_p1 X1.out w hw) rfl) ?_); simp only [Act.put, List.setIfInBounds_toArray, List.set_cons_zero, List.set_cons_succ]; go_big_quiet_on) | (go_big_quiet_want; (with_reducible refine quiet_by _ (fun w hw => exec_load (t := 22) rfl (near_l1 X1.out w hw) rfl) ?_); simp only [Act.put, List.setIfInBounds_toArray, List.set_cons_zero, List.set_cons_succ]; go_big_quiet_on) | go_big_quiet_step (first | fail | fail))
      refine wpQuiet_nil ?_
      rintro _ ⟨pn, rfl⟩
      have HV := Lib.hid (HW.out.trans (pn.near.mono HW.out.size))
      have X2 := Lib.hid (X1.out.next pn.near)
      clear hne
      generalize pn.wx = wa at *
      go_upto_region 11 with (fail)
      have hne : Nonempty (Near _) := ⟨⟨wa, Below.refl _ _⟩⟩
      refine wp_region_near (by kernel_rfl) (by kernel_rfl) ?_
      repeat (first | go_big_quiet_step (first | fail | fail))
      refine wpQuiet_nil ?_
      rintro _ ⟨pn, rfl⟩
      have HU := Lib.hid (HV.out.trans (pn.near.mono HV.out.size))
      clear hne
      generalize pn.wx = wb at *
      go_wp2_with fail
      go_round
      case rel => exact ⟨2, by omega, by omega, rfl, HU⟩
      case measure => simp [intOf]
    | 2, _, _ =>
      rcases Bool.eq_false_or_eq_true (bits .and .u32 (bits .andNot .u32 s h.c / 4) 1 == 1) with h1 | h1
      rotate_left
      · go_upto_region 8 with (fail)
        have hne : Nonempty (Near _) := ⟨⟨wr, Below.refl _ _⟩⟩
        refine wp_region_near (by kernel_rfl) (by kernel_rfl) ?_
        repeat (first | (go_big_quiet_want; (with_reducible refine quiet_by _ (fun w hw => exec_load (t := 22) rfl (near_c X1.out w hw) rfl) ?_); simp only [Act.put, List.setIfInBounds_toArray, List.set_cons_zero, List.set_cons_succ]; go_big_quiet_on) | go_big_quiet_step (first | fail | fail))
        refine wpQuiet_nil ?_
        rintro _ ⟨pn, rfl⟩
        have HV := Lib.hid (HW.out.trans (pn.near.mono HW.out.size))
        have X2 := Lib.hid (X1.out.next pn.near)
        clear hne
        generalize pn.wx = wa at *
        go_upto_region 11 with (fail)
        have hne : Nonempty (Near _) := ⟨⟨wa, Below.refl _ _⟩⟩
        refine wp_region_near (by kernel_rfl) (by kernel_rfl) ?_
        repeat (first | go_big_quiet_step (first | fail | fail))
        refine wpQuiet_nil ?_
        rintro _ ⟨pn, rfl⟩
        have HU := Lib.hid (HV.out.trans (pn.near.mono HV.out.size))
        clear hne
        generalize pn.wx = wb at *
        go_wp2_with fail
        go_round
        case rel => exact ⟨3, by omega, by omega, rfl, HU⟩
        case measure => simp [intOf]
      rcases Bool.eq_false_or_eq_true (bits .and .u32 (h.e1 / 4) 1 == 1) with h2 | h2
      rotate_left
      · go_upto_region 8 with (fail)
        have hne : Nonempty (Near _) := ⟨⟨wr, Below.refl _ _⟩⟩
        refine wp_region_near (by kernel_rfl) (by kernel_rfl) ?_
        repeat (first | (go_big_quiet_want; (with_reducible refine quiet_by _ (fun w hw => exec_load (t := 22) rfl (near_c X1.out w hw) rfl) ?_); simp only [Act.put, List.setIfInBounds_toArray, List.set_cons_zero, List.set_cons_succ]; go_big_quiet_on) | (go_big_quiet_want; (with_reducible refine quiet_by _ (fun w hw => exec_load (t := 22) rfl (near_e1 X1.out w hw) rfl) ?_); simp only [Act.put, List.setIfInBounds_toArray, List.set_cons_zero, List.set_cons_succ]; go_big_quiet_on) | go_big_quiet_step (first | fail | fail))
        refine wpQuiet_nil ?_
        rintro _ ⟨pn, rfl⟩
        have HV := Lib.hid (HW.out.trans (pn.near.mono HW.out.size))
        have X2 := Lib.hid (X1.out.next pn.near)
        clear hne
        generalize pn.wx = wa at *
        go_upto_region 11 with (fail)
        have hne : Nonempty (Near _) := ⟨⟨wa, Below.refl _ _⟩⟩
        refine wp_region_near (by kernel_rfl) (by kernel_rfl) ?_
        repeat (first | go_big_quiet_step (first | fail | fail))
        refine wpQuiet_nil ?_
        rintro _ ⟨pn, rfl⟩
        have HU := Lib.hid (HV.out.trans (pn.near.mono HV.out.size))
        clear hne
        generalize pn.wx = wb at *
        go_wp2_with fail
        go_round
        case rel => exact ⟨3, by omega, by omega, rfl, HU⟩
        case measure => simp [intOf]
      by_cases h3 : h.l1 < h.p2
      rotate_left
      · go_upto_region 8 with (fail)
        have hne : Nonempty (Near _) := ⟨⟨wr, Below.refl _ _⟩⟩
        refine wp_region_near (by kernel_rfl) (by kernel_rfl) ?_
        repeat (first | (go_big_quiet_want; (with_reducible refine quiet_by _ (fun w hw => exec_load (t := 22) rfl (near_c X1.out w hw) rfl) ?_); simp only [Act.put, List.setIfInBounds_toArray, List.set_cons_zero, List.set_cons_succ]; go_big_quiet_on) | (go_big_quiet_want; (with_reducible refine quiet_by _ (fun w hw => exec_load (t := 22) rfl (near_e1 X1.out w hw) rfl) ?_); simp only [Act.put, List.setIfInBounds_toArray, List.set_cons_zero, List.set_cons_succ]; go_big_quiet_on) | (go_big_quiet_want; (with_reducible refine quiet_by _ (fun w hw => exec_load (t := 22) rfl (near_p2 X1.out w hw) rfl) ?_); simp only [Act.put, List.setIfInBounds_toArray, List.set_cons_zero, List.set_cons_succ]; go_big_quiet_on) | (go_big_quiet_want; (with_reducible refine quiet_by _ (fun w hw => exec_load (t := 22) rfl (near_l1 X1.out w hw) rfl) ?_); simp only [Act.put, List.setIfInBounds_toArray, List.set_cons_zero, List.set_cons_succ]; go_big_quiet_on) | go_big_quiet_step (first | fail | fail))
        refine wpQuiet_nil ?_
        rintro _ ⟨pn, rfl⟩
        have HV := Lib.hid (HW.out.trans (pn.near.mono HW.out.size))
        have X2 := Lib.hid (X1.out.next pn.near)
        clear hne
        generalize pn.wx = wa at *
        go_upto_region 11 with (fail)
        have hne : Nonempty (Near _) := ⟨⟨wa, Below.refl _ _⟩⟩
        refine wp_region_near (by kernel_rfl) (by kernel_rfl) ?_
        repeat (first | go_big_quiet_step (first | fail | fail))
        refine wpQuiet_nil ?_
        rintro _ ⟨pn, rfl⟩
        have HU := Lib.hid (HV.out.trans (pn.near.mono HV.out.size))
        clear hne
        generalize pn.wx = wb at *
        go_wp2_with fail
        go_round
        case rel => exact ⟨3, by omega, by omega, rfl, HU⟩
        case measure => simp [intOf]
      have h4 := G2.out ⟨h1, h2, h3⟩
      have h5 : ¬ h.p1 < h.p2 := by omega
      clear h4
      rcases Bool.eq_false_or_eq_true (h.p2 == h.p1) with h6 | h6
      · go_upto_region 8 with (fail)
        have hne : Nonempty (Near _) := ⟨⟨wr, Below.refl _ _⟩⟩
        refine wp_region_near (by kernel_rfl) (by kernel_rfl) ?_
        repeat (first | (go_big_quiet_want; (with_reducible refine quiet_by _ (fun w hw => exec_load (t := 22) rfl (near_c X1.out w hw) rfl) ?_); simp only [Act.put, List.setIfInBounds_toArray, List.set_cons_zero, List.set_cons_succ]; go_big_quiet_on) | (go_big_quiet_want; (with_reducible refine quiet_by _ (fun w hw => exec_load (t := 22) rfl (near_e1 X1.out w hw) rfl) ?_); simp only [Act.put, List.setIfInBounds_toArray, List.set_cons_zero, List.set_cons_succ]; go_big_quiet_on) | (go_big_quiet_want; (with_reducible refine quiet_by _ (fun w hw => exec_load (t := 22) rfl (near_p2 X1.out w hw) rfl) ?_); simp only [Act.put, List.setIfInBounds_toArray, List.set_cons_zero, List.set_cons_succ]; go_big_quiet_on) | (go_big_quiet_want; (with_reducible refine quiet_by _ (fun w hw => exec_load (t := 22) rfl (near_l1 X1.out w hw) rfl) ?_); simp only [Act.put, List.setIfInBounds_toArray, List.set_cons_zero, List.set_cons_succ]; go_big_quiet_on) | go_big_quiet_step (first | fail | fail))
        refine wpQuiet_nil ?_
        rintro _ ⟨pn, rfl⟩
        have HV := Lib.hid (HW.out.trans (pn.near.mono HW.out.size))
        have X2 := Lib.hid (X1.out.next pn.near)
        clear hne
        generalize pn.wx = wa at *
        go_upto_region 11 with (fail)
        have hne : Nonempty (Near _) := ⟨⟨wa, Below.refl _ _⟩⟩
        refine wp_region_near (by kernel_rfl) (by kernel_rfl) ?_
        repeat (first | (go_big_quiet_want; (with_reducible refine quiet_by _ (fun w hw => exec_load (t := 22) rfl (near_p2 X2.out w hw) rfl) ?_); simp only [Act.put, List.setIfInBounds_toArray, List.set_cons_zero, List.set_cons_succ]; go_big_quiet_on) | (go_big_quiet_want; (with_reducible refine quiet_by _ (fun w hw => exec_load (t := 22) rfl (near_p1 X2.out w hw) rfl) ?_); simp only [Act.put, List.setIfInBounds_toArray, List.set_cons_zero, List.set_cons_succ]; go_big_quiet_on) | go_big_quiet_step (first | fail | fail))
        refine wpQuiet_nil ?_
        rintro _ ⟨pn, rfl⟩
        have HU := Lib.hid (HV.out.trans (pn.near.mono HV.out.size))
        clear hne
        generalize pn.wx = wb at *
        go_wp2_with fail
        go_round
        case rel => exact ⟨3, by omega, by omega, rfl, HU⟩
        case measure => simp [intOf]
      · go_upto_region 8 with (fail)
        have hne : Nonempty (Near _) := ⟨⟨wr, Below.refl _ _⟩⟩
        refine wp_region_near (by kernel_rfl) (by kernel_rfl) ?_
        repeat (first | (go_big_quiet_want; (with_reducible refine quiet_by _ (fun w hw => exec_load (t := 22) rfl (near_c X1.out w hw) rfl) ?_); simp only [Act.put, List.setIfInBounds_toArray, List.set_cons_zero, List.set_cons_succ]; go_big_quiet_on) | (go_big_quiet_want; (with_reducible refine quiet_by _ (fun w hw => exec_load (t := 22) rfl (near_e1 X1.out w hw) rfl) ?_); simp only [Act.put, List.setIfInBounds_toArray, List.set_cons_zero, List.set_cons_succ]; go_big_quiet_on) | (go_big_quiet_want; (with_reducible refine quiet_by _ (fun w hw => exec_load (t := 22) rfl (near_p2 X1.out w hw) rfl) ?_); simp only [Act.put, List.setIfInBounds_toArray, List.set_cons_zero, List.set_cons_succ]; go_big_quiet_on) | (go_big_quiet_want; (with_reducible refine quiet_by _ (fun w hw => exec_load (t := 22) rfl (near_l1 X1.out w hw) rfl) ?_); simp only [Act.put, List.setIfInBounds_toArray, List.set_cons_zero, List.set_cons_succ]; go_big_quiet_on) | go_big_quiet_step (first | fail | fail))
        refine wpQuiet_nil ?_
        rintro _ ⟨pn, rfl⟩
        have HV := Lib.hid (HW.out.trans (pn.near.mono HW.out.size))
        have X2 := Lib.hid (X1.out.next pn.near)
        clear hne
        generalize pn.wx = wa at *
        go_upto_region 11 with (fail)
        have hne : Nonempty (Near _) := ⟨⟨wa, Below.refl _ _⟩⟩
        refine wp_region_near (by kernel_rfl) (by kernel_rfl) ?_
        repeat (first | (go_big_quiet_want; (with_reducible refine quiet_by _ (fun w hw => exec_load (t := 22) rfl (near_p2 X2.out w hw) rfl) ?_); simp only [Act.put, List.setIfInBounds_toArray, List.set_cons_zero, List.set_cons_succ]; go_big_quiet_on) | (go_big_quiet_want; (with_reducible refine quiet_by _ (fun w hw => exec_load (t := 22) rfl (near_p1 X2.out w hw) rfl) ?_); simp only [Act.put, List.setIfInBounds_toArray, List.set_cons_zero, List.set_cons_succ]; go_big_quiet_on) | go_big_quiet_step (first | fail | fail))
        refine wpQuiet_nil ?_
        rintro _ ⟨pn, rfl⟩
        have HU := Lib.hid (HV.out.trans (pn.near.mono HV.out.size))
        clear hne
        generalize pn.wx = wb at *
        go_wp2_with fail
        go_round
        case rel => exact ⟨3, by omega, by omega, rfl, HU⟩
        case measure => simp [intOf]
    | 3, _, _ =>
      rcases Bool.eq_false_or_eq_true (bits .and .u32 (bits .andNot .u32 s h.c / 8) 1 == 1) with h1 | h1
      rotate_left
      · go_upto_region 8 with (fail)
        have hne : Nonempty (Near _) := ⟨⟨wr, Below.refl _ _⟩⟩
        refine wp_region_near (by kernel_rfl) (by kernel_rfl) ?_
        repeat (first | (go_big_quiet_want; (with_reducible refine quiet_by _ (fun w hw => exec_load (t := 22) rfl (near_c X1.out w hw) rfl) ?_); simp only [Act.put, List.setIfInBounds_toArray, List.set_cons_zero, List.set_cons_succ]; go_big_quiet_on) | go_big_quiet_step (first | fail | fail))
        refine wpQuiet_nil ?_
        rintro _ ⟨pn, rfl⟩
        have HV := Lib.hid (HW.out.trans (pn.near.mono HW.out.size))
        have X2 := Lib.hid (X1.out.next pn.near)
        clear hne
        generalize pn.wx = wa at *
        go_upto_region 11 with (fail)
        have hne : Nonempty (Near _) := ⟨⟨wa, Below.refl _ _⟩⟩
        refine wp_region_near (by kernel_rfl) (by kernel_rfl) ?_
        repeat (first | go_big_quiet_step (first | fail | fail))
        refine wpQuiet_nil ?_
        rintro _ ⟨pn, rfl⟩
        have HU := Lib.hid (HV.out.trans (pn.near.mono HV.out.size))
        clear hne
        generalize pn.wx = wb at *
        go_wp2_with fail
        go_round
        case rel => exact ⟨4, by omega, by omega, rfl, HU⟩
        case measure => simp [intOf]
      rcases Bool.eq_false_or_eq_true (bits .and .u32 (h.e1 / 8) 1 == 1) with h2 | h2
      rotate_left
      · go_upto_region 8 with (fail)
        have hne : Nonempty (Near _) := ⟨⟨wr, Below.refl _ _⟩⟩
        refine wp_region_near (by kernel_rfl) (by kernel_rfl) ?_
        repeat (first | (go_big_quiet_want; (with_reducible refine quiet_by _ (fun w hw => exec_load (t := 22) rfl (near_c X1.out w hw) rfl) ?_); simp only [Act.put, List.setIfInBounds_toArray, List.set_cons_zero, List.set_cons_succ]; go_big_quiet_on) | (go_big_quiet_want; (with_reducible refine quiet_by _ (fun w hw => exec_load (t := 22) rfl (near_e1 X1.out w hw) rfl) ?_); simp only [Act.put, List.setIfInBounds_toArray, List.set_cons_zero, List.set_cons_succ]; go_big_quiet_on) | go_big_quiet_step (first | fail | fail))
        refine wpQuiet_nil ?_
        rintro _ ⟨pn, rfl⟩
        have HV := Lib.hid (HW.out.trans (pn.near.mono HW.out.size))
        have X2 := Lib.hid (X1.out.next pn.near)
        clear hne
        generalize pn.wx = wa at *
        go_upto_region 11 with (fail)
        have hne : Nonempty (Near _) := ⟨⟨wa, Below.refl _ _⟩⟩
        refine wp_region_near (by kernel_rfl) (by kernel_rfl) ?_
        repeat (first | go_big_quiet_step (first | fail | fail))
        refine wpQuiet_nil ?_
        rintro _ ⟨pn, rfl⟩
        have HU := Lib.hid (HV.out.trans (pn.near.mono HV.out.size))
        clear hne
        generalize pn.wx = wb at *
        go_wp2_with fail
        go_round
        case rel => exact ⟨4, by omega, by omega, rfl, HU⟩
        case measure => simp [intOf]
      by_cases h3 : h.l1 < h.p3
      rotate_left
      · go_upto_region 8 with (fail)
        have hne : Nonempty (Near _) := ⟨⟨wr, Below.refl _ _⟩⟩
        refine wp_region_near (by kernel_rfl) (by kernel_rfl) ?_
        repeat (first | (go_big_quiet_want; (with_reducible refine quiet_by _ (fun w hw => exec_load (t := 22) rfl (near_c X1.out w hw) rfl) ?_); simp only [Act.put, List.setIfInBounds_toArray, List.set_cons_zero, List.set_cons_succ]; go_big_quiet_on) | (go_big_quiet_want; (with_reducible refine quiet_by _ (fun w hw => exec_load (t := 22) rfl (near_e1 X1.out w hw) rfl) ?_); simp only [Act.put, List.setIfInBounds_toArray, List.set_cons_zero, List.set_cons_succ]; go_big_quiet_on) | (go_big_quiet_want; (with_reducible refine quiet_by _ (fun w hw => exec_load (t := 22) rfl (near_p3 X1.out w hw) rfl) ?_); simp only [Act.put, List.setIfInBounds_toArray, List.set_cons_zero, List.set_cons_succ]; go_big_quiet_on) | (go_big_quiet_want; (with_reducible refine quiet_by _ (fun w hw => exec_load (t := 22) rfl (near_l1 X1.out w hw) rfl) ?_); simp only [Act.put, List.setIfInBounds_toArray, List.set_cons_zero, List.set_cons_succ]; go_big_quiet_on) | go_big_quiet_step (first | fail | fail))
        refine wpQuiet_nil ?_
        rintro _ ⟨pn, rfl⟩
        have HV := Lib.hid (HW.out.trans (pn.near.mono HW.out.size))
        have X2 := Lib.hid (X1.out.next pn.near)
        clear hne
        generalize pn.wx = wa at *
        go_upto_region 11 with (fail)
        have hne : Nonempty (Near _) := ⟨⟨wa, Below.refl _ _⟩⟩
        refine wp_region_near (by kernel_rfl) (by kernel_rfl) ?_
        repeat (first | go_big_quiet_step (first | fail | fail))
        refine wpQuiet_nil ?_
        rintro _ ⟨pn, rfl⟩
        have HU := Lib.hid (HV.out.trans (pn.near.mono HV.out.size))
        clear hne
        generalize pn.wx = wb at *
        go_wp2_with fail
        go_round
        case rel => exact ⟨4, by omega, by omega, rfl, HU⟩
        case measure => simp [intOf]
      have h4 := G3.out ⟨h1, h2, h3⟩
      have h5 : ¬ h.p1 < h.p3 := by omega
      clear h4
      rcases Bool.eq_false_or_eq_true (h.p3 == h.p1) with h6 | h6
      · go_upto_region 8 with (fail)
        have hne : Nonempty (Near _) := ⟨⟨wr, Below.refl _ _⟩⟩
        refine wp_region_near (by kernel_rfl) (by kernel_rfl) ?_
        repeat (first | (go_big_quiet_want; (with_reducible refine quiet_by _ (fun w hw => exec_load (t := 22) rfl (near_c X1.out w hw) rfl) ?_); simp only [Act.put, List.setIfInBounds_toArray, List.set_cons_zero, List.set_cons_succ]; go_big_quiet_on) | (go_big_quiet_want; (with_reducible refine quiet_by _ (fun w hw => exec_load (t := 22) rfl (near_e1 X1.out w hw) rfl) ?_); simp only [Act.put, List.setIfInBounds_toArray, List.set_cons_zero, List.set_cons_succ]; go_big_quiet_on) | (go_big_quiet_want; (with_reducible refine quiet_by _ (fun w hw => exec_load (t := 22) rfl (near_p3 X1.out w hw) rfl) ?_); simp only [Act.put, List.setIfInBounds_toArray, List.set_cons_zero, List.set_cons_succ]; go_big_quiet_on) | (go_big_quiet_want; (with_reducible refine quiet_by _ (fun w hw => exec_load (t := 22) rfl (near_l1 X1.out w hw) rfl) ?_); simp only [Act.put, List.setIfInBounds_toArray, List.set_cons_zero, List.set_cons_succ]; go_big_quiet_on) | go_big_quiet_step (first | fail | fail))
        refine wpQuiet_nil ?_
        rintro _ ⟨pn, rfl⟩
        have HV := Lib.hid (HW.out.trans (pn.near.mono HW.out.size))
        have X2 := Lib.hid (X1.out.next pn.near)
        clear hne
        generalize pn.wx = wa at *
        go_upto_region 11 with (fail)
        have hne : Nonempty (Near _) := ⟨⟨wa, Below.refl _ _⟩⟩
        refine wp_region_near (by kernel_rfl) (by kernel_rfl) ?_
        repeat (first | (go_big_quiet_want; (with_reducible refine quiet_by _ (fun w hw => exec_load (t := 22) rfl (near_p3 X2.out w hw) rfl) ?_); simp only [Act.put, List.setIfInBounds_toArray, List.set_cons_zero, List.set_cons_succ]; go_big_quiet_on) | (go_big_quiet_want; (with_reducible refine quiet_by _ (fun w hw => exec_load (t := 22) rfl (near_p1 X2.out w hw) rfl) ?_); simp only [Act.put, List.setIfInBounds_toArray, List.set_cons_zero, List.set_cons_succ]; go_big_quiet_on) | go_big_quiet_step (first | fail | fail))
        refine wpQuiet_nil ?_
        rintro _ ⟨pn, rfl⟩
        have HU := Lib.hid (HV.out.trans (pn.near.mono HV.out.size))
        clear hne
        generalize pn.wx = wb at *
        go_wp2_with fail
        go_round
        case rel => exact ⟨4, by omega, by omega, rfl, HU⟩
        case measure => simp [intOf]
      · go_upto_region 8 with (fail)
        have hne : Nonempty (Near _) := ⟨⟨wr, Below.refl _ _⟩⟩
        refine wp_region_near (by kernel_rfl) (by kernel_rfl) ?_
        repeat (first | (go_big_quiet_want; (with_reducible refine quiet_by _ (fun w hw => exec_load (t := 22) rfl (near_c X1.out w hw) rfl) ?_); simp only [Act.put, List.setIfInBounds_toArray, List.set_cons_zero, List.set_cons_succ]; go_big_quiet_on) | (go_big_quiet_want; (with_reducible refine quiet_by _ (fun w hw => exec_load (t := 22) rfl (near_e1 X1.out w hw) rfl) ?_); simp only [Act.put, List.setIfInBounds_toArray, List.set_cons_zero, List.set_cons_succ]; go_big_quiet_on) | (go_big_quiet_want; (with_reducible refine quiet_by _ (fun w hw => exec_load (t := 22) rfl (near_p3 X1.out w hw) rfl) ?_); simp only [Act.put, List.setIfInBounds_toArray, List.set_cons_zero, List.set_cons_succ]; go_big_quiet_on) | (go_big_quiet_want; (with_reducible refine quiet_by _ (fun w hw => exec_load (t := 22) rfl (near_l1 X1.out w hw) rfl) ?_); simp only [Act.put, List.setIfInBounds_toArray, List.set_cons_zero, List.set_cons_succ]; go_big_quiet_on) | go_big_quiet_step (first | fail | fail))
        refine wpQuiet_nil ?_
        rintro _ ⟨pn, rfl⟩
        have HV := Lib.hid (HW.out.trans (pn.near.mono HW.out.size))
        have X2 := Lib.hid (X1.out.next pn.near)
        clear hne
        generalize pn.wx = wa at *
        go_upto_region 11 with (fail)
        have hne : Nonempty (Near _) := ⟨⟨wa, Below.refl _ _⟩⟩
        refine wp_region_near (by kernel_rfl) (by kernel_rfl) ?_
        repeat (first | (go_big_quiet_want; (with_reducible refine quiet_by _ (fun w hw => exec_load (t := 22) rfl (near_p3 X2.out w hw) rfl) ?_); simp only [Act.put, List.setIfInBounds_toArray, List.set_cons_zero, List.set_cons_succ]; go_big_quiet_on) | (go_big_quiet_want; (with_reducible refine quiet_by _ (fun w hw => exec_load (t := 22) rfl (near_p1 X2.out w hw) rfl) ?_); simp only [Act.put, List.setIfInBounds_toArray, List.set_cons_zero, List.set_cons_succ]; go_big_quiet_on) | go_big_quiet_step (first | fail | fail))
        refine wpQuiet_nil ?_
        rintro _ ⟨pn, rfl⟩
        have HU := Lib.hid (HV.out.trans (pn.near.mono HV.out.size))
        clear hne
        generalize pn.wx = wb at *
        go_wp2_with fail
        go_round
        case rel => exact ⟨4, by omega, by omega, rfl, HU⟩
        case measure => simp [intOf]
    | 4, _, _ =>
      go_wp2_with fail
      go_ret
      exact ⟨rfl, B0.out.trans (HW.out.mono HZ.out)⟩
set_option maxRecDepth 100000 in
set_option maxHeartbeats 1000000 in
theorem first_1_2 (h : Pl) (s who : Int) (hw : bits .and .i64 who 1 = 1) (c8 : RowKit.Hid (∀ W, Calls Try.prog 8 #[plV h, .int .u32 s, .int .i64 1] W fun e W' => e = .returned (.int .i64 2) ∧ Below W.heap.size W W')) (G1 : RowKit.Hid (((bits .and .u32 (bits .andNot .u32 s h.c / 2) 1 == 1) = true ∧ (bits .and .u32 (h.e1 / 2) 1 == 1) = true ∧ h.l1 < h.p1) → h.p1 < h.p2)) (G2 : RowKit.Hid ((bits .and .u32 (bits .andNot .u32 s h.c / 4) 1 == 1) = true ∧ (bits .and .u32 (h.e1 / 4) 1 == 1) = true ∧ h.l1 < h.p2)) (G3 : RowKit.Hid (((bits .and .u32 (bits .andNot .u32 s h.c / 8) 1 == 1) = true ∧ (bits .and .u32 (h.e1 / 8) 1 == 1) = true ∧ h.l1 < h.p3) → h.p3 ≤ h.p2)) (W : World) : Calls Try.prog 6 #[plV h, .int .u32 s, .int .i64 who] W fun e W' => e = .returned (.bool true) ∧ Below W.heap.size W W' := by
  have X := Lib.hid ((Vs.nil W).new h)
  go_enter Try.func6, Try.ntmps6
  go_upto_region 5 with (first | (with_reducible refine wpList_load_by rfl rfl (Box.load (Vs.g0 X.out)) rfl ?_) | (go_at_call 7; (with_reducible refine (awake_any _).mono ?_); rintro e w' ⟨rfl, kk⟩; have X := Lib.hid (X.out.next kk); clear kk) | (go_at_call 8; (with_reducible refine (c8.out _).mono ?_); rintro e w' ⟨rfl, kk⟩; have X := Lib.hid (X.out.next kk); clear kk) | fail)
  have B0 := Lib.hid X.out.below
  have X0 := Lib.hid X.out.g0
  clear X
  generalize w' = w0 at *
  have hsz : W.heap.size ≤ w0.heap.size := B0.out.size
  have HZ := Lib.hid hsz
  clear hsz
  go_wp2_with fail
  go_loopw [8] (fun i wr => ∃ k : Nat, 1 ≤ k ∧ k ≤ 4 ∧ i = .int .i64 k ∧ RowKit.Hid (Below w0.heap.size w0 wr)) (fun i _ => 4 - (intOf i).toNat)
  case atStart => exact ⟨1, by omega, by omega, rfl, Lib.hid (Below.refl _ _)⟩
  case round =>
    obtain ⟨k, hk1, hk, rfl, HW⟩ := hrel
    have X1 := Lib.hid (X0.out.next HW.out)
    match k, hk1, hk with
    | 1, _, _ =>
      rcases Bool.eq_false_or_eq_true (bits .and .u32 (bits .andNot .u32 s h.c / 2) 1 == 1) with h1 | h1
      rotate_left
      · go_upto_region 8 with (fail)
        have hne : Nonempty (Near _) := ⟨⟨wr, Below.refl _ _⟩⟩
        refine wp_region_near (by kernel_rfl) (by kernel_rfl) ?_
        repeat (first | (go_big_quiet_want; (with_reducible refine quiet_by _ (fun w hw => exec_load (t := 22) rfl (near_c X1.out w hw) rfl) ?_); simp only [Act.put, List.setIfInBounds_toArray, List.set_cons_zero, List.set_cons_succ]; go_big_quiet_on) | go_big_quiet_step (first | fail | fail))
        refine wpQuiet_nil ?_
        rintro _ ⟨pn, rfl⟩
        have HV := Lib.hid (HW.out.trans (pn.near.mono HW.out.size))
        have X2 := Lib.hid (X1.out.next pn.near)
        clear hne
        generalize pn.wx = wa at *
        go_upto_region 11 with (fail)
        have hne : Nonempty (Near _) := ⟨⟨wa, Below.refl _ _⟩⟩
        refine wp_region_near (by kernel_rfl) (by kernel_rfl) ?_
        repeat (first | go_big_quiet_step (first | fail | fail))
        refine wpQuiet_nil ?_
        rintro _ ⟨pn, rfl⟩
        have HU := Lib.hid (HV.out.trans (pn.near.mono HV.out.size))
        clear hne
        generalize pn.wx = wb at *
        go_wp2_with fail
        go_round
        case rel => exact ⟨2, by omega, by omega, rfl, HU⟩
        case measure => simp [intOf]
      rcases Bool.eq_false_or_eq_true (bits .and .u32 (h.e1 / 2) 1 == 1) with h2 | h2
      rotate_left
      · go_upto_region 8 with (fail)
        have hne : Nonempty (Near _) := ⟨⟨wr, Below.refl _ _⟩⟩
        refine wp_region_near (by kernel_rfl) (by kernel_rfl) ?_
        repeat (first | (go_big_quiet_want; (with_reducible refine quiet_by _ (fun w hw => exec_load (t := 22) rfl (near_c X1.out w hw) rfl) ?_); simp only [Act.put, List.setIfInBounds_toArray, List.set_cons_zero, List.set_cons_succ]; go_big_quiet_on) | (go_big_quiet_want; (with_reducible refine quiet_by _ (fun w hw => exec_load (t := 22) rfl (near_e1 X1.out w hw) rfl) ?_); simp only [Act.put, List.setIfInBounds_toArray, List.set_cons_zero, List.set_cons_succ]; go_big_quiet_on) | go_big_quiet_step (first | fail | fail))
        refine wpQuiet_nil ?_
        rintro _ ⟨pn, rfl⟩
        have HV := Lib.hid (HW.out.trans (pn.near.mono HW.out.size))
        have X2 := Lib.hid (X1.out.next pn.near)
        clear hne
        generalize pn.wx = wa at *
        go_upto_region 11 with (fail)
        have hne : Nonempty (Near _) := ⟨⟨wa, Below.refl _ _⟩⟩
        refine wp_region_near (by kernel_rfl) (by kernel_rfl) ?_
        repeat (first | go_big_quiet_step (first | fail | fail))
        refine wpQuiet_nil ?_
        rintro _ ⟨pn, rfl⟩
        have HU := Lib.hid (HV.out.trans (pn.near.mono HV.out.size))
        clear hne
        generalize pn.wx = wb at *
        go_wp2_with fail
        go_round
        case rel => exact ⟨2, by omega, by omega, rfl, HU⟩
        case measure => simp [intOf]
      by_cases h3 : h.l1 < h.p1
      rotate_left
      · go_upto_region 8 with (fail)
        have hne : Nonempty (Near _) := ⟨⟨wr, Below.refl _ _⟩⟩
        refine wp_region_near (by kernel_rfl) (by kernel_rfl) ?_
        repeat (first | (go_big_quiet_want; (with_reducible refine quiet_by _ (fun w hw => exec_load (t := 22) rfl (near_c X1.out w hw) rfl) ?_); simp only [Act.put, List.setIfInBounds_toArray, List.set_cons_zero, List.set_cons_succ]; go_big_quiet_on) | (go_big_quiet_want; (with_reducible refine quiet_by _ (fun w hw => exec_load (t := 22) rfl (near_e1 X1.out w hw) rfl) ?_); simp only [Act.put, List.setIfInBounds_toArray, List.set_cons_zero, List.set_cons_succ]; go_big_quiet_on) | (go_big_quiet_want; (with_reducible refine quiet_by _ (fun w hw => exec_load (t := 22) rfl (near_p1 X1.out w hw) rfl) ?_); simp only [Act.put, List.setIfInBounds_toArray, List.set_cons_zero, List.set_cons_succ]; go_big_quiet_on) | (go_big_quiet_want; (with_reducible refine quiet_by _ (fun w hw => exec_load (t := 22) rfl (near_l1 X1.out w hw) rfl) ?_); simp only [Act.put, List.setIfInBounds_toArray, List.set_cons_zero, List.set_cons_succ]; go_big_quiet_on) | go_big_quiet_step (first | fail | fail))
        refine wpQuiet_nil ?_
        rintro _ ⟨pn, rfl⟩
        have HV := Lib.hid (HW.out.trans (pn.near.mono HW.out.size))
        have X2 := Lib.hid (X1.out.next pn.near)
        clear hne
        generalize pn.wx = wa at *
        go_upto_region 11 with (fail)
        have hne : Nonempty (Near _) := ⟨⟨wa, Below.refl _ _⟩⟩
        refine wp_region_near (by kernel_rfl) (by kernel_rfl) ?_
        repeat (first | go_big_quiet_step (first | fail | fail))
        refine wpQuiet_nil ?_
        rintro _ ⟨pn, rfl⟩
        have HU := Lib.hid (HV.out.trans (pn.near.mono HV.out.size))
        clear hne
        generalize pn.wx = wb at *
        go_wp2_with fail
        go_round
        case rel => exact ⟨2, by omega, by omega, rfl, HU⟩
        case measure => simp [intOf]
      have h4 := G1.out ⟨h1, h2, h3⟩
      have h5 : ¬ h.p2 < h.p1 := by omega
      have h6 : (h.p1 == h.p2) = false := by rw [beq_eq_false_iff_ne]; omega
      clear h4
      go_upto_region 8 with (fail)
      have hne : Nonempty (Near _) := ⟨⟨wr, Below.refl _ _⟩⟩
      refine wp_region_near (by kernel_rfl) (by kernel_rfl) ?_
      repeat (first | (go_big_quiet_want; (with_reducible refine quiet_by _ (fun w hw => exec_load (t := 22) rfl (near_c X1.out w hw) rfl) ?_); simp only [Act.put, List.setIfInBounds_toArray, List.set_cons_zero, List.set_cons_succ]; go_big_quiet_on) | (go_big_quiet_want; (with_reducible refine quiet_by _ (fun w hw => exec_load (t := 22) rfl (near_e1 X1.out w hw) rfl) ?_); simp only [Act.put, List.setIfInBounds_toArray, List.set_cons_zero, List.set_cons_succ]; go_big_quiet_on) | (go_big_quiet_want; (with_reducible refine quiet_by _ (fun w hw => exec_load (t := 22) rfl (near_p1 X1.out w hw) rfl) ?_); simp only [Act.put, List.setIfInBounds_toArray, List.set_cons_zero, List.set_cons_succ]; go_big_quiet_on) | (go_big_quiet_want; (with_reducible refine quiet_by _ (fun w hw => exec_load (t := 22) rfl (near_l1 X1.out w hw) rfl) ?_); simp only [Act.put, List.setIfInBounds_toArray, List.set_cons_zero, List.set_cons_succ]; go_big_quiet_on) | go_big_quiet_step (first | fail | fail))
      refine wpQuiet_nil ?_
      rintro _ ⟨pn, rfl⟩
      have HV := Lib.hid (HW.out.trans (pn.near.mono HW.out.size))
      have X2 := Lib.hid (X1.out.next pn.near)
      clear hne
      generalize pn.wx = wa at *
      go_upto_region 11 with (fail)
      have hne : Nonempty (Near _) := ⟨⟨wa, Below.refl _ _⟩⟩
      refine wp_region_near (by kernel_rfl) (by kernel_rfl) ?_
      repeat (first | (go_big_quiet_want; (with_reducible refine quiet_by _ (fun w hw => exec_load (t := 22) rfl (near_p1 X2.out w hw) rfl) ?_); simp only [Act.put, List.setIfInBounds_toArray, List.set_cons_zero, List.set_cons_succ]; go_big_quiet_on) | (go_big_quiet_want; (with_reducible refine quiet_by _ (fun w hw => exec_load (t := 22) rfl (near_p2 X2.out w hw) rfl) ?_); simp only [Act.put, List.setIfInBounds_toArray, List.set_cons_zero, List.set_cons_succ]; go_big_quiet_on) | go_big_quiet_step (first | fail | fail))
      refine wpQuiet_nil ?_
      rintro _ ⟨pn, rfl⟩
      have HU := Lib.hid (HV.out.trans (pn.near.mono HV.out.size))
      clear hne
      generalize pn.wx = wb at *
      go_wp2_with fail
      go_round
      case rel => exact ⟨2, by omega, by omega, rfl, HU⟩
      case measure => simp [intOf]
    | 2, _, _ =>
      have h1 := G2.out.1
      have h2 := G2.out.2.1
      have h3 := G2.out.2.2
      go_upto_region 8 with (fail)
      have hne : Nonempty (Near _) := ⟨⟨wr, Below.refl _ _⟩⟩
      refine wp_region_near (by kernel_rfl) (by kernel_rfl) ?_
      repeat (first | (go_big_quiet_want; (with_reducible refine quiet_by _ (fun w hw => exec_load (t := 22) rfl (near_c X1.out w hw) rfl) ?_); simp only [Act.put, List.setIfInBounds_toArray, List.set_cons_zero, List.set_cons_succ]; go_big_quiet_on) | (go_big_quiet_want; (with_reducible refine quiet_by _ (fun w hw => exec_load (t := 22) rfl (near_e1 X1.out w hw) rfl) ?_); simp only [Act.put, List.setIfInBounds_toArray, List.set_cons_zero, List.set_cons_succ]; go_big_quiet_on) | (go_big_quiet_want; (with_reducible refine quiet_by _ (fun w hw => exec_load (t := 22) rfl (near_p2 X1.out w hw) rfl) ?_); simp only [Act.put, List.setIfInBounds_toArray, List.set_cons_zero, List.set_cons_succ]; go_big_quiet_on) | (go_big_quiet_want; (with_reducible refine quiet_by _ (fun w hw => exec_load (t := 22) rfl (near_l1 X1.out w hw) rfl) ?_); simp only [Act.put, List.setIfInBounds_toArray, List.set_cons_zero, List.set_cons_succ]; go_big_quiet_on) | go_big_quiet_step (first | fail | fail))
      refine wpQuiet_nil ?_
      rintro _ ⟨pn, rfl⟩
      have HV := Lib.hid (HW.out.trans (pn.near.mono HW.out.size))
      have X2 := Lib.hid (X1.out.next pn.near)
      clear hne
      generalize pn.wx = wa at *
      go_upto_region 11 with (fail)
      have hne : Nonempty (Near _) := ⟨⟨wa, Below.refl _ _⟩⟩
      refine wp_region_near (by kernel_rfl) (by kernel_rfl) ?_
      repeat (first | go_big_quiet_step (first | fail | fail))
      refine wpQuiet_nil ?_
      rintro _ ⟨pn, rfl⟩
      have HU := Lib.hid (HV.out.trans (pn.near.mono HV.out.size))
      clear hne
      generalize pn.wx = wb at *
      go_wp2_with fail
      go_round
      case rel => exact ⟨3, by omega, by omega, rfl, HU⟩
      case measure => simp [intOf]
    | 3, _, _ =>
      rcases Bool.eq_false_or_eq_true (bits .and .u32 (bits .andNot .u32 s h.c / 8) 1 == 1) with h1 | h1
      rotate_left
      · go_upto_region 8 with (fail)
        have hne : Nonempty (Near _) := ⟨⟨wr, Below.refl _ _⟩⟩
        refine wp_region_near (by kernel_rfl) (by kernel_rfl) ?_
        repeat (first | (go_big_quiet_want; (with_reducible refine quiet_by _ (fun w hw => exec_load (t := 22) rfl (near_c X1.out w hw) rfl) ?_); simp only [Act.put, List.setIfInBounds_toArray, List.set_cons_zero, List.set_cons_succ]; go_big_quiet_on) | go_big_quiet_step (first | fail | fail))
        refine wpQuiet_nil ?_
        rintro _ ⟨pn, rfl⟩
        have HV := Lib.hid (HW.out.trans (pn.near.mono HW.out.size))
        have X2 := Lib.hid (X1.out.next pn.near)
        clear hne
        generalize pn.wx = wa at *
        go_upto_region 11 with (fail)
        have hne : Nonempty (Near _) := ⟨⟨wa, Below.refl _ _⟩⟩
        refine wp_region_near (by kernel_rfl) (by kernel_rfl) ?_
        repeat (first | go_big_quiet_step (first | fail | fail))
        refine wpQuiet_nil ?_
        rintro _ ⟨pn, rfl⟩
        have HU := Lib.hid (HV.out.trans (pn.near.mono HV.out.size))
        clear hne
        generalize pn.wx = wb at *
        go_wp2_with fail
        go_round
        case rel => exact ⟨4, by omega, by omega, rfl, HU⟩
        case measure => simp [intOf]
      rcases Bool.eq_false_or_eq_true (bits .and .u32 (h.e1 / 8) 1 == 1) with h2 | h2
      rotate_left
      · go_upto_region 8 with (fail)
        have hne : Nonempty (Near _) := ⟨⟨wr, Below.refl _ _⟩⟩
        refine wp_region_near (by kernel_rfl) (by kernel_rfl) ?_
        repeat (first | (go_big_quiet_want; (with_reducible refine quiet_by _ (fun w hw => exec_load (t := 22) rfl (near_c X1.out w hw) rfl) ?_); simp only [Act.put, List.setIfInBounds_toArray, List.set_cons_zero, List.set_cons_succ]; go_big_quiet_on) | (go_big_quiet_want; (with_reducible refine quiet_by _ (fun w hw => exec_load (t := 22) rfl (near_e1 X1.out w hw) rfl) ?_); simp only [Act.put, List.setIfInBounds_toArray, List.set_cons_zero, List.set_cons_succ]; go_big_quiet_on) | go_big_quiet_step (first | fail | fail))
        refine wpQuiet_nil ?_
        rintro _ ⟨pn, rfl⟩
        have HV := Lib.hid (HW.out.trans (pn.near.mono HW.out.size))
        have X2 := Lib.hid (X1.out.next pn.near)
        clear hne
        generalize pn.wx = wa at *
        go_upto_region 11 with (fail)
        have hne : Nonempty (Near _) := ⟨⟨wa, Below.refl _ _⟩⟩
        refine wp_region_near (by kernel_rfl) (by kernel_rfl) ?_
        repeat (first | go_big_quiet_step (first | fail | fail))
        refine wpQuiet_nil ?_
        rintro _ ⟨pn, rfl⟩
        have HU := Lib.hid (HV.out.trans (pn.near.mono HV.out.size))
        clear hne
        generalize pn.wx = wb at *
        go_wp2_with fail
        go_round
        case rel => exact ⟨4, by omega, by omega, rfl, HU⟩
        case measure => simp [intOf]
      by_cases h3 : h.l1 < h.p3
      rotate_left
      · go_upto_region 8 with (fail)
        have hne : Nonempty (Near _) := ⟨⟨wr, Below.refl _ _⟩⟩
        refine wp_region_near (by kernel_rfl) (by kernel_rfl) ?_
        repeat (first | (go_big_quiet_want; (with_reducible refine quiet_by _ (fun w hw => exec_load (t := 22) rfl (near_c X1.out w hw) rfl) ?_); simp only [Act.put, List.setIfInBounds_toArray, List.set_cons_zero, List.set_cons_succ]; go_big_quiet_on) | (go_big_quiet_want; (with_reducible refine quiet_by _ (fun w hw => exec_load (t := 22) rfl (near_e1 X1.out w hw) rfl) ?_); simp only [Act.put, List.setIfInBounds_toArray, List.set_cons_zero, List.set_cons_succ]; go_big_quiet_on) | (go_big_quiet_want; (with_reducible refine quiet_by _ (fun w hw => exec_load (t := 22) rfl (near_p3 X1.out w hw) rfl) ?_); simp only [Act.put, List.setIfInBounds_toArray, List.set_cons_zero, List.set_cons_succ]; go_big_quiet_on) | (go_big_quiet_want; (with_reducible refine quiet_by _ (fun w hw => exec_load (t := 22) rfl (near_l1 X1.out w hw) rfl) ?_); simp only [Act.put, List.setIfInBounds_toArray, List.set_cons_zero, List.set_cons_succ]; go_big_quiet_on) | go_big_quiet_step (first | fail | fail))
        refine wpQuiet_nil ?_
        rintro _ ⟨pn, rfl⟩
        have HV := Lib.hid (HW.out.trans (pn.near.mono HW.out.size))
        have X2 := Lib.hid (X1.out.next pn.near)
        clear hne
        generalize pn.wx = wa at *
        go_upto_region 11 with (fail)
        have hne : Nonempty (Near _) := ⟨⟨wa, Below.refl _ _⟩⟩
        refine wp_region_near (by kernel_rfl) (by kernel_rfl) ?_
        repeat (first | go_big_quiet_step (first | fail | fail))
        refine wpQuiet_nil ?_
        rintro _ ⟨pn, rfl⟩
        have HU := Lib.hid (HV.out.trans (pn.near.mono HV.out.size))
        clear hne
        generalize pn.wx = wb at *
        go_wp2_with fail
        go_round
        case rel => exact ⟨4, by omega, by omega, rfl, HU⟩
        case measure => simp [intOf]
      have h4 := G3.out ⟨h1, h2, h3⟩
      have h5 : ¬ h.p2 < h.p3 := by omega
      clear h4
      rcases Bool.eq_false_or_eq_true (h.p3 == h.p2) with h6 | h6
      · go_upto_region 8 with (fail)
        have hne : Nonempty (Near _) := ⟨⟨wr, Below.refl _ _⟩⟩
        refine wp_region_near (by kernel_rfl) (by kernel_rfl) ?_
        repeat (first | (go_big_quiet_want; (with_reducible refine quiet_by _ (fun w hw => exec_load (t := 22) rfl (near_c X1.out w hw) rfl) ?_); simp only [Act.put, List.setIfInBounds_toArray, List.set_cons_zero, List.set_cons_succ]; go_big_quiet_on) | (go_big_quiet_want; (with_reducible refine quiet_by _ (fun w hw => exec_load (t := 22) rfl (near_e1 X1.out w hw) rfl) ?_); simp only [Act.put, List.setIfInBounds_toArray, List.set_cons_zero, List.set_cons_succ]; go_big_quiet_on) | (go_big_quiet_want; (with_reducible refine quiet_by _ (fun w hw => exec_load (t := 22) rfl (near_p3 X1.out w hw) rfl) ?_); simp only [Act.put, List.setIfInBounds_toArray, List.set_cons_zero, List.set_cons_succ]; go_big_quiet_on) | (go_big_quiet_want; (with_reducible refine quiet_by _ (fun w hw => exec_load (t := 22) rfl (near_l1 X1.out w hw) rfl) ?_); simp only [Act.put, List.setIfInBounds_toArray, List.set_cons_zero, List.set_cons_succ]; go_big_quiet_on) | go_big_quiet_step (first | fail | fail))
        refine wpQuiet_nil ?_
        rintro _ ⟨pn, rfl⟩
        have HV := Lib.hid (HW.out.trans (pn.near.mono HW.out.size))
        have X2 := Lib.hid (X1.out.next pn.near)
        clear hne
        generalize pn.wx = wa at *
        go_upto_region 11 with (fail)
        have hne : Nonempty (Near _) := ⟨⟨wa, Below.refl _ _⟩⟩
        refine wp_region_near (by kernel_rfl) (by kernel_rfl) ?_
        repeat (first | (go_big_quiet_want; (with_reducible refine quiet_by _ (fun w hw => exec_load (t := 22) rfl (near_p3 X2.out w hw) rfl) ?_); simp only [Act.put, List.setIfInBounds_toArray, List.set_cons_zero, List.set_cons_succ]; go_big_quiet_on) | (go_big_quiet_want; (with_reducible refine quiet_by _ (fun w hw => exec_load (t := 22) rfl (near_p2 X2.out w hw) rfl) ?_); simp only [Act.put, List.setIfInBounds_toArray, List.set_cons_zero, List.set_cons_succ]; go_big_quiet_on) | go_big_quiet_step (first | fail | fail))
        refine wpQuiet_nil ?_
        rintro _ ⟨pn, rfl⟩
        have HU := Lib.hid (HV.out.trans (pn.near.mono HV.out.size))
        clear hne
        generalize pn.wx = wb at *
        go_wp2_with fail
        go_round
        case rel => exact ⟨4, by omega, by omega, rfl, HU⟩
        case measure => simp [intOf]
      · go_upto_region 8 with (fail)
        have hne : Nonempty (Near _) := ⟨⟨wr, Below.refl _ _⟩⟩
        refine wp_region_near (by kernel_rfl) (by kernel_rfl) ?_
        repeat (first | (go_big_quiet_want; (with_reducible refine quiet_by _ (fun w hw => exec_load (t := 22) rfl (near_c X1.out w hw) rfl) ?_); simp only [Act.put, List.setIfInBounds_toArray, List.set_cons_zero, List.set_cons_succ]; go_big_quiet_on) | (go_big_quiet_want; (with_reducible refine quiet_by _ (fun w hw => exec_load (t := 22) rfl (near_e1 X1.out w hw) rfl) ?_); simp only [Act.put, List.setIfInBounds_toArray, List.set_cons_zero, List.set_cons_succ]; go_big_quiet_on) | (go_big_quiet_want; (with_reducible refine quiet_by _ (fun w hw => exec_load (t := 22) rfl (near_p3 X1.out w hw) rfl) ?_); simp only [Act.put, List.setIfInBounds_toArray, List.set_cons_zero, List.set_cons_succ]; go_big_quiet_on) | (go_big_quiet_want; (with_reducible refine quiet_by _ (fun w hw => exec_load (t := 22) rfl (near_l1 X1.out w hw) rfl) ?_); simp only [Act.put, List.setIfInBounds_toArray, List.set_cons_zero, List.set_cons_succ]; go_big_quiet_on) | go_big_quiet_step (first | fail | fail))
        refine wpQuiet_nil ?_
        rintro _ ⟨pn, rfl⟩
        have HV := Lib.hid (HW.out.trans (pn.near.mono HW.out.size))
        have X2 := Lib.hid (X1.out.next pn.near)
        clear hne
        generalize pn.wx = wa at *
        go_upto_region 11 with (fail)
        have hne : Nonempty (Near _) := ⟨⟨wa, Below.refl _ _⟩⟩
        refine wp_region_near (by kernel_rfl) (by kernel_rfl) ?_
        repeat (first | (go_big_quiet_want; (with_reducible refine quiet_by _ (fun w hw => exec_load (t := 22) rfl (near_p3 X2.out w hw) rfl) ?_); simp only [Act.put, List.setIfInBounds_toArray, List.set_cons_zero, List.set_cons_succ]; go_big_quiet_on) | (go_big_quiet_want; (with_reducible refine quiet_by _ (fun w hw => exec_load (t := 22) rfl (near_p2 X2.out w hw) rfl) ?_); simp only [Act.put, List.setIfInBounds_toArray, List.set_cons_zero, List.set_cons_succ]; go_big_quiet_on) | go_big_quiet_step (first | fail | fail))
        refine wpQuiet_nil ?_
        rintro _ ⟨pn, rfl⟩
        have HU := Lib.hid (HV.out.trans (pn.near.mono HV.out.size))
        clear hne
        generalize pn.wx = wb at *
        go_wp2_with fail
        go_round
        case rel => exact ⟨4, by omega, by omega, rfl, HU⟩
        case measure => simp [intOf]
    | 4, _, _ =>
      go_wp2_with fail
      go_ret
      exact ⟨rfl, B0.out.trans (HW.out.mono HZ.out)⟩
set_option maxRecDepth 100000 in
set_option maxHeartbeats 1000000 in
theorem first_1_3 (h : Pl) (s who : Int) (hw : bits .and .i64 who 1 = 1) (c8 : RowKit.Hid (∀ W, Calls Try.prog 8 #[plV h, .int .u32 s, .int .i64 1] W fun e W' => e = .returned (.int .i64 3) ∧ Below W.heap.size W W')) (G1 : RowKit.Hid (((bits .and .u32 (bits .andNot .u32 s h.c / 2) 1 == 1) = true ∧ (bits .and .u32 (h.e1 / 2) 1 == 1) = true ∧ h.l1 < h.p1) → h.p1 < h.p3)) (G2 : RowKit.Hid (((bits .and .u32 (bits .andNot .u32 s h.c / 4) 1 == 1) = true ∧ (bits .and .u32 (h.e1 / 4) 1 == 1) = true ∧ h.l1 < h.p2) → h.p2 < h.p3)) (G3 : RowKit.Hid ((bits .and .u32 (bits .andNot .u32 s h.c / 8) 1 == 1) = true ∧ (bits .and .u32 (h.e1 / 8) 1 == 1) = true ∧ h.l1 < h.p3)) (W : World) : Calls Try.prog 6 #[plV h, .int .u32 s, .int .i64 who] W fun e W' => e = .returned (.bool true) ∧ Below W.heap.size W W' := by
  have X := Lib.hid ((Vs.nil W).new h)
  go_enter Try.func6, Try.ntmps6
  go_upto_region 5 with (first | (with_reducible refine wpList_load_by rfl rfl (Box.load (Vs.g0 X.out)) rfl ?_) | (go_at_call 7; (with_reducible refine (awake_any _).mono ?_); rintro e w' ⟨rfl, kk⟩; have X := Lib.hid (X.out.next kk); clear kk) | (go_at_call 8; (with_reducible refine (c8.out _).mono ?_); rintro e w' ⟨rfl, kk⟩; have X := Lib.hid (X.out.next kk); clear kk) | fail)
  have B0 := Lib.hid X.out.below
  have X0 := Lib.hid X.out.g0
  clear X
  generalize w' = w0 at *
  have hsz : W.heap.size ≤ w0.heap.size := B0.out.size
  have HZ := Lib.hid hsz
  clear hsz
  go_wp2_with fail
  go_loopw [8] (fun i wr => ∃ k : Nat, 1 ≤ k ∧ k ≤ 4 ∧ i = .int .i64 k ∧ RowKit.Hid (Below w0.heap.size w0 wr)) (fun i _ => 4 - (intOf i).toNat)
  case atStart => exact ⟨1, by omega, by omega, rfl, Lib.hid (Below.refl _ _)⟩
  case round =>
    obtain ⟨k, hk1, hk, rfl, HW⟩ := hrel
    have X1 := Lib.hid (X0.out.next HW.out)
    match k, hk1, hk with
    | 1, _, _ =>
      rcases Bool.eq_false_or_eq_true (bits .and .u32 (bits .andNot .u32 s h.c / 2) 1 == 1) with h1 | h1
      rotate_left
      · go_upto_region 8 with (fail)
        have hne : Nonempty (Near _) := ⟨⟨wr, Below.refl _ _⟩⟩
        refine wp_region_near (by kernel_rfl) (by kernel_rfl) ?_
        repeat (first | (go_big_quiet_want; (with_reducible refine quiet_by _ (fun w hw => exec_load (t := 22) rfl (near_c X1.out w hw) rfl) ?_); simp only [Act.put, List.setIfInBounds_toArray, List.set_cons_zero, List.set_cons_succ]; go_big_quiet_on) | go_big_quiet_step (first | fail | fail))
        refine wpQuiet_nil ?_
        rintro _ ⟨pn, rfl⟩
        have HV := Lib.hid (HW.out.trans (pn.near.mono HW.out.size))
        have X2 := Lib.hid (X1.out.next pn.near)
        clear hne
        generalize pn.wx = wa at *
        go_upto_region 11 with (fail)
        have hne : Nonempty (Near _) := ⟨⟨wa, Below.refl _ _⟩⟩
        refine wp_region_near (by kernel_rfl) (by kernel_rfl) ?_
        repeat (first | go_big_quiet_step (first | fail | fail))
        refine wpQuiet_nil ?_
        rintro _ ⟨pn, rfl⟩
        have HU := Lib.hid (HV.out.trans (pn.near.mono HV.out.size))
        clear hne
        generalize pn.wx = wb at *
        go_wp2_with fail
        go_round
        case rel => exact ⟨2, by omega, by omega, rfl, HU⟩
        case measure => simp [intOf]
      rcases Bool.eq_false_or_eq_true (bits .and .u32 (h.e1 / 2) 1 == 1) with h2 | h2
      rotate_left
      · go_upto_region 8 with (fail)
        have hne : Nonempty (Near _) := ⟨⟨wr, Below.refl _ _⟩⟩
        refine wp_region_near (by kernel_rfl) (by kernel_rfl) ?_
        repeat (first | (go_big_quiet_want; (with_reducible refine quiet_by _ (fun w hw => exec_load (t := 22) rfl (near_c X1.out w hw) rfl) ?_); simp only [Act.put, List.setIfInBounds_toArray, List.set_cons_zero, List.set_cons_succ]; go_big_quiet_on) | (go_big_quiet_want; (with_reducible refine quiet_by _ (fun w hw => exec_load (t := 22) rfl (near_e1 X1.out w hw) rfl) ?_); simp only [Act.put, List.setIfInBounds_toArray, List.set_cons_zero, List.set_cons_succ]; go_big_quiet_on) | go_big_quiet_step (first | fail | fail))
        refine wpQuiet_nil ?_
        rintro _ ⟨pn, rfl⟩
        have HV := Lib.hid (HW.out.trans (pn.near.mono HW.out.size))
        have X2 := Lib.hid (X1.out.next pn.near)
        clear hne
        generalize pn.wx = wa at *
        go_upto_region 11 with (fail)
        have hne : Nonempty (Near _) := ⟨⟨wa, Below.refl _ _⟩⟩
        refine wp_region_near (by kernel_rfl) (by kernel_rfl) ?_
        repeat (first | go_big_quiet_step (first | fail | fail))
        refine wpQuiet_nil ?_
        rintro _ ⟨pn, rfl⟩
        have HU := Lib.hid (HV.out.trans (pn.near.mono HV.out.size))
        clear hne
        generalize pn.wx = wb at *
        go_wp2_with fail
        go_round
        case rel => exact ⟨2, by omega, by omega, rfl, HU⟩
        case measure => simp [intOf]
      by_cases h3 : h.l1 < h.p1
      rotate_left
      · go_upto_region 8 with (fail)
        have hne : Nonempty (Near _) := ⟨⟨wr, Below.refl _ _⟩⟩
        refine wp_region_near (by kernel_rfl) (by kernel_rfl) ?_
        repeat (first | (go_big_quiet_want; (with_reducible refine quiet_by _ (fun w hw => exec_load (t := 22) rfl (near_c X1.out w hw) rfl) ?_); simp only [Act.put, List.setIfInBounds_toArray, List.set_cons_zero, List.set_cons_succ]; go_big_quiet_on) | (go_big_quiet_want; (with_reducible refine quiet_by _ (fun w hw => exec_load (t := 22) rfl (near_e1 X1.out w hw) rfl) ?_); simp only [Act.put, List.setIfInBounds_toArray, List.set_cons_zero, List.set_cons_succ]; go_big_quiet_on) | (go_big_quiet_want; (with_reducible refine quiet_by _ (fun w hw => exec_load (t := 22) rfl (near_p1 X1.out w hw) rfl) ?_); simp only [Act.put, List.setIfInBounds_toArray, List.set_cons_zero, List.set_cons_succ]; go_big_quiet_on) | (go_big_quiet_want; (with_reducible refine quiet_by _ (fun w hw => exec_load (t := 22) rfl (near_l1 X1.out w hw) rfl) ?_); simp only [Act.put, List.setIfInBounds_toArray, List.set_cons_zero, List.set_cons_succ]; go_big_quiet_on) | go_big_quiet_step (first | fail | fail))
        refine wpQuiet_nil ?_
        rintro _ ⟨pn, rfl⟩
        have HV := Lib.hid (HW.out.trans (pn.near.mono HW.out.size))
        have X2 := Lib.hid (X1.out.next pn.near)
        clear hne
        generalize pn.wx = wa at *
        go_upto_region 11 with (fail)
        have hne : Nonempty (Near _) := ⟨⟨wa, Below.refl _ _⟩⟩
        refine wp_region_near (by kernel_rfl) (by kernel_rfl) ?_
        repeat (first | go_big_quiet_step (first | fail | fail))
        refine wpQuiet_nil ?_
        rintro _ ⟨pn, rfl⟩
        have HU := Lib.hid (HV.out.trans (pn.near.mono HV.out.size))
        clear hne
        generalize pn.wx = wb at *
        go_wp2_with fail
        go_round
        case rel => exact ⟨2, by omega, by omega, rfl, HU⟩
        case measure => simp [intOf]
      have h4 := G1.out ⟨h1, h2, h3⟩
      have h5 : ¬ h.p3 < h.p1 := by omega
      have h6 : (h.p1 == h.p3) = false := by rw [beq_eq_false_iff_ne]; omega
      clear h4
      go_upto_region 8 with (fail)
      have hne : Nonempty (Near _) := ⟨⟨wr, Below.refl _ _⟩⟩
      refine wp_region_near (by kernel_rfl) (by kernel_rfl) ?_
      repeat (first | (go_big_quiet_want; (with_reducible refine quiet_by _ (fun w hw => exec_load (t := 22) rfl (near_c X1.out w hw) rfl) ?_); simp only [Act.put, List.setIfInBounds_toArray, List.set_cons_zero, List.set_cons_succ]; go_big_quiet_on) | (go_big_quiet_want; (with_reducible refine quiet_by _ (fun w hw => exec_load (t := 22) rfl (near_e1 X1.out w hw) rfl) ?_); simp only [Act.put, List.setIfInBounds_toArray, List.set_cons_zero, List.set_cons_succ]; go_big_quiet_on) | (go_big_quiet_want; (with_reducible refine quiet_by _ (fun w hw => exec_load (t := 22) rfl (near_p1 X1.out w hw) rfl) ?_); simp only [Act.put, List.setIfInBounds_toArray, List.set_cons_zero, List.set_cons_succ]; go_big_quiet_on) | (go_big_quiet_want; (with_reducible refine quiet_by _ (fun w hw => exec_load (t := 22) rfl (near_l1 X1.out w hw) rfl) ?_); simp only [Act.put, List.setIfInBounds_toArray, List.set_cons_zero, List.set_cons_succ]; go_big_quiet_on) | go_big_quiet_step (first | fail | fail))
      refine wpQuiet_nil ?_
      rintro _ ⟨pn, rfl⟩
      have HV := Lib.hid (HW.out.trans (pn.near.mono HW.out.size))
      have X2 := Lib.hid (X1.out.next pn.near)
      clear hne
      generalize pn.wx = wa at *
      go_upto_region 11 with (fail)
      have hne : Nonempty (Near _) := ⟨⟨wa, Below.refl _ _⟩⟩
      refine wp_region_near (by kernel_rfl) (by kernel_rfl) ?_
      repeat (first | (go_big_quiet_want; (with_reducible refine quiet_by _ (fun w hw => exec_load (t := 22) rfl (near_p1 X2.out w hw) rfl) ?_); simp only [Act.put, List.setIfInBounds_toArray, List.set_cons_zero, List.set_cons_succ]; go_big_quiet_on) | (go_big_quiet_want; (with_reducible refine quiet_by _ (fun w hw => exec_load (t := 22) rfl (near_p3 X2.out w hw) rfl) ?_); simp only [Act.put, List.setIfInBounds_toArray, List.set_cons_zero, List.set_cons_succ]; go_big_quiet_on) | go_big_quiet_step (first | fail | fail))
      refine wpQuiet_nil ?_
      rintro _ ⟨pn, rfl⟩
      have HU := Lib.hid (HV.out.trans (pn.near.mono HV.out.size))
      clear hne
      generalize pn.wx = wb at *
      go_wp2_with fail
      go_round
      case rel => exact ⟨2, by omega, by omega, rfl, HU⟩
      case measure => simp [intOf]
    | 2, _, _ =>
      rcases Bool.eq_false_or_eq_true (bits .and .u32 (bits .andNot .u32 s h.c / 4) 1 == 1) with h1 | h1
      rotate_left
      · go_upto_region 8 with (fail)
        have hne : Nonempty (Near _) := ⟨⟨wr, Below.refl _ _⟩⟩
        refine wp_region_near (by kernel_rfl) (by kernel_rfl) ?_
        repeat (first | (go_big_quiet_want; (with_reducible refine quiet_by _ (fun w hw => exec_load (t := 22) rfl (near_c X1.out w hw) rfl) ?_); simp only [Act.put, List.setIfInBounds_toArray, List.set_cons_zero, List.set_cons_succ]; go_big_quiet_on) | go_big_quiet_step (first | fail | fail))
        refine wpQuiet_nil ?_
        rintro _ ⟨pn, rfl⟩
        have HV := Lib.hid (HW.out.trans (pn.near.mono HW.out.size))
        have X2 := Lib.hid (X1.out.next pn.near)
        clear hne
        generalize pn.wx = wa at *
        go_upto_region 11 with (fail)
        have hne : Nonempty (Near _) := ⟨⟨wa, Below.refl _ _⟩⟩
        refine wp_region_near (by kernel_rfl) (by kernel_rfl) ?_
        repeat (first | go_big_quiet_step (first | fail | fail))
        refine wpQuiet_nil ?_
        rintro _ ⟨pn, rfl⟩
        have HU := Lib.hid (HV.out.trans (pn.near.mono HV.out.size))
        clear hne
        generalize pn.wx = wb at *
        go_wp2_with fail
        go_round
        case rel => exact ⟨3, by omega, by omega, rfl, HU⟩
        case measure => simp [intOf]
      rcases Bool.eq_false_or_eq_true (bits .and .u32 (h.e1 / 4) 1 == 1) with h2 | h2
      rotate_left
      · go_upto_region 8 with (fail)
        have hne : Nonempty (Near _) := ⟨⟨wr, Below.refl _ _⟩⟩
        refine wp_region_near (by kernel_rfl) (by kernel_rfl) ?_
        repeat (first | (go_big_quiet_want; (with_reducible refine quiet_by _ (fun w hw => exec_load (t := 22) rfl (near_c X1.out w hw) rfl) ?_); simp only [Act.put, List.setIfInBounds_toArray, List.set_cons_zero, List.set_cons_succ]; go_big_quiet_on) | (go_big_quiet_want; (with_reducible refine quiet_by _ (fun w hw => exec_load (t := 22) rfl (near_e1 X1.out w hw) rfl) ?_); simp only [Act.put, List.setIfInBounds_toArray, List.set_cons_zero, List.set_cons_succ]; go_big_quiet_on) | go_big_quiet_step (first | fail | fail))
        refine wpQuiet_nil ?_
        rintro _ ⟨pn, rfl⟩
        have HV := Lib.hid (HW.out.trans (pn.near.mono HW.out.size))
        have X2 := Lib.hid (X1.out.next pn.near)
        clear hne
        generalize pn.wx = wa at *
        go_upto_region 11 with (fail)
        have hne : Nonempty (Near _) := ⟨⟨wa, Below.refl _ _⟩⟩
        refine wp_region_near (by kernel_rfl) (by kernel_rfl) ?_
        repeat (first | go_big_quiet_step (first | fail | fail))
        refine wpQuiet_nil ?_
        rintro _ ⟨pn, rfl⟩
        have HU := Lib.hid (HV.out.trans (pn.near.mono HV.out.size))
        clear hne
        generalize pn.wx = wb at *
        go_wp2_with fail
        go_round
        case rel => exact ⟨3, by omega, by omega, rfl, HU⟩
        case measure => simp [intOf]
      by_cases h3 : h.l1 < h.p2
      rotate_left
      · go_upto_region 8 with (fail)
        have hne : Nonempty (Near _) := ⟨⟨wr, Below.refl _ _⟩⟩
        refine wp_region_near (by kernel_rfl) (by kernel_rfl) ?_
        repeat (first | (go_big_quiet_want; (with_reducible refine quiet_by _ (fun w hw => exec_load (t := 22) rfl (near_c X1.out w hw) rfl) ?_); simp only [Act.put, List.setIfInBounds_toArray, List.set_cons_zero, List.set_cons_succ]; go_big_quiet_on) | (go_big_quiet_want; (with_reducible refine quiet_by _ (fun w hw => exec_load (t := 22) rfl (near_e1 X1.out w hw) rfl) ?_); simp only [Act.put, List.setIfInBounds_toArray, List.set_cons_zero, List.set_cons_succ]; go_big_quiet_on) | (go_big_quiet_want; (with_reducible refine quiet_by _ (fun w hw => exec_load (t := 22) rfl (near_p2 X1.out w hw) rfl) ?_); simp only [Act.put, List.setIfInBounds_toArray, List.set_cons_zero, List.set_cons_succ]; go_big_quiet_on) | (go_big_quiet_want; (with_reducible refine quiet_by _ (fun w hw => exec_load (t := 22) rfl (near_l1 X1.out w hw) rfl) ?_); simp only [Act.put, List.setIfInBounds_toArray, List.set_cons_zero, List.set_cons_succ]; go_big_quiet_on) | go_big_quiet_step (first | fail | fail))
        refine wpQuiet_nil ?_
        rintro _ ⟨pn, rfl⟩
        have HV := Lib.hid (HW.out.trans (pn.near.mono HW.out.size))
        have X2 := Lib.hid (X1.out.next pn.near)
        clear hne
        generalize pn.wx = wa at *
        go_upto_region 11 with (fail)
        have hne : Nonempty (Near _) := ⟨⟨wa, Below.refl _ _⟩⟩
        refine wp_region_near (by kernel_rfl) (by kernel_rfl) ?_
        repeat (first | go_big_quiet_step (first | fail | fail))
        refine wpQuiet_nil ?_
        rintro _ ⟨pn, rfl⟩
        have HU := Lib.hid (HV.out.trans (pn.near.mono HV.out.size))
        clear hne
        generalize pn.wx = wb at *
        go_wp2_with fail
        go_round
        case rel => exact ⟨3, by omega, by omega, rfl, HU⟩
        case measure => simp [intOf]
      have h4 := G2.out ⟨h1, h2, h3⟩
      have h5 : ¬ h.p3 < h.p2 := by omega
      have h6 : (h.p2 == h.p3) = false := by rw [beq_eq_false_iff_ne]; omega
      clear h4
      go_upto_region 8 with (fail)
      have hne : Nonempty (Near _) := ⟨⟨wr, Below.refl _ _⟩⟩
      refine wp_region_near (by kernel_rfl) (by kernel_rfl) ?_
      repeat (first | (go_big_quiet_want; (with_reducible refine quiet_by _ (fun w hw => exec_load (t := 22) rfl (near_c X1.out w hw) rfl) ?_); simp only [Act.put, List.setIfInBounds_toArray, List.set_cons_zero, List.set_cons_succ]; go_big_quiet_on) | (go_big_quiet_want; (with_reducible refine quiet_by _ (fun w hw => exec_load (t := 22) rfl (near_e1 X1.out w hw) rfl) ?_); simp only [Act.put, List.setIfInBounds_toArray, List.set_cons_zero, List.set_cons_succ]; go_big_quiet_on) | (go_big_quiet_want; (with_reducible refine quiet_by _ (fun w hw => exec_load (t := 22) rfl (near_p2 X1.out w hw) rfl) ?_); simp only [Act.put, List.setIfInBounds_toArray, List.set_cons_zero, List.set_cons_succ]; go_big_quiet_on) | (go_big_quiet_want; (with_reducible refine quiet_by _ (fun w hw => exec_load (t := 22) rfl (near_l1 X1.out w hw) rfl) ?_); simp only [Act.put, List.setIfInBounds_toArray, List.set_cons_zero, List.set_cons_succ]; go_big_quiet_on) | go_big_quiet_step (first | fail | fail))
      refine wpQuiet_nil ?_
      rintro _ ⟨pn, rfl⟩
      have HV := Lib.hid (HW.out.trans (pn.near.mono HW.out.size))
      have X2 := Lib.hid (X1.out.next pn.near)
      clear hne
      generalize pn.wx = wa at *
      go_upto_region 11 with (fail)
      have hne : Nonempty (Near _) := ⟨⟨wa, Below.refl _ _⟩⟩
      refine wp_region_near (by kernel_rfl) (by kernel_rfl) ?_
      repeat (first | (go_big_quiet_want; (with_reducible refine quiet_by _ (fun w hw => exec_load (t := 22) rfl (near_p2 X2.out w hw) rfl) ?_); simp only [Act.put, List.setIfInBounds_toArray, List.set_cons_zero, List.set_cons_succ]; go_big_quiet_on) | (go_big_quiet_want; (with_reducible refine quiet_by _ (fun w hw => exec_load (t := 22) rfl (near_p3 X2.out w hw) rfl) ?_); simp only [Act.put, List.setIfInBounds_toArray, List.set_cons_zero, List.set_cons_succ]; go_big_quiet_on) | go_big_quiet_step (first | fail | fail))
      refine wpQuiet_nil ?_
      rintro _ ⟨pn, rfl⟩
      have HU := Lib.hid (HV.out.trans (pn.near.mono HV.out.size))
      clear hne
      generalize pn.wx = wb at *
      go_wp2_with fail
      go_round
      case rel => exact ⟨3, by omega, by omega, rfl, HU⟩
      case measure => simp [intOf]
    | 3, _, _ =>
      have h1 := G3.out.1
      have h2 := G3.out.2.1
      have h3 := G3.out.2.2
      go_upto_region 8 with (fail)
      have hne : Nonempty (Near _) := ⟨⟨wr, Below.refl _ _⟩⟩
      refine wp_region_near (by kernel_rfl) (by kernel_rfl) ?_
      repeat (first | (go_big_quiet_want; (with_reducible refine quiet_by _ (fun w hw => exec_load (t := 22) rfl (near_c X1.out w hw) rfl) ?_); simp only [Act.put, List.setIfInBounds_toArray, List.set_cons_zero, List.set_cons_succ]; go_big_quiet_on) | (go_big_quiet_want; (with_reducible refine quiet_by _ (fun w hw => exec_load (t := 22) rfl (near_e1 X1.out w hw) rfl) ?_); simp only [Act.put, List.setIfInBounds_toArray, List.set_cons_zero, List.set_cons_succ]; go_big_quiet_on) | (go_big_quiet_want; (with_reducible refine quiet_by _ (fun w hw => exec_load (t := 22) rfl (near_p3 X1.out w hw) rfl) ?_); simp only [Act.put, List.setIfInBounds_toArray, List.set_cons_zero, List.set_cons_succ]; go_big_quiet_on) | (go_big_quiet_want; (with_reducible refine quiet_by _ (fun w hw => exec_load (t := 22) rfl (near_l1 X1.out w hw) rfl) ?_); simp only [Act.put, List.setIfInBounds_toArray, List.set_cons_zero, List.set_cons_succ]; go_big_quiet_on) | go_big_quiet_step (first | fail | fail))
      refine wpQuiet_nil ?_
      rintro _ ⟨pn, rfl⟩
      have HV := Lib.hid (HW.out.trans (pn.near.mono HW.out.size))
      have X2 := Lib.hid (X1.out.next pn.near)
      clear hne
      generalize pn.wx = wa at *
      go_upto_region 11 with (fail)
      have hne : Nonempty (Near _) := ⟨⟨wa, Below.refl _ _⟩⟩
      refine wp_region_near (by kernel_rfl) (by kernel_rfl) ?_
      repeat (first | go_big_quiet_step (first | fail | fail))
      refine wpQuiet_nil ?_
      rintro _ ⟨pn, rfl⟩
      have HU := Lib.hid (HV.out.trans (pn.near.mono HV.out.size))
      clear hne
      generalize pn.wx = wb at *
      go_wp2_with fail
      go_round
      case rel => exact ⟨4, by omega, by omega, rfl, HU⟩
      case measure => simp [intOf]
    | 4, _, _ =>
      go_wp2_with fail
      go_ret
      exact ⟨rfl, B0.out.trans (HW.out.mono HZ.out)⟩

end Go.Proofs.Ytmpmgepffphnfaa
