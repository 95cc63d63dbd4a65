/- Find of the program: the loop. -/
import Derived.Test.YtmjlgoceokdabaaM
namespace Go.Proofs.Ytmjlgoceokdabaa
open Go.RowKit Go.Deep Go.Joins
theorem place_u64 (n : Int) : U64 (placeV n) := by
  have h := IntKind.wrap_u64 (bits .and .u64 n 17592186044415 * 4096)
  unfold placeV U64
  omega
theorem goF_at (D : List UInt8) (ms md t kind tb e s p : Int) (k : Nat) (he : ldV D (addrV tb t k) 8 = e) (hs : stE D.length (addrV tb t k) 8 = s) (hp : placeV (e / 1024) = p) : goF D ms md t kind (k + 1) tb =
    if s ≠ 0 then (0, accV kind) else if rightB e = false then (0, pageV kind) else if (bits .and .u64 e 10 == 0) = true then goF D ms md t kind k p else
    if (bits .and .u64 p (lowV k) != 0) = true then (0, pageV kind) else if usedB ms md e kind = false then (0, pageV kind) else (bits .or .u64 p (bits .and .u64 t (lowV k)), -1) := by
  subst he hs hp
  rfl
theorem addr_in (x : Int) : 0 ≤ IntKind.u64.wrap x ∧ IntKind.u64.wrap x ≤ 18446744073709551615 := by
  have h := IntKind.wrap_u64 x
  omega
set_option maxRecDepth 100000 in
set_option maxHeartbeats 2000000 in
theorem find_loop (C V : Array Value) (ms sp m t kind : Int) (D : List UInt8) (W : World) (h : CsrAt C ms sp) (hV : V.size = 3) (M : Int) (h0 : 0 ≤ kind) (h2 : kind ≤ 2) (ht0 : 0 ≤ t) (hM : modeV ms m kind = M) (k : ¬ 3 ≤ M) (s : (sp / 1152921504606846976 != 8) = false) (hS : signB t = true) (cL : LoadOk 16 V D W) : Calls Try.prog 9 #[.agg C, .int .i64 m, .agg V, .int .u64 t, .int .i64 kind] W fun e W' => e = .returned (pairV (findF D ms sp m t kind)) ∧ Below W.heap.size W W' := by
  have HE : RowKit.Hid (findF D ms sp m t kind = goF D ms M t kind 3 (placeV sp)) := Lib.hid ((if_neg (by omega)).trans ((if_neg (by rw [hM]; exact k)).trans ((if_neg (by rw [s]; decide)).trans ((if_neg (by rw [hS]; decide)).trans (by rw [hM])))))
  have g : decide (kind < 0) = false := decide_eq_false (by omega)
  have g2 : decide (2 < kind) = false := decide_eq_false (by omega)
  have f15 := h.f15
  have hC := h.size
  have hW := Lib.hid (boxes W C V)
  have cM := Lib.hid fun W => mode_any C ms sp m kind h W
  have hCsr := Lib.hid h
  clear h
  replace hM := Lib.hid hM
  replace cL := Lib.hid cL
  have hT := Lib.hid ht0
  have cU := Lib.hid fun (e : Int) W => used_any C ms sp M e kind hCsr.out h0 h2 W
  replace hV := Lib.hid hV
  clear ht0
  replace hS := Lib.hid hS
  have g3 : decide (3 ≤ M) = false := decide_eq_false k
  go_enter Try.func9, Try.ntmps9
  go_wp2_with (first | (with_reducible show wpList _ _ _ (⟨some 24, Op.load 24 (.tmp 5), 24, _, _, _⟩ :: _) _ _; refine wpList_load_wanted (by kernel_rfl) rfl (Box.load (hW.out.1) hC) rfl ?_; simp only [Act.put, List.setIfInBounds_toArray, List.set_cons_zero, List.set_cons_succ]) | (go_at_call 12; (with_reducible refine (cM.out _).mono ?_); rintro e' w1 ⟨rfl, k1⟩; rw [hM.out]; have c15 := (((hW.out.1).next k1).cell 15).trans f15; have k1 := Lib.hid k1) | (go_at_call 13; (with_reducible refine (signed_any t _).mono ?_); rintro e' w' ⟨rfl, rfl⟩; rw [hS.out]) | (go_at_call 15; (with_reducible refine (place_any sp _).mono ?_); rintro e' w' ⟨rfl, rfl⟩) | fail)
  have X := Lib.hid (And.intro (hW.out.1.next k1.out) (And.intro (hW.out.2.1.next k1.out) (below_then hW.out.2.2 k1.out)))
  clear hW k1 c15 f15
  have hz : placeV sp = placeV sp := rfl
  have hu := place_u64 sp
  generalize placeV sp = t0 at *
  clear hz
  obtain ⟨R, hR⟩ : ∃ R, goF D ms M t kind 3 t0 = R := ⟨_, rfl⟩
  rw [hR] at HE
  replace HE : RowKit.Hid (findF D ms sp m t kind = R) := HE
  have hR0 := Lib.hid hR
  have hu0 := Lib.hid hu
  clear hR hu g g2 g3 s k
  go_loopw [13, 14] (fun a b wr => ∃ k : Nat, k ≤ 3 ∧ b = .int .i64 ((k : Int) - 1) ∧ ∃ tb : Int, a = .int .u64 tb ∧ RowKit.Hid (U64 tb ∧ goF D ms M t kind k tb = R) ∧ RowKit.Hid (Box wr W.heap.size C ∧ MBox wr (W.heap.size + 1) V ∧ Below W.heap.size W wr)) (fun _ b _ => (intOf b + 1).toNat)
  case atStart => exact ⟨3, by omega, rfl, t0, rfl, Lib.hid ⟨hu0.out, hR0.out⟩, X⟩
  case round =>
    clear X hR0 hu0
    obtain ⟨k, hk, hb, tb, rfl, HG, HB⟩ := hrel
    have hk4 : k = 0 ∨ k = 1 ∨ k = 2 ∨ k = 3 := by omega
    clear hk
    rcases hk4 with hk | hk | hk | hk
    · subst hk
      replace hb : _ = Value.int .i64 (-1) := hb
      subst hb
      have HR : RowKit.Hid (R = (0, pageV kind)) := Lib.hid HG.out.2.symm
      go_wp2_with (first | (go_at_call 14; (with_reducible refine (page_any kind h0 h2 _).mono ?_); rintro e' w' ⟨rfl, rfl⟩) | fail)
      go_ret2
      exact ⟨ret_pair (HE.out.trans HR.out), HB.out.2.2⟩
    · subst hk
      replace hb : _ = Value.int .i64 0 := hb
      subst hb
      obtain ⟨e, he⟩ : ∃ e, ldV D (addrV tb t 0) 8 = e := ⟨_, rfl⟩
      obtain ⟨s, hs⟩ : ∃ s, stE D.length (addrV tb t 0) 8 = s := ⟨_, rfl⟩
      obtain ⟨p, hp⟩ : ∃ p, placeV (e / 1024) = p := ⟨_, rfl⟩
      obtain ⟨c, hc⟩ : ∃ c, choiceV t 0 = c := ⟨_, rfl⟩
      have hR := HG.out.2.symm.trans (goF_at D ms M t kind tb e s p 0 he hs hp)
      have cC : RowKit.Hid (∀ W', Calls Try.prog 17 #[.int .u64 t, .int .i64 0] W' fun e' W'' => e' = .returned (.int .u64 c) ∧ W' = W'') := Lib.hid fun W' => hc ▸ choice_any t 0 (by omega) W'
      have cA : RowKit.Hid (∀ W', Below W.heap.size W W' → Calls Try.prog 16 #[.agg V, .int .u64 (IntKind.u64.wrap (tb + IntKind.u64.wrap (8 * c))), .int .i64 8] W' fun e' W'' => e' = .returned (.tuple #[.int .u64 e, .int .i64 s]) ∧ Below W'.heap.size W' W'') := Lib.hid fun W' hW' => by
        have h := cL.out W' hW' (addrV tb t 0) (addr_in _).1 (addr_in _).2
        rw [he, hs] at h
        unfold addrV at h
        rw [hc] at h
        exact h
      have hp' := Lib.hid hp
      have hpu : RowKit.Hid (U64 p) := Lib.hid (hp ▸ place_u64 _)
      clear he hs hp hc
      have hp := hp'
      clear hp'
      by_cases hs : s ≠ 0
      · have hs1 : (s != 0) = true := by simpa using hs
        have HR := Lib.hid (hR.trans (if_pos hs))
        clear hR
        clear hs
        go_upto_region 12 with (fail)
        have hne : Nonempty (Near wr) := ⟨⟨wr, Below.refl _ _⟩⟩
        refine wp_region_near (by kernel_rfl) (by kernel_rfl) ?_
        repeat (first | (go_big_quiet_want; (with_reducible refine quiet_by _ (fun w hw => exec_load (t := 28) rfl (near_load HB.out.2.1 hV.out w hw) rfl) ?_); simp only [Act.put, List.setIfInBounds_toArray, List.set_cons_zero, List.set_cons_succ]; go_big_quiet_on) | go_big_quiet_step (first | (go_at_call 17; exact near_call (same_call (cC.out _))) | (go_at_call 16; exact near_call (cA.out _ (below_then HB.out.2.2 (Near.near _)))) | fail))
        refine wpQuiet_nil ?_
        rintro _ ⟨pn, rfl⟩
        have X := Lib.hid (HB.out.1.next pn.near)
        have Y := Lib.hid (HB.out.2.1.next pn.near)
        have Z := Lib.hid (below_then HB.out.2.2 pn.near)
        clear HB hne
        generalize pn.wx = w1 at *
        go_wp2_with (first | (go_at_call 18; (with_reducible refine (acc_any kind h0 h2 _).mono ?_); rintro e' w' ⟨rfl, rfl⟩) | fail)
        go_ret2
        exact ⟨ret_pair (HE.out.trans HR.out), Z.out⟩
      replace hs : s = 0 := by omega
      subst hs
      rcases Bool.eq_false_or_eq_true (rightB e) with hr | hr
      rotate_left
      · replace hR := hR.trans ((if_neg (by omega)).trans (if_pos hr))
        replace hr := Lib.hid hr
        have HR := Lib.hid (hR.trans (rfl))
        clear hR
        go_upto_region 12 with (fail)
        have hne : Nonempty (Near wr) := ⟨⟨wr, Below.refl _ _⟩⟩
        refine wp_region_near (by kernel_rfl) (by kernel_rfl) ?_
        repeat (first | (go_big_quiet_want; (with_reducible refine quiet_by _ (fun w hw => exec_load (t := 28) rfl (near_load HB.out.2.1 hV.out w hw) rfl) ?_); simp only [Act.put, List.setIfInBounds_toArray, List.set_cons_zero, List.set_cons_succ]; go_big_quiet_on) | go_big_quiet_step (first | (go_at_call 17; exact near_call (same_call (cC.out _))) | (go_at_call 16; exact near_call (cA.out _ (below_then HB.out.2.2 (Near.near _)))) | fail))
        refine wpQuiet_nil ?_
        rintro _ ⟨pn, rfl⟩
        have X := Lib.hid (HB.out.1.next pn.near)
        have Y := Lib.hid (HB.out.2.1.next pn.near)
        have Z := Lib.hid (below_then HB.out.2.2 pn.near)
        clear HB hne
        generalize pn.wx = w1 at *
        go_wp2_with (first | (go_at_call 19; (with_reducible refine (right_any e _).mono ?_); rintro e' w' ⟨rfl, rfl⟩; rw [hr.out]) | (go_at_call 14; (with_reducible refine (page_any kind h0 h2 _).mono ?_); rintro e' w' ⟨rfl, rfl⟩) | fail)
        go_ret2
        exact ⟨ret_pair (HE.out.trans HR.out), Z.out⟩
      replace hR := hR.trans ((if_neg (by omega)).trans (if_neg (by rw [hr]; decide)))
      replace hr := Lib.hid hr
      rcases Bool.eq_false_or_eq_true (bits .and .u64 e 10 == 0) with hl | hl
      · have HR := Lib.hid (hR.trans (if_pos hl))
        clear hR
        go_upto_region 12 with (fail)
        have hne : Nonempty (Near wr) := ⟨⟨wr, Below.refl _ _⟩⟩
        refine wp_region_near (by kernel_rfl) (by kernel_rfl) ?_
        repeat (first | (go_big_quiet_want; (with_reducible refine quiet_by _ (fun w hw => exec_load (t := 28) rfl (near_load HB.out.2.1 hV.out w hw) rfl) ?_); simp only [Act.put, List.setIfInBounds_toArray, List.set_cons_zero, List.set_cons_succ]; go_big_quiet_on) | go_big_quiet_step (first | (go_at_call 17; exact near_call (same_call (cC.out _))) | (go_at_call 16; exact near_call (cA.out _ (below_then HB.out.2.2 (Near.near _)))) | fail))
        refine wpQuiet_nil ?_
        rintro _ ⟨pn, rfl⟩
        have X := Lib.hid (HB.out.1.next pn.near)
        have Y := Lib.hid (HB.out.2.1.next pn.near)
        have Z := Lib.hid (below_then HB.out.2.2 pn.near)
        clear HB hne
        generalize pn.wx = w1 at *
        go_wp2_with (first | (go_at_call 19; (with_reducible refine (right_any e _).mono ?_); rintro e' w' ⟨rfl, rfl⟩; rw [hr.out]) | (go_at_call 15; (with_reducible refine (place_any _ _).mono ?_); rintro e' w' ⟨rfl, rfl⟩; rw [hp.out]) | fail)
        exact ⟨⟨0, by omega, rfl, p, rfl, Lib.hid ⟨hpu.out, HR.out.symm⟩, Lib.hid ⟨X.out, Y.out, Z.out⟩⟩, by simp [intOf]⟩
      replace hR := hR.trans (if_neg (by rw [hl]; decide))
      have hlow : lowV 0 = 4095 := by decide
      rw [hlow] at hR
      clear hlow
      rcases Bool.eq_false_or_eq_true (bits .and .u64 p 4095 != 0) with hm | hm
      · have HR := Lib.hid (hR.trans (if_pos hm))
        clear hR
        go_upto_region 12 with (fail)
        have hne : Nonempty (Near wr) := ⟨⟨wr, Below.refl _ _⟩⟩
        refine wp_region_near (by kernel_rfl) (by kernel_rfl) ?_
        repeat (first | (go_big_quiet_want; (with_reducible refine quiet_by _ (fun w hw => exec_load (t := 28) rfl (near_load HB.out.2.1 hV.out w hw) rfl) ?_); simp only [Act.put, List.setIfInBounds_toArray, List.set_cons_zero, List.set_cons_succ]; go_big_quiet_on) | go_big_quiet_step (first | (go_at_call 17; exact near_call (same_call (cC.out _))) | (go_at_call 16; exact near_call (cA.out _ (below_then HB.out.2.2 (Near.near _)))) | fail))
        refine wpQuiet_nil ?_
        rintro _ ⟨pn, rfl⟩
        have X := Lib.hid (HB.out.1.next pn.near)
        have Y := Lib.hid (HB.out.2.1.next pn.near)
        have Z := Lib.hid (below_then HB.out.2.2 pn.near)
        clear HB hne
        generalize pn.wx = w1 at *
        go_wp2_with (first | (go_at_call 19; (with_reducible refine (right_any e _).mono ?_); rintro e' w' ⟨rfl, rfl⟩; rw [hr.out]) | (go_at_call 15; (with_reducible refine (place_any _ _).mono ?_); rintro e' w' ⟨rfl, rfl⟩; rw [hp.out]) | (go_at_call 14; (with_reducible refine (page_any kind h0 h2 _).mono ?_); rintro e' w' ⟨rfl, rfl⟩) | fail)
        go_ret2
        exact ⟨ret_pair (HE.out.trans HR.out), Z.out⟩
      replace hR := hR.trans (if_neg (by rw [hm]; decide))
      rcases Bool.eq_false_or_eq_true (usedB ms M e kind) with hu | hu
      rotate_left
      · replace hR := hR.trans (if_pos hu)
        replace hu := Lib.hid hu
        have HR := Lib.hid (hR.trans (rfl))
        clear hR
        go_upto_region 12 with (fail)
        have hne : Nonempty (Near wr) := ⟨⟨wr, Below.refl _ _⟩⟩
        refine wp_region_near (by kernel_rfl) (by kernel_rfl) ?_
        repeat (first | (go_big_quiet_want; (with_reducible refine quiet_by _ (fun w hw => exec_load (t := 28) rfl (near_load HB.out.2.1 hV.out w hw) rfl) ?_); simp only [Act.put, List.setIfInBounds_toArray, List.set_cons_zero, List.set_cons_succ]; go_big_quiet_on) | go_big_quiet_step (first | (go_at_call 17; exact near_call (same_call (cC.out _))) | (go_at_call 16; exact near_call (cA.out _ (below_then HB.out.2.2 (Near.near _)))) | fail))
        refine wpQuiet_nil ?_
        rintro _ ⟨pn, rfl⟩
        have X := Lib.hid (HB.out.1.next pn.near)
        have Y := Lib.hid (HB.out.2.1.next pn.near)
        have Z := Lib.hid (below_then HB.out.2.2 pn.near)
        clear HB hne
        generalize pn.wx = w1 at *
        go_wp2_with (first | (go_at_call 19; (with_reducible refine (right_any e _).mono ?_); rintro e' w' ⟨rfl, rfl⟩; rw [hr.out]) | (go_at_call 15; (with_reducible refine (place_any _ _).mono ?_); rintro e' w' ⟨rfl, rfl⟩; rw [hp.out]) | (with_reducible show wpList _ _ _ (⟨some 85, Op.load 24 (.tmp 5), 24, _, _, _⟩ :: _) _ _; refine wpList_load_wanted (by kernel_rfl) rfl (Box.load (X.out) hC) rfl ?_; simp only [Act.put, List.setIfInBounds_toArray, List.set_cons_zero, List.set_cons_succ]) | (go_at_call 20; (with_reducible refine (cU.out e _).mono ?_); rintro e' w2 ⟨rfl, k2⟩; rw [hu.out]) | (go_at_call 14; (with_reducible refine (page_any kind h0 h2 _).mono ?_); rintro e' w' ⟨rfl, rfl⟩) | fail)
        go_ret2
        exact ⟨ret_pair (HE.out.trans HR.out), below_then Z.out k2⟩
      · replace hR := hR.trans (if_neg (by rw [hu]; decide))
        replace hu := Lib.hid hu
        have HR := Lib.hid (hR.trans (rfl))
        clear hR
        go_upto_region 12 with (fail)
        have hne : Nonempty (Near wr) := ⟨⟨wr, Below.refl _ _⟩⟩
        refine wp_region_near (by kernel_rfl) (by kernel_rfl) ?_
        repeat (first | (go_big_quiet_want; (with_reducible refine quiet_by _ (fun w hw => exec_load (t := 28) rfl (near_load HB.out.2.1 hV.out w hw) rfl) ?_); simp only [Act.put, List.setIfInBounds_toArray, List.set_cons_zero, List.set_cons_succ]; go_big_quiet_on) | go_big_quiet_step (first | (go_at_call 17; exact near_call (same_call (cC.out _))) | (go_at_call 16; exact near_call (cA.out _ (below_then HB.out.2.2 (Near.near _)))) | fail))
        refine wpQuiet_nil ?_
        rintro _ ⟨pn, rfl⟩
        have X := Lib.hid (HB.out.1.next pn.near)
        have Y := Lib.hid (HB.out.2.1.next pn.near)
        have Z := Lib.hid (below_then HB.out.2.2 pn.near)
        clear HB hne
        generalize pn.wx = w1 at *
        go_wp2_with (first | (go_at_call 19; (with_reducible refine (right_any e _).mono ?_); rintro e' w' ⟨rfl, rfl⟩; rw [hr.out]) | (go_at_call 15; (with_reducible refine (place_any _ _).mono ?_); rintro e' w' ⟨rfl, rfl⟩; rw [hp.out]) | (with_reducible show wpList _ _ _ (⟨some 85, Op.load 24 (.tmp 5), 24, _, _, _⟩ :: _) _ _; refine wpList_load_wanted (by kernel_rfl) rfl (Box.load (X.out) hC) rfl ?_; simp only [Act.put, List.setIfInBounds_toArray, List.set_cons_zero, List.set_cons_succ]) | (go_at_call 20; (with_reducible refine (cU.out e _).mono ?_); rintro e' w2 ⟨rfl, k2⟩; rw [hu.out]) | fail)
        go_ret2
        exact ⟨ret_pair (HE.out.trans HR.out), below_then Z.out k2⟩
    · subst hk
      replace hb : _ = Value.int .i64 1 := hb
      subst hb
      obtain ⟨e, he⟩ : ∃ e, ldV D (addrV tb t 1) 8 = e := ⟨_, rfl⟩
      obtain ⟨s, hs⟩ : ∃ s, stE D.length (addrV tb t 1) 8 = s := ⟨_, rfl⟩
      obtain ⟨p, hp⟩ : ∃ p, placeV (e / 1024) = p := ⟨_, rfl⟩
      obtain ⟨c, hc⟩ : ∃ c, choiceV t 1 = c := ⟨_, rfl⟩
      have hR := HG.out.2.symm.trans (goF_at D ms M t kind tb e s p 1 he hs hp)
      have cC : RowKit.Hid (∀ W', Calls Try.prog 17 #[.int .u64 t, .int .i64 1] W' fun e' W'' => e' = .returned (.int .u64 c) ∧ W' = W'') := Lib.hid fun W' => hc ▸ choice_any t 1 (by omega) W'
      have cA : RowKit.Hid (∀ W', Below W.heap.size W W' → Calls Try.prog 16 #[.agg V, .int .u64 (IntKind.u64.wrap (tb + IntKind.u64.wrap (8 * c))), .int .i64 8] W' fun e' W'' => e' = .returned (.tuple #[.int .u64 e, .int .i64 s]) ∧ Below W'.heap.size W' W'') := Lib.hid fun W' hW' => by
        have h := cL.out W' hW' (addrV tb t 1) (addr_in _).1 (addr_in _).2
        rw [he, hs] at h
        unfold addrV at h
        rw [hc] at h
        exact h
      have hp' := Lib.hid hp
      have hpu : RowKit.Hid (U64 p) := Lib.hid (hp ▸ place_u64 _)
      clear he hs hp hc
      have hp := hp'
      clear hp'
      by_cases hs : s ≠ 0
      · have hs1 : (s != 0) = true := by simpa using hs
        have HR := Lib.hid (hR.trans (if_pos hs))
        clear hR
        clear hs
        go_upto_region 12 with (fail)
        have hne : Nonempty (Near wr) := ⟨⟨wr, Below.refl _ _⟩⟩
        refine wp_region_near (by kernel_rfl) (by kernel_rfl) ?_
        repeat (first | (go_big_quiet_want; (with_reducible refine quiet_by _ (fun w hw => exec_load (t := 28) rfl (near_load HB.out.2.1 hV.out w hw) rfl) ?_); simp only [Act.put, List.setIfInBounds_toArray, List.set_cons_zero, List.set_cons_succ]; go_big_quiet_on) | go_big_quiet_step (first | (go_at_call 17; exact near_call (same_call (cC.out _))) | (go_at_call 16; exact near_call (cA.out _ (below_then HB.out.2.2 (Near.near _)))) | fail))
        refine wpQuiet_nil ?_
        rintro _ ⟨pn, rfl⟩
        have X := Lib.hid (HB.out.1.next pn.near)
        have Y := Lib.hid (HB.out.2.1.next pn.near)
        have Z := Lib.hid (below_then HB.out.2.2 pn.near)
        clear HB hne
        generalize pn.wx = w1 at *
        go_wp2_with (first | (go_at_call 18; (with_reducible refine (acc_any kind h0 h2 _).mono ?_); rintro e' w' ⟨rfl, rfl⟩) | fail)
        go_ret2
        exact ⟨ret_pair (HE.out.trans HR.out), Z.out⟩
      replace hs : s = 0 := by omega
      subst hs
      rcases Bool.eq_false_or_eq_true (rightB e) with hr | hr
      rotate_left
      · replace hR := hR.trans ((if_neg (by omega)).trans (if_pos hr))
        replace hr := Lib.hid hr
        have HR := Lib.hid (hR.trans (rfl))
        clear hR
        go_upto_region 12 with (fail)
        have hne : Nonempty (Near wr) := ⟨⟨wr, Below.refl _ _⟩⟩
        refine wp_region_near (by kernel_rfl) (by kernel_rfl) ?_
        repeat (first | (go_big_quiet_want; (with_reducible refine quiet_by _ (fun w hw => exec_load (t := 28) rfl (near_load HB.out.2.1 hV.out w hw) rfl) ?_); simp only [Act.put, List.setIfInBounds_toArray, List.set_cons_zero, List.set_cons_succ]; go_big_quiet_on) | go_big_quiet_step (first | (go_at_call 17; exact near_call (same_call (cC.out _))) | (go_at_call 16; exact near_call (cA.out _ (below_then HB.out.2.2 (Near.near _)))) | fail))
        refine wpQuiet_nil ?_
        rintro _ ⟨pn, rfl⟩
        have X := Lib.hid (HB.out.1.next pn.near)
        have Y := Lib.hid (HB.out.2.1.next pn.near)
        have Z := Lib.hid (below_then HB.out.2.2 pn.near)
        clear HB hne
        generalize pn.wx = w1 at *
        go_wp2_with (first | (go_at_call 19; (with_reducible refine (right_any e _).mono ?_); rintro e' w' ⟨rfl, rfl⟩; rw [hr.out]) | (go_at_call 14; (with_reducible refine (page_any kind h0 h2 _).mono ?_); rintro e' w' ⟨rfl, rfl⟩) | fail)
        go_ret2
        exact ⟨ret_pair (HE.out.trans HR.out), Z.out⟩
      replace hR := hR.trans ((if_neg (by omega)).trans (if_neg (by rw [hr]; decide)))
      replace hr := Lib.hid hr
      rcases Bool.eq_false_or_eq_true (bits .and .u64 e 10 == 0) with hl | hl
      · have HR := Lib.hid (hR.trans (if_pos hl))
        clear hR
        go_upto_region 12 with (fail)
        have hne : Nonempty (Near wr) := ⟨⟨wr, Below.refl _ _⟩⟩
        refine wp_region_near (by kernel_rfl) (by kernel_rfl) ?_
        repeat (first | (go_big_quiet_want; (with_reducible refine quiet_by _ (fun w hw => exec_load (t := 28) rfl (near_load HB.out.2.1 hV.out w hw) rfl) ?_); simp only [Act.put, List.setIfInBounds_toArray, List.set_cons_zero, List.set_cons_succ]; go_big_quiet_on) | go_big_quiet_step (first | (go_at_call 17; exact near_call (same_call (cC.out _))) | (go_at_call 16; exact near_call (cA.out _ (below_then HB.out.2.2 (Near.near _)))) | fail))
        refine wpQuiet_nil ?_
        rintro _ ⟨pn, rfl⟩
        have X := Lib.hid (HB.out.1.next pn.near)
        have Y := Lib.hid (HB.out.2.1.next pn.near)
        have Z := Lib.hid (below_then HB.out.2.2 pn.near)
        clear HB hne
        generalize pn.wx = w1 at *
        go_wp2_with (first | (go_at_call 19; (with_reducible refine (right_any e _).mono ?_); rintro e' w' ⟨rfl, rfl⟩; rw [hr.out]) | (go_at_call 15; (with_reducible refine (place_any _ _).mono ?_); rintro e' w' ⟨rfl, rfl⟩; rw [hp.out]) | fail)
        exact ⟨⟨1, by omega, rfl, p, rfl, Lib.hid ⟨hpu.out, HR.out.symm⟩, Lib.hid ⟨X.out, Y.out, Z.out⟩⟩, by simp [intOf]⟩
      replace hR := hR.trans (if_neg (by rw [hl]; decide))
      have hlow : lowV 1 = 2097151 := by decide
      rw [hlow] at hR
      clear hlow
      rcases Bool.eq_false_or_eq_true (bits .and .u64 p 2097151 != 0) with hm | hm
      · have HR := Lib.hid (hR.trans (if_pos hm))
        clear hR
        go_upto_region 12 with (fail)
        have hne : Nonempty (Near wr) := ⟨⟨wr, Below.refl _ _⟩⟩
        refine wp_region_near (by kernel_rfl) (by kernel_rfl) ?_
        repeat (first | (go_big_quiet_want; (with_reducible refine quiet_by _ (fun w hw => exec_load (t := 28) rfl (near_load HB.out.2.1 hV.out w hw) rfl) ?_); simp only [Act.put, List.setIfInBounds_toArray, List.set_cons_zero, List.set_cons_succ]; go_big_quiet_on) | go_big_quiet_step (first | (go_at_call 17; exact near_call (same_call (cC.out _))) | (go_at_call 16; exact near_call (cA.out _ (below_then HB.out.2.2 (Near.near _)))) | fail))
        refine wpQuiet_nil ?_
        rintro _ ⟨pn, rfl⟩
        have X := Lib.hid (HB.out.1.next pn.near)
        have Y := Lib.hid (HB.out.2.1.next pn.near)
        have Z := Lib.hid (below_then HB.out.2.2 pn.near)
        clear HB hne
        generalize pn.wx = w1 at *
        go_wp2_with (first | (go_at_call 19; (with_reducible refine (right_any e _).mono ?_); rintro e' w' ⟨rfl, rfl⟩; rw [hr.out]) | (go_at_call 15; (with_reducible refine (place_any _ _).mono ?_); rintro e' w' ⟨rfl, rfl⟩; rw [hp.out]) | (go_at_call 14; (with_reducible refine (page_any kind h0 h2 _).mono ?_); rintro e' w' ⟨rfl, rfl⟩) | fail)
        go_ret2
        exact ⟨ret_pair (HE.out.trans HR.out), Z.out⟩
      replace hR := hR.trans (if_neg (by rw [hm]; decide))
      rcases Bool.eq_false_or_eq_true (usedB ms M e kind) with hu | hu
      rotate_left
      · replace hR := hR.trans (if_pos hu)
        replace hu := Lib.hid hu
        have HR := Lib.hid (hR.trans (rfl))
        clear hR
        go_upto_region 12 with (fail)
        have hne : Nonempty (Near wr) := ⟨⟨wr, Below.refl _ _⟩⟩
        refine wp_region_near (by kernel_rfl) (by kernel_rfl) ?_
        repeat (first | (go_big_quiet_want; (with_reducible refine quiet_by _ (fun w hw => exec_load (t := 28) rfl (near_load HB.out.2.1 hV.out w hw) rfl) ?_); simp only [Act.put, List.setIfInBounds_toArray, List.set_cons_zero, List.set_cons_succ]; go_big_quiet_on) | go_big_quiet_step (first | (go_at_call 17; exact near_call (same_call (cC.out _))) | (go_at_call 16; exact near_call (cA.out _ (below_then HB.out.2.2 (Near.near _)))) | fail))
        refine wpQuiet_nil ?_
        rintro _ ⟨pn, rfl⟩
        have X := Lib.hid (HB.out.1.next pn.near)
        have Y := Lib.hid (HB.out.2.1.next pn.near)
        have Z := Lib.hid (below_then HB.out.2.2 pn.near)
        clear HB hne
        generalize pn.wx = w1 at *
        go_wp2_with (first | (go_at_call 19; (with_reducible refine (right_any e _).mono ?_); rintro e' w' ⟨rfl, rfl⟩; rw [hr.out]) | (go_at_call 15; (with_reducible refine (place_any _ _).mono ?_); rintro e' w' ⟨rfl, rfl⟩; rw [hp.out]) | (with_reducible show wpList _ _ _ (⟨some 85, Op.load 24 (.tmp 5), 24, _, _, _⟩ :: _) _ _; refine wpList_load_wanted (by kernel_rfl) rfl (Box.load (X.out) hC) rfl ?_; simp only [Act.put, List.setIfInBounds_toArray, List.set_cons_zero, List.set_cons_succ]) | (go_at_call 20; (with_reducible refine (cU.out e _).mono ?_); rintro e' w2 ⟨rfl, k2⟩; rw [hu.out]) | (go_at_call 14; (with_reducible refine (page_any kind h0 h2 _).mono ?_); rintro e' w' ⟨rfl, rfl⟩) | fail)
        go_ret2
        exact ⟨ret_pair (HE.out.trans HR.out), below_then Z.out k2⟩
      · replace hR := hR.trans (if_neg (by rw [hu]; decide))
        replace hu := Lib.hid hu
        have HR := Lib.hid (hR.trans (rfl))
        clear hR
        go_upto_region 12 with (fail)
        have hne : Nonempty (Near wr) := ⟨⟨wr, Below.refl _ _⟩⟩
        refine wp_region_near (by kernel_rfl) (by kernel_rfl) ?_
        repeat (first | (go_big_quiet_want; (with_reducible refine quiet_by _ (fun w hw => exec_load (t := 28) rfl (near_load HB.out.2.1 hV.out w hw) rfl) ?_); simp only [Act.put, List.setIfInBounds_toArray, List.set_cons_zero, List.set_cons_succ]; go_big_quiet_on) | go_big_quiet_step (first | (go_at_call 17; exact near_call (same_call (cC.out _))) | (go_at_call 16; exact near_call (cA.out _ (below_then HB.out.2.2 (Near.near _)))) | fail))
        refine wpQuiet_nil ?_
        rintro _ ⟨pn, rfl⟩
        have X := Lib.hid (HB.out.1.next pn.near)
        have Y := Lib.hid (HB.out.2.1.next pn.near)
        have Z := Lib.hid (below_then HB.out.2.2 pn.near)
        clear HB hne
        generalize pn.wx = w1 at *
        go_wp2_with (first | (go_at_call 19; (with_reducible refine (right_any e _).mono ?_); rintro e' w' ⟨rfl, rfl⟩; rw [hr.out]) | (go_at_call 15; (with_reducible refine (place_any _ _).mono ?_); rintro e' w' ⟨rfl, rfl⟩; rw [hp.out]) | (with_reducible show wpList _ _ _ (⟨some 85, Op.load 24 (.tmp 5), 24, _, _, _⟩ :: _) _ _; refine wpList_load_wanted (by kernel_rfl) rfl (Box.load (X.out) hC) rfl ?_; simp only [Act.put, List.setIfInBounds_toArray, List.set_cons_zero, List.set_cons_succ]) | (go_at_call 20; (with_reducible refine (cU.out e _).mono ?_); rintro e' w2 ⟨rfl, k2⟩; rw [hu.out]) | fail)
        go_ret2
        exact ⟨ret_pair (HE.out.trans HR.out), below_then Z.out k2⟩
    · subst hk
      replace hb : _ = Value.int .i64 2 := hb
      subst hb
      obtain ⟨e, he⟩ : ∃ e, ldV D (addrV tb t 2) 8 = e := ⟨_, rfl⟩
      obtain ⟨s, hs⟩ : ∃ s, stE D.length (addrV tb t 2) 8 = s := ⟨_, rfl⟩
      obtain ⟨p, hp⟩ : ∃ p, placeV (e / 1024) = p := ⟨_, rfl⟩
      obtain ⟨c, hc⟩ : ∃ c, choiceV t 2 = c := ⟨_, rfl⟩
      have hR := HG.out.2.symm.trans (goF_at D ms M t kind tb e s p 2 he hs hp)
      have cC : RowKit.Hid (∀ W', Calls Try.prog 17 #[.int .u64 t, .int .i64 2] W' fun e' W'' => e' = .returned (.int .u64 c) ∧ W' = W'') := Lib.hid fun W' => hc ▸ choice_any t 2 (by omega) W'
      have cA : RowKit.Hid (∀ W', Below W.heap.size W W' → Calls Try.prog 16 #[.agg V, .int .u64 (IntKind.u64.wrap (tb + IntKind.u64.wrap (8 * c))), .int .i64 8] W' fun e' W'' => e' = .returned (.tuple #[.int .u64 e, .int .i64 s]) ∧ Below W'.heap.size W' W'') := Lib.hid fun W' hW' => by
        have h := cL.out W' hW' (addrV tb t 2) (addr_in _).1 (addr_in _).2
        rw [he, hs] at h
        unfold addrV at h
        rw [hc] at h
        exact h
      have hp' := Lib.hid hp
      have hpu : RowKit.Hid (U64 p) := Lib.hid (hp ▸ place_u64 _)
      clear he hs hp hc
      have hp := hp'
      clear hp'
      by_cases hs : s ≠ 0
      · have hs1 : (s != 0) = true := by simpa using hs
        have HR := Lib.hid (hR.trans (if_pos hs))
        clear hR
        clear hs
        go_upto_region 12 with (fail)
        have hne : Nonempty (Near wr) := ⟨⟨wr, Below.refl _ _⟩⟩
        refine wp_region_near (by kernel_rfl) (by kernel_rfl) ?_
        repeat (first | (go_big_quiet_want; (with_reducible refine quiet_by _ (fun w hw => exec_load (t := 28) rfl (near_load HB.out.2.1 hV.out w hw) rfl) ?_); simp only [Act.put, List.setIfInBounds_toArray, List.set_cons_zero, List.set_cons_succ]; go_big_quiet_on) | go_big_quiet_step (first | (go_at_call 17; exact near_call (same_call (cC.out _))) | (go_at_call 16; exact near_call (cA.out _ (below_then HB.out.2.2 (Near.near _)))) | fail))
        refine wpQuiet_nil ?_
        rintro _ ⟨pn, rfl⟩
        have X := Lib.hid (HB.out.1.next pn.near)
        have Y := Lib.hid (HB.out.2.1.next pn.near)
        have Z := Lib.hid (below_then HB.out.2.2 pn.near)
        clear HB hne
        generalize pn.wx = w1 at *
        go_wp2_with (first | (go_at_call 18; (with_reducible refine (acc_any kind h0 h2 _).mono ?_); rintro e' w' ⟨rfl, rfl⟩) | fail)
        go_ret2
        exact ⟨ret_pair (HE.out.trans HR.out), Z.out⟩
      replace hs : s = 0 := by omega
      subst hs
      rcases Bool.eq_false_or_eq_true (rightB e) with hr | hr
      rotate_left
      · replace hR := hR.trans ((if_neg (by omega)).trans (if_pos hr))
        replace hr := Lib.hid hr
        have HR := Lib.hid (hR.trans (rfl))
        clear hR
        go_upto_region 12 with (fail)
        have hne : Nonempty (Near wr) := ⟨⟨wr, Below.refl _ _⟩⟩
        refine wp_region_near (by kernel_rfl) (by kernel_rfl) ?_
        repeat (first | (go_big_quiet_want; (with_reducible refine quiet_by _ (fun w hw => exec_load (t := 28) rfl (near_load HB.out.2.1 hV.out w hw) rfl) ?_); simp only [Act.put, List.setIfInBounds_toArray, List.set_cons_zero, List.set_cons_succ]; go_big_quiet_on) | go_big_quiet_step (first | (go_at_call 17; exact near_call (same_call (cC.out _))) | (go_at_call 16; exact near_call (cA.out _ (below_then HB.out.2.2 (Near.near _)))) | fail))
        refine wpQuiet_nil ?_
        rintro _ ⟨pn, rfl⟩
        have X := Lib.hid (HB.out.1.next pn.near)
        have Y := Lib.hid (HB.out.2.1.next pn.near)
        have Z := Lib.hid (below_then HB.out.2.2 pn.near)
        clear HB hne
        generalize pn.wx = w1 at *
        go_wp2_with (first | (go_at_call 19; (with_reducible refine (right_any e _).mono ?_); rintro e' w' ⟨rfl, rfl⟩; rw [hr.out]) | (go_at_call 14; (with_reducible refine (page_any kind h0 h2 _).mono ?_); rintro e' w' ⟨rfl, rfl⟩) | fail)
        go_ret2
        exact ⟨ret_pair (HE.out.trans HR.out), Z.out⟩
      replace hR := hR.trans ((if_neg (by omega)).trans (if_neg (by rw [hr]; decide)))
      replace hr := Lib.hid hr
      rcases Bool.eq_false_or_eq_true (bits .and .u64 e 10 == 0) with hl | hl
      · have HR := Lib.hid (hR.trans (if_pos hl))
        clear hR
        go_upto_region 12 with (fail)
        have hne : Nonempty (Near wr) := ⟨⟨wr, Below.refl _ _⟩⟩
        refine wp_region_near (by kernel_rfl) (by kernel_rfl) ?_
        repeat (first | (go_big_quiet_want; (with_reducible refine quiet_by _ (fun w hw => exec_load (t := 28) rfl (near_load HB.out.2.1 hV.out w hw) rfl) ?_); simp only [Act.put, List.setIfInBounds_toArray, List.set_cons_zero, List.set_cons_succ]; go_big_quiet_on) | go_big_quiet_step (first | (go_at_call 17; exact near_call (same_call (cC.out _))) | (go_at_call 16; exact near_call (cA.out _ (below_then HB.out.2.2 (Near.near _)))) | fail))
        refine wpQuiet_nil ?_
        rintro _ ⟨pn, rfl⟩
        have X := Lib.hid (HB.out.1.next pn.near)
        have Y := Lib.hid (HB.out.2.1.next pn.near)
        have Z := Lib.hid (below_then HB.out.2.2 pn.near)
        clear HB hne
        generalize pn.wx = w1 at *
        go_wp2_with (first | (go_at_call 19; (with_reducible refine (right_any e _).mono ?_); rintro e' w' ⟨rfl, rfl⟩; rw [hr.out]) | (go_at_call 15; (with_reducible refine (place_any _ _).mono ?_); rintro e' w' ⟨rfl, rfl⟩; rw [hp.out]) | fail)
        exact ⟨⟨2, by omega, rfl, p, rfl, Lib.hid ⟨hpu.out, HR.out.symm⟩, Lib.hid ⟨X.out, Y.out, Z.out⟩⟩, by simp [intOf]⟩
      replace hR := hR.trans (if_neg (by rw [hl]; decide))
      have hlow : lowV 2 = 1073741823 := by decide
      rw [hlow] at hR
      clear hlow
      rcases Bool.eq_false_or_eq_true (bits .and .u64 p 1073741823 != 0) with hm | hm
      · have HR := Lib.hid (hR.trans (if_pos hm))
        clear hR
        go_upto_region 12 with (fail)
        have hne : Nonempty (Near wr) := ⟨⟨wr, Below.refl _ _⟩⟩
        refine wp_region_near (by kernel_rfl) (by kernel_rfl) ?_
        repeat (first | (go_big_quiet_want; (with_reducible refine quiet_by _ (fun w hw => exec_load (t := 28) rfl (near_load HB.out.2.1 hV.out w hw) rfl) ?_); simp only [Act.put, List.setIfInBounds_toArray, List.set_cons_zero, List.set_cons_succ]; go_big_quiet_on) | go_big_quiet_step (first | (go_at_call 17; exact near_call (same_call (cC.out _))) | (go_at_call 16; exact near_call (cA.out _ (below_then HB.out.2.2 (Near.near _)))) | fail))
        refine wpQuiet_nil ?_
        rintro _ ⟨pn, rfl⟩
        have X := Lib.hid (HB.out.1.next pn.near)
        have Y := Lib.hid (HB.out.2.1.next pn.near)
        have Z := Lib.hid (below_then HB.out.2.2 pn.near)
        clear HB hne
        generalize pn.wx = w1 at *
        go_wp2_with (first | (go_at_call 19; (with_reducible refine (right_any e _).mono ?_); rintro e' w' ⟨rfl, rfl⟩; rw [hr.out]) | (go_at_call 15; (with_reducible refine (place_any _ _).mono ?_); rintro e' w' ⟨rfl, rfl⟩; rw [hp.out]) | (go_at_call 14; (with_reducible refine (page_any kind h0 h2 _).mono ?_); rintro e' w' ⟨rfl, rfl⟩) | fail)
        go_ret2
        exact ⟨ret_pair (HE.out.trans HR.out), Z.out⟩
      replace hR := hR.trans (if_neg (by rw [hm]; decide))
      rcases Bool.eq_false_or_eq_true (usedB ms M e kind) with hu | hu
      rotate_left
      · replace hR := hR.trans (if_pos hu)
        replace hu := Lib.hid hu
        have HR := Lib.hid (hR.trans (rfl))
        clear hR
        go_upto_region 12 with (fail)
        have hne : Nonempty (Near wr) := ⟨⟨wr, Below.refl _ _⟩⟩
        refine wp_region_near (by kernel_rfl) (by kernel_rfl) ?_
        repeat (first | (go_big_quiet_want; (with_reducible refine quiet_by _ (fun w hw => exec_load (t := 28) rfl (near_load HB.out.2.1 hV.out w hw) rfl) ?_); simp only [Act.put, List.setIfInBounds_toArray, List.set_cons_zero, List.set_cons_succ]; go_big_quiet_on) | go_big_quiet_step (first | (go_at_call 17; exact near_call (same_call (cC.out _))) | (go_at_call 16; exact near_call (cA.out _ (below_then HB.out.2.2 (Near.near _)))) | fail))
        refine wpQuiet_nil ?_
        rintro _ ⟨pn, rfl⟩
        have X := Lib.hid (HB.out.1.next pn.near)
        have Y := Lib.hid (HB.out.2.1.next pn.near)
        have Z := Lib.hid (below_then HB.out.2.2 pn.near)
        clear HB hne
        generalize pn.wx = w1 at *
        go_wp2_with (first | (go_at_call 19; (with_reducible refine (right_any e _).mono ?_); rintro e' w' ⟨rfl, rfl⟩; rw [hr.out]) | (go_at_call 15; (with_reducible refine (place_any _ _).mono ?_); rintro e' w' ⟨rfl, rfl⟩; rw [hp.out]) | (with_reducible show wpList _ _ _ (⟨some 85, Op.load 24 (.tmp 5), 24, _, _, _⟩ :: _) _ _; refine wpList_load_wanted (by kernel_rfl) rfl (Box.load (X.out) hC) rfl ?_; simp only [Act.put, List.setIfInBounds_toArray, List.set_cons_zero, List.set_cons_succ]) | (go_at_call 20; (with_reducible refine (cU.out e _).mono ?_); rintro e' w2 ⟨rfl, k2⟩; rw [hu.out]) | (go_at_call 14; (with_reducible refine (page_any kind h0 h2 _).mono ?_); rintro e' w' ⟨rfl, rfl⟩) | fail)
        go_ret2
        exact ⟨ret_pair (HE.out.trans HR.out), below_then Z.out k2⟩
      · replace hR := hR.trans (if_neg (by rw [hu]; decide))
        replace hu := Lib.hid hu
        have HR := Lib.hid (hR.trans (rfl))
        clear hR
        go_upto_region 12 with (fail)
        have hne : Nonempty (Near wr) := ⟨⟨wr, Below.refl _ _⟩⟩
        refine wp_region_near (by kernel_rfl) (by kernel_rfl) ?_
        repeat (first | (go_big_quiet_want; (with_reducible refine quiet_by _ (fun w hw => exec_load (t := 28) rfl (near_load HB.out.2.1 hV.out w hw) rfl) ?_); simp only [Act.put, List.setIfInBounds_toArray, List.set_cons_zero, List.set_cons_succ]; go_big_quiet_on) | go_big_quiet_step (first | (go_at_call 17; exact near_call (same_call (cC.out _))) | (go_at_call 16; exact near_call (cA.out _ (below_then HB.out.2.2 (Near.near _)))) | fail))
        refine wpQuiet_nil ?_
        rintro _ ⟨pn, rfl⟩
        have X := Lib.hid (HB.out.1.next pn.near)
        have Y := Lib.hid (HB.out.2.1.next pn.near)
        have Z := Lib.hid (below_then HB.out.2.2 pn.near)
        clear HB hne
        generalize pn.wx = w1 at *
        go_wp2_with (first | (go_at_call 19; (with_reducible refine (right_any e _).mono ?_); rintro e' w' ⟨rfl, rfl⟩; rw [hr.out]) | (go_at_call 15; (with_reducible refine (place_any _ _).mono ?_); rintro e' w' ⟨rfl, rfl⟩; rw [hp.out]) | (with_reducible show wpList _ _ _ (⟨some 85, Op.load 24 (.tmp 5), 24, _, _, _⟩ :: _) _ _; refine wpList_load_wanted (by kernel_rfl) rfl (Box.load (X.out) hC) rfl ?_; simp only [Act.put, List.setIfInBounds_toArray, List.set_cons_zero, List.set_cons_succ]) | (go_at_call 20; (with_reducible refine (cU.out e _).mono ?_); rintro e' w2 ⟨rfl, k2⟩; rw [hu.out]) | fail)
        go_ret2
        exact ⟨ret_pair (HE.out.trans HR.out), below_then Z.out k2⟩

end Go.Proofs.Ytmjlgoceokdabaa
