/- Find of the reference: the loop, of an address whose bits 63:38 are 0. -/
import Derived.Test.YtmjlgoceokdabaaP
import Derived.Test.YtmjlgoceokdabaaN
namespace Go.Proofs.Ytmjlgoceokdabaa
open Go.RowKit Go.Deep Go.Joins
set_option maxRecDepth 100000 in
set_option maxHeartbeats 2000000 in
theorem rfind_loop_a (C V : Array Value) (ms sp m t kind : Int) (D : List UInt8) (W : World) (h : CsrAt C ms sp) (hV : V.size = 3) (M : Int) (h0 : 0 ≤ kind) (h2 : kind ≤ 2) (ht0 : 0 ≤ t) (hM : rmodeV ms m kind = M) (k : ¬ 3 ≤ M) (s : (sp / 1152921504606846976 != 8) = false) (y : (wrap64 t / 274877906944 != 0) = false) (cL : LoadOk 23 V D W) : Calls Try.prog 10 #[.agg C, .int .i64 m, .agg V, .int .u64 t, .int .i64 kind] W fun e W' => e = .returned (pairV (rfindF D ms sp m t kind)) ∧ Below W.heap.size W W' := by
  have HE : RowKit.Hid (rfindF D ms sp m t kind = goR D ms M t kind 3 (placeV sp)) := Lib.hid ((if_neg (by omega)).trans ((if_neg (by rw [hM]; exact k)).trans ((if_neg (by rw [s]; decide)).trans ((if_neg (by rw [sign_a y]; decide)).trans (by rw [hM])))))
  have g : decide (kind < 0) = false := decide_eq_false (by omega)
  have g2 : decide (2 < kind) = false := decide_eq_false (by omega)
  have f15 := h.f15
  have hC := h.size
  have hW := Lib.hid (boxes W C V)
  have cM := Lib.hid fun W => rmode_any C ms sp m kind h W
  have hCsr := Lib.hid h
  clear h
  replace hM := Lib.hid hM
  replace cL := Lib.hid cL
  have hT := Lib.hid ht0
  have cU := Lib.hid fun (e : Int) W => fits_any C ms sp M kind e hCsr.out h0 h2 W
  replace hV := Lib.hid hV
  clear ht0
  have g3 : decide (3 ≤ M) = false := decide_eq_false k
  go_enter Try.func10, Try.ntmps10
  go_wp2_with (first | (with_reducible show wpList _ _ _ (⟨some 25, Op.load 24 (.tmp 5), 24, _, _, _⟩ :: _) _ _; refine wpList_load_wanted (by kernel_rfl) rfl (Box.load (hW.out.1) hC) rfl ?_; simp only [Act.put, List.setIfInBounds_toArray, List.set_cons_zero, List.set_cons_succ]) | (go_at_call 21; (with_reducible refine (cM.out _).mono ?_); rintro e' w1 ⟨rfl, k1⟩; rw [hM.out]; have c15 := (((hW.out.1).next k1).cell 15).trans f15; have k1 := Lib.hid k1) | fail)
  have X := Lib.hid (And.intro (hW.out.1.next k1.out) (And.intro (hW.out.2.1.next k1.out) (below_then hW.out.2.2 k1.out)))
  clear hW k1 c15 f15
  obtain ⟨R, hR⟩ : ∃ R, goR D ms M t kind 3 (placeV sp) = R := ⟨_, rfl⟩
  rw [hR] at HE
  replace HE : RowKit.Hid (rfindF D ms sp m t kind = R) := HE
  have hR0 := Lib.hid hR
  clear hR g g2 g3 s k
  go_loopw [13, 14] (fun a b wr => ∃ k : Nat, k ≤ 3 ∧ b = .int .i64 ((k : Int) - 1) ∧ ∃ tb : Int, a = .int .u64 tb ∧ RowKit.Hid (goR D ms M t kind k tb = R) ∧ RowKit.Hid (Box wr W.heap.size C ∧ MBox wr (W.heap.size + 1) V ∧ Below W.heap.size W wr)) (fun _ b _ => (intOf b + 1).toNat)
  case atStart => exact ⟨3, by omega, rfl, placeV sp, rfl, hR0, X⟩
  case round =>
    clear X hR0
    obtain ⟨k, hk, hb, tb, rfl, HG, HB⟩ := hrel
    have hk4 : k = 0 ∨ k = 1 ∨ k = 2 ∨ k = 3 := by omega
    clear hk
    rcases hk4 with hk | hk | hk | hk
    · subst hk
      replace hb : _ = Value.int .i64 (-1) := hb
      subst hb
      have HR : RowKit.Hid (R = (0, pageV kind)) := Lib.hid HG.out.symm
      go_wp2_with (first | (go_at_call 22; (with_reducible refine (rpage_any kind h0 h2 _).mono ?_); rintro e' w' ⟨rfl, rfl⟩) | fail)
      go_ret2
      exact ⟨ret_pair (HE.out.trans HR.out), HB.out.2.2⟩
    · subst hk
      replace hb : _ = Value.int .i64 0 := hb
      subst hb
      obtain ⟨e, he⟩ : ∃ e, ldV D (addrV tb t 0) 8 = e := ⟨_, rfl⟩
      obtain ⟨s, hs⟩ : ∃ s, stE D.length (addrV tb t 0) 8 = s := ⟨_, rfl⟩
      have hR := HG.out.symm.trans (goR_at D ms M t kind tb e s 0 he hs)
      have cA : RowKit.Hid (∀ W', Below W.heap.size W W' → Calls Try.prog 23 #[.agg V, .int .u64 (IntKind.u64.wrap (tb + IntKind.u64.wrap (8 * bits .and .u64 (t / 4096) 511))), .int .i64 8] W' fun e' W'' => e' = .returned (.tuple #[.int .u64 e, .int .i64 s]) ∧ Below W'.heap.size W' W'') := Lib.hid fun W' hW' => by
        have h := cL.out W' hW' (addrV tb t 0) (addr_in _).1 (addr_in _).2
        rw [he, hs] at h
        exact h
      clear he hs
      by_cases hs : s ≠ 0
      · have hs1 : (s != 0) = true := by simpa using hs
        replace hR := hR.trans (if_pos hs)
        have HR := Lib.hid hR
        clear hR
        clear hs
        go_wp2_with (first | (with_reducible show wpList _ _ _ (⟨some 62, Op.load 28 (.tmp 7), 28, _, _, _⟩ :: _) _ _; refine wpList_load_by rfl rfl (MBox.load HB.out.2.1 hV.out) rfl ?_; simp only [Act.put, List.setIfInBounds_toArray, List.set_cons_zero, List.set_cons_succ]) | (go_at_call 23; (with_reducible refine (cA.out _ HB.out.2.2).mono ?_); rintro e' w1 ⟨rfl, k1⟩; have X := Lib.hid (HB.out.1.next k1); have Y := Lib.hid (HB.out.2.1.next k1); have Z := Lib.hid (below_then HB.out.2.2 k1); clear k1) | (go_at_call 24; (with_reducible refine (racc_any kind h0 h2 _).mono ?_); rintro e' w' ⟨rfl, rfl⟩) | fail)
        go_ret2
        exact ⟨ret_pair (HE.out.trans HR.out), Z.out⟩
      replace hs : s = 0 := by omega
      subst hs
      replace hR := hR.trans (if_neg (by omega))
      rcases Bool.eq_false_or_eq_true (bits .and .u64 e 1 == 0) with q1 | q1
      · replace hR := hR.trans (if_pos q1)
        have HR := Lib.hid hR
        clear hR
        go_wp2_with (first | (with_reducible show wpList _ _ _ (⟨some 62, Op.load 28 (.tmp 7), 28, _, _, _⟩ :: _) _ _; refine wpList_load_by rfl rfl (MBox.load HB.out.2.1 hV.out) rfl ?_; simp only [Act.put, List.setIfInBounds_toArray, List.set_cons_zero, List.set_cons_succ]) | (go_at_call 23; (with_reducible refine (cA.out _ HB.out.2.2).mono ?_); rintro e' w1 ⟨rfl, k1⟩; have X := Lib.hid (HB.out.1.next k1); have Y := Lib.hid (HB.out.2.1.next k1); have Z := Lib.hid (below_then HB.out.2.2 k1); clear k1) | (go_at_call 22; (with_reducible refine (rpage_any kind h0 h2 _).mono ?_); rintro e' w' ⟨rfl, rfl⟩) | fail)
        go_ret2
        exact ⟨ret_pair (HE.out.trans HR.out), Z.out⟩
      replace hR := hR.trans (if_neg (by rw [q1]; decide))
      rcases Bool.eq_false_or_eq_true (bits .and .u64 e 6 == 4) with q2 | q2
      · replace hR := hR.trans (if_pos q2)
        have HR := Lib.hid hR
        clear hR
        go_wp2_with (first | (with_reducible show wpList _ _ _ (⟨some 62, Op.load 28 (.tmp 7), 28, _, _, _⟩ :: _) _ _; refine wpList_load_by rfl rfl (MBox.load HB.out.2.1 hV.out) rfl ?_; simp only [Act.put, List.setIfInBounds_toArray, List.set_cons_zero, List.set_cons_succ]) | (go_at_call 23; (with_reducible refine (cA.out _ HB.out.2.2).mono ?_); rintro e' w1 ⟨rfl, k1⟩; have X := Lib.hid (HB.out.1.next k1); have Y := Lib.hid (HB.out.2.1.next k1); have Z := Lib.hid (below_then HB.out.2.2 k1); clear k1) | (go_at_call 22; (with_reducible refine (rpage_any kind h0 h2 _).mono ?_); rintro e' w' ⟨rfl, rfl⟩) | fail)
        go_ret2
        exact ⟨ret_pair (HE.out.trans HR.out), Z.out⟩
      replace hR := hR.trans (if_neg (by rw [q2]; decide))
      rcases Bool.eq_false_or_eq_true (e / 18014398509481984 != 0) with q3 | q3
      · replace hR := hR.trans (if_pos q3)
        have HR := Lib.hid hR
        clear hR
        go_wp2_with (first | (with_reducible show wpList _ _ _ (⟨some 62, Op.load 28 (.tmp 7), 28, _, _, _⟩ :: _) _ _; refine wpList_load_by rfl rfl (MBox.load HB.out.2.1 hV.out) rfl ?_; simp only [Act.put, List.setIfInBounds_toArray, List.set_cons_zero, List.set_cons_succ]) | (go_at_call 23; (with_reducible refine (cA.out _ HB.out.2.2).mono ?_); rintro e' w1 ⟨rfl, k1⟩; have X := Lib.hid (HB.out.1.next k1); have Y := Lib.hid (HB.out.2.1.next k1); have Z := Lib.hid (below_then HB.out.2.2 k1); clear k1) | (go_at_call 22; (with_reducible refine (rpage_any kind h0 h2 _).mono ?_); rintro e' w' ⟨rfl, rfl⟩) | fail)
        go_ret2
        exact ⟨ret_pair (HE.out.trans HR.out), Z.out⟩
      replace hR := hR.trans (if_neg (by rw [q3]; decide))
      rcases Bool.eq_false_or_eq_true (bits .and .u64 e 10 == 0) with hl | hl
      · replace hR := hR.trans (if_pos hl)
        have HR := Lib.hid hR
        clear hR
        go_wp2_with (first | (with_reducible show wpList _ _ _ (⟨some 62, Op.load 28 (.tmp 7), 28, _, _, _⟩ :: _) _ _; refine wpList_load_by rfl rfl (MBox.load HB.out.2.1 hV.out) rfl ?_; simp only [Act.put, List.setIfInBounds_toArray, List.set_cons_zero, List.set_cons_succ]) | (go_at_call 23; (with_reducible refine (cA.out _ HB.out.2.2).mono ?_); rintro e' w1 ⟨rfl, k1⟩; have X := Lib.hid (HB.out.1.next k1); have Y := Lib.hid (HB.out.2.1.next k1); have Z := Lib.hid (below_then HB.out.2.2 k1); clear k1) | fail)
        exact ⟨⟨0, by omega, rfl, IntKind.u64.wrap (e / 1024 * 4096), rfl, Lib.hid HR.out.symm, Lib.hid ⟨X.out, Y.out, Z.out⟩⟩, by simp [intOf]⟩
      replace hR := hR.trans (if_neg (by rw [hl]; decide))
      have hlow : lowV 0 = 4095 := by decide
      rw [hlow] at hR
      clear hlow
      rcases Bool.eq_false_or_eq_true (bits .and .u64 (IntKind.u64.wrap (e / 1024 * 4096)) 4095 != 0) with hm | hm
      · replace hR := hR.trans (if_pos hm)
        have HR := Lib.hid hR
        clear hR
        go_wp2_with (first | (with_reducible show wpList _ _ _ (⟨some 62, Op.load 28 (.tmp 7), 28, _, _, _⟩ :: _) _ _; refine wpList_load_by rfl rfl (MBox.load HB.out.2.1 hV.out) rfl ?_; simp only [Act.put, List.setIfInBounds_toArray, List.set_cons_zero, List.set_cons_succ]) | (go_at_call 23; (with_reducible refine (cA.out _ HB.out.2.2).mono ?_); rintro e' w1 ⟨rfl, k1⟩; have X := Lib.hid (HB.out.1.next k1); have Y := Lib.hid (HB.out.2.1.next k1); have Z := Lib.hid (below_then HB.out.2.2 k1); clear k1) | (go_at_call 22; (with_reducible refine (rpage_any kind h0 h2 _).mono ?_); rintro e' w' ⟨rfl, rfl⟩) | fail)
        go_ret2
        exact ⟨ret_pair (HE.out.trans HR.out), Z.out⟩
      replace hR := hR.trans (if_neg (by rw [hm]; decide))
      rcases Bool.eq_false_or_eq_true (fitsB ms M kind e) with hu | hu
      rotate_left
      · replace hR := hR.trans (if_pos hu)
        replace hu := Lib.hid hu
        have HR := Lib.hid hR
        clear hR
        go_wp2_with (first | (with_reducible show wpList _ _ _ (⟨some 62, Op.load 28 (.tmp 7), 28, _, _, _⟩ :: _) _ _; refine wpList_load_by rfl rfl (MBox.load HB.out.2.1 hV.out) rfl ?_; simp only [Act.put, List.setIfInBounds_toArray, List.set_cons_zero, List.set_cons_succ]) | (go_at_call 23; (with_reducible refine (cA.out _ HB.out.2.2).mono ?_); rintro e' w1 ⟨rfl, k1⟩; have X := Lib.hid (HB.out.1.next k1); have Y := Lib.hid (HB.out.2.1.next k1); have Z := Lib.hid (below_then HB.out.2.2 k1); clear k1) | (with_reducible show wpList _ _ _ (⟨some 106, Op.load 24 (.tmp 5), 24, _, _, _⟩ :: _) _ _; refine wpList_load_wanted (by kernel_rfl) rfl (Box.load (X.out) hC) rfl ?_; simp only [Act.put, List.setIfInBounds_toArray, List.set_cons_zero, List.set_cons_succ]) | (go_at_call 25; (with_reducible refine (cU.out e _).mono ?_); rintro e' w2 ⟨rfl, k2⟩; rw [hu.out]) | (go_at_call 22; (with_reducible refine (rpage_any kind h0 h2 _).mono ?_); rintro e' w' ⟨rfl, rfl⟩) | fail)
        go_ret2
        exact ⟨ret_pair (HE.out.trans HR.out), below_then Z.out k2⟩
      · replace hR := hR.trans (if_neg (by rw [hu]; decide))
        replace hu := Lib.hid hu
        have HR := Lib.hid hR
        clear hR
        go_wp2_with (first | (with_reducible show wpList _ _ _ (⟨some 62, Op.load 28 (.tmp 7), 28, _, _, _⟩ :: _) _ _; refine wpList_load_by rfl rfl (MBox.load HB.out.2.1 hV.out) rfl ?_; simp only [Act.put, List.setIfInBounds_toArray, List.set_cons_zero, List.set_cons_succ]) | (go_at_call 23; (with_reducible refine (cA.out _ HB.out.2.2).mono ?_); rintro e' w1 ⟨rfl, k1⟩; have X := Lib.hid (HB.out.1.next k1); have Y := Lib.hid (HB.out.2.1.next k1); have Z := Lib.hid (below_then HB.out.2.2 k1); clear k1) | (with_reducible show wpList _ _ _ (⟨some 106, Op.load 24 (.tmp 5), 24, _, _, _⟩ :: _) _ _; refine wpList_load_wanted (by kernel_rfl) rfl (Box.load (X.out) hC) rfl ?_; simp only [Act.put, List.setIfInBounds_toArray, List.set_cons_zero, List.set_cons_succ]) | (go_at_call 25; (with_reducible refine (cU.out e _).mono ?_); rintro e' w2 ⟨rfl, k2⟩; rw [hu.out]) | fail)
        go_ret2
        exact ⟨ret_pair (HE.out.trans HR.out), below_then Z.out k2⟩
    · subst hk
      replace hb : _ = Value.int .i64 1 := hb
      subst hb
      obtain ⟨e, he⟩ : ∃ e, ldV D (addrV tb t 1) 8 = e := ⟨_, rfl⟩
      obtain ⟨s, hs⟩ : ∃ s, stE D.length (addrV tb t 1) 8 = s := ⟨_, rfl⟩
      have hR := HG.out.symm.trans (goR_at D ms M t kind tb e s 1 he hs)
      have cA : RowKit.Hid (∀ W', Below W.heap.size W W' → Calls Try.prog 23 #[.agg V, .int .u64 (IntKind.u64.wrap (tb + IntKind.u64.wrap (8 * bits .and .u64 (t / 2097152) 511))), .int .i64 8] W' fun e' W'' => e' = .returned (.tuple #[.int .u64 e, .int .i64 s]) ∧ Below W'.heap.size W' W'') := Lib.hid fun W' hW' => by
        have h := cL.out W' hW' (addrV tb t 1) (addr_in _).1 (addr_in _).2
        rw [he, hs] at h
        exact h
      clear he hs
      by_cases hs : s ≠ 0
      · have hs1 : (s != 0) = true := by simpa using hs
        replace hR := hR.trans (if_pos hs)
        have HR := Lib.hid hR
        clear hR
        clear hs
        go_wp2_with (first | (with_reducible show wpList _ _ _ (⟨some 62, Op.load 28 (.tmp 7), 28, _, _, _⟩ :: _) _ _; refine wpList_load_by rfl rfl (MBox.load HB.out.2.1 hV.out) rfl ?_; simp only [Act.put, List.setIfInBounds_toArray, List.set_cons_zero, List.set_cons_succ]) | (go_at_call 23; (with_reducible refine (cA.out _ HB.out.2.2).mono ?_); rintro e' w1 ⟨rfl, k1⟩; have X := Lib.hid (HB.out.1.next k1); have Y := Lib.hid (HB.out.2.1.next k1); have Z := Lib.hid (below_then HB.out.2.2 k1); clear k1) | (go_at_call 24; (with_reducible refine (racc_any kind h0 h2 _).mono ?_); rintro e' w' ⟨rfl, rfl⟩) | fail)
        go_ret2
        exact ⟨ret_pair (HE.out.trans HR.out), Z.out⟩
      replace hs : s = 0 := by omega
      subst hs
      replace hR := hR.trans (if_neg (by omega))
      rcases Bool.eq_false_or_eq_true (bits .and .u64 e 1 == 0) with q1 | q1
      · replace hR := hR.trans (if_pos q1)
        have HR := Lib.hid hR
        clear hR
        go_wp2_with (first | (with_reducible show wpList _ _ _ (⟨some 62, Op.load 28 (.tmp 7), 28, _, _, _⟩ :: _) _ _; refine wpList_load_by rfl rfl (MBox.load HB.out.2.1 hV.out) rfl ?_; simp only [Act.put, List.setIfInBounds_toArray, List.set_cons_zero, List.set_cons_succ]) | (go_at_call 23; (with_reducible refine (cA.out _ HB.out.2.2).mono ?_); rintro e' w1 ⟨rfl, k1⟩; have X := Lib.hid (HB.out.1.next k1); have Y := Lib.hid (HB.out.2.1.next k1); have Z := Lib.hid (below_then HB.out.2.2 k1); clear k1) | (go_at_call 22; (with_reducible refine (rpage_any kind h0 h2 _).mono ?_); rintro e' w' ⟨rfl, rfl⟩) | fail)
        go_ret2
        exact ⟨ret_pair (HE.out.trans HR.out), Z.out⟩
      replace hR := hR.trans (if_neg (by rw [q1]; decide))
      rcases Bool.eq_false_or_eq_true (bits .and .u64 e 6 == 4) with q2 | q2
      · replace hR := hR.trans (if_pos q2)
        have HR := Lib.hid hR
        clear hR
        go_wp2_with (first | (with_reducible show wpList _ _ _ (⟨some 62, Op.load 28 (.tmp 7), 28, _, _, _⟩ :: _) _ _; refine wpList_load_by rfl rfl (MBox.load HB.out.2.1 hV.out) rfl ?_; simp only [Act.put, List.setIfInBounds_toArray, List.set_cons_zero, List.set_cons_succ]) | (go_at_call 23; (with_reducible refine (cA.out _ HB.out.2.2).mono ?_); rintro e' w1 ⟨rfl, k1⟩; have X := Lib.hid (HB.out.1.next k1); have Y := Lib.hid (HB.out.2.1.next k1); have Z := Lib.hid (below_then HB.out.2.2 k1); clear k1) | (go_at_call 22; (with_reducible refine (rpage_any kind h0 h2 _).mono ?_); rintro e' w' ⟨rfl, rfl⟩) | fail)
        go_ret2
        exact ⟨ret_pair (HE.out.trans HR.out), Z.out⟩
      replace hR := hR.trans (if_neg (by rw [q2]; decide))
      rcases Bool.eq_false_or_eq_true (e / 18014398509481984 != 0) with q3 | q3
      · replace hR := hR.trans (if_pos q3)
        have HR := Lib.hid hR
        clear hR
        go_wp2_with (first | (with_reducible show wpList _ _ _ (⟨some 62, Op.load 28 (.tmp 7), 28, _, _, _⟩ :: _) _ _; refine wpList_load_by rfl rfl (MBox.load HB.out.2.1 hV.out) rfl ?_; simp only [Act.put, List.setIfInBounds_toArray, List.set_cons_zero, List.set_cons_succ]) | (go_at_call 23; (with_reducible refine (cA.out _ HB.out.2.2).mono ?_); rintro e' w1 ⟨rfl, k1⟩; have X := Lib.hid (HB.out.1.next k1); have Y := Lib.hid (HB.out.2.1.next k1); have Z := Lib.hid (below_then HB.out.2.2 k1); clear k1) | (go_at_call 22; (with_reducible refine (rpage_any kind h0 h2 _).mono ?_); rintro e' w' ⟨rfl, rfl⟩) | fail)
        go_ret2
        exact ⟨ret_pair (HE.out.trans HR.out), Z.out⟩
      replace hR := hR.trans (if_neg (by rw [q3]; decide))
      rcases Bool.eq_false_or_eq_true (bits .and .u64 e 10 == 0) with hl | hl
      · replace hR := hR.trans (if_pos hl)
        have HR := Lib.hid hR
        clear hR
        go_wp2_with (first | (with_reducible show wpList _ _ _ (⟨some 62, Op.load 28 (.tmp 7), 28, _, _, _⟩ :: _) _ _; refine wpList_load_by rfl rfl (MBox.load HB.out.2.1 hV.out) rfl ?_; simp only [Act.put, List.setIfInBounds_toArray, List.set_cons_zero, List.set_cons_succ]) | (go_at_call 23; (with_reducible refine (cA.out _ HB.out.2.2).mono ?_); rintro e' w1 ⟨rfl, k1⟩; have X := Lib.hid (HB.out.1.next k1); have Y := Lib.hid (HB.out.2.1.next k1); have Z := Lib.hid (below_then HB.out.2.2 k1); clear k1) | fail)
        exact ⟨⟨1, by omega, rfl, IntKind.u64.wrap (e / 1024 * 4096), rfl, Lib.hid HR.out.symm, Lib.hid ⟨X.out, Y.out, Z.out⟩⟩, by simp [intOf]⟩
      replace hR := hR.trans (if_neg (by rw [hl]; decide))
      have hlow : lowV 1 = 2097151 := by decide
      rw [hlow] at hR
      clear hlow
      rcases Bool.eq_false_or_eq_true (bits .and .u64 (IntKind.u64.wrap (e / 1024 * 4096)) 2097151 != 0) with hm | hm
      · replace hR := hR.trans (if_pos hm)
        have HR := Lib.hid hR
        clear hR
        go_wp2_with (first | (with_reducible show wpList _ _ _ (⟨some 62, Op.load 28 (.tmp 7), 28, _, _, _⟩ :: _) _ _; refine wpList_load_by rfl rfl (MBox.load HB.out.2.1 hV.out) rfl ?_; simp only [Act.put, List.setIfInBounds_toArray, List.set_cons_zero, List.set_cons_succ]) | (go_at_call 23; (with_reducible refine (cA.out _ HB.out.2.2).mono ?_); rintro e' w1 ⟨rfl, k1⟩; have X := Lib.hid (HB.out.1.next k1); have Y := Lib.hid (HB.out.2.1.next k1); have Z := Lib.hid (below_then HB.out.2.2 k1); clear k1) | (go_at_call 22; (with_reducible refine (rpage_any kind h0 h2 _).mono ?_); rintro e' w' ⟨rfl, rfl⟩) | fail)
        go_ret2
        exact ⟨ret_pair (HE.out.trans HR.out), Z.out⟩
      replace hR := hR.trans (if_neg (by rw [hm]; decide))
      rcases Bool.eq_false_or_eq_true (fitsB ms M kind e) with hu | hu
      rotate_left
      · replace hR := hR.trans (if_pos hu)
        replace hu := Lib.hid hu
        have HR := Lib.hid hR
        clear hR
        go_wp2_with (first | (with_reducible show wpList _ _ _ (⟨some 62, Op.load 28 (.tmp 7), 28, _, _, _⟩ :: _) _ _; refine wpList_load_by rfl rfl (MBox.load HB.out.2.1 hV.out) rfl ?_; simp only [Act.put, List.setIfInBounds_toArray, List.set_cons_zero, List.set_cons_succ]) | (go_at_call 23; (with_reducible refine (cA.out _ HB.out.2.2).mono ?_); rintro e' w1 ⟨rfl, k1⟩; have X := Lib.hid (HB.out.1.next k1); have Y := Lib.hid (HB.out.2.1.next k1); have Z := Lib.hid (below_then HB.out.2.2 k1); clear k1) | (with_reducible show wpList _ _ _ (⟨some 106, Op.load 24 (.tmp 5), 24, _, _, _⟩ :: _) _ _; refine wpList_load_wanted (by kernel_rfl) rfl (Box.load (X.out) hC) rfl ?_; simp only [Act.put, List.setIfInBounds_toArray, List.set_cons_zero, List.set_cons_succ]) | (go_at_call 25; (with_reducible refine (cU.out e _).mono ?_); rintro e' w2 ⟨rfl, k2⟩; rw [hu.out]) | (go_at_call 22; (with_reducible refine (rpage_any kind h0 h2 _).mono ?_); rintro e' w' ⟨rfl, rfl⟩) | fail)
        go_ret2
        exact ⟨ret_pair (HE.out.trans HR.out), below_then Z.out k2⟩
      · replace hR := hR.trans (if_neg (by rw [hu]; decide))
        replace hu := Lib.hid hu
        have HR := Lib.hid hR
        clear hR
        go_wp2_with (first | (with_reducible show wpList _ _ _ (⟨some 62, Op.load 28 (.tmp 7), 28, _, _, _⟩ :: _) _ _; refine wpList_load_by rfl rfl (MBox.load HB.out.2.1 hV.out) rfl ?_; simp only [Act.put, List.setIfInBounds_toArray, List.set_cons_zero, List.set_cons_succ]) | (go_at_call 23; (with_reducible refine (cA.out _ HB.out.2.2).mono ?_); rintro e' w1 ⟨rfl, k1⟩; have X := Lib.hid (HB.out.1.next k1); have Y := Lib.hid (HB.out.2.1.next k1); have Z := Lib.hid (below_then HB.out.2.2 k1); clear k1) | (with_reducible show wpList _ _ _ (⟨some 106, Op.load 24 (.tmp 5), 24, _, _, _⟩ :: _) _ _; refine wpList_load_wanted (by kernel_rfl) rfl (Box.load (X.out) hC) rfl ?_; simp only [Act.put, List.setIfInBounds_toArray, List.set_cons_zero, List.set_cons_succ]) | (go_at_call 25; (with_reducible refine (cU.out e _).mono ?_); rintro e' w2 ⟨rfl, k2⟩; rw [hu.out]) | fail)
        go_ret2
        exact ⟨ret_pair (HE.out.trans HR.out), below_then Z.out k2⟩
    · subst hk
      replace hb : _ = Value.int .i64 2 := hb
      subst hb
      obtain ⟨e, he⟩ : ∃ e, ldV D (addrV tb t 2) 8 = e := ⟨_, rfl⟩
      obtain ⟨s, hs⟩ : ∃ s, stE D.length (addrV tb t 2) 8 = s := ⟨_, rfl⟩
      have hR := HG.out.symm.trans (goR_at D ms M t kind tb e s 2 he hs)
      have cA : RowKit.Hid (∀ W', Below W.heap.size W W' → Calls Try.prog 23 #[.agg V, .int .u64 (IntKind.u64.wrap (tb + IntKind.u64.wrap (8 * bits .and .u64 (t / 1073741824) 511))), .int .i64 8] W' fun e' W'' => e' = .returned (.tuple #[.int .u64 e, .int .i64 s]) ∧ Below W'.heap.size W' W'') := Lib.hid fun W' hW' => by
        have h := cL.out W' hW' (addrV tb t 2) (addr_in _).1 (addr_in _).2
        rw [he, hs] at h
        exact h
      clear he hs
      by_cases hs : s ≠ 0
      · have hs1 : (s != 0) = true := by simpa using hs
        replace hR := hR.trans (if_pos hs)
        have HR := Lib.hid hR
        clear hR
        clear hs
        go_wp2_with (first | (with_reducible show wpList _ _ _ (⟨some 62, Op.load 28 (.tmp 7), 28, _, _, _⟩ :: _) _ _; refine wpList_load_by rfl rfl (MBox.load HB.out.2.1 hV.out) rfl ?_; simp only [Act.put, List.setIfInBounds_toArray, List.set_cons_zero, List.set_cons_succ]) | (go_at_call 23; (with_reducible refine (cA.out _ HB.out.2.2).mono ?_); rintro e' w1 ⟨rfl, k1⟩; have X := Lib.hid (HB.out.1.next k1); have Y := Lib.hid (HB.out.2.1.next k1); have Z := Lib.hid (below_then HB.out.2.2 k1); clear k1) | (go_at_call 24; (with_reducible refine (racc_any kind h0 h2 _).mono ?_); rintro e' w' ⟨rfl, rfl⟩) | fail)
        go_ret2
        exact ⟨ret_pair (HE.out.trans HR.out), Z.out⟩
      replace hs : s = 0 := by omega
      subst hs
      replace hR := hR.trans (if_neg (by omega))
      rcases Bool.eq_false_or_eq_true (bits .and .u64 e 1 == 0) with q1 | q1
      · replace hR := hR.trans (if_pos q1)
        have HR := Lib.hid hR
        clear hR
        go_wp2_with (first | (with_reducible show wpList _ _ _ (⟨some 62, Op.load 28 (.tmp 7), 28, _, _, _⟩ :: _) _ _; refine wpList_load_by rfl rfl (MBox.load HB.out.2.1 hV.out) rfl ?_; simp only [Act.put, List.setIfInBounds_toArray, List.set_cons_zero, List.set_cons_succ]) | (go_at_call 23; (with_reducible refine (cA.out _ HB.out.2.2).mono ?_); rintro e' w1 ⟨rfl, k1⟩; have X := Lib.hid (HB.out.1.next k1); have Y := Lib.hid (HB.out.2.1.next k1); have Z := Lib.hid (below_then HB.out.2.2 k1); clear k1) | (go_at_call 22; (with_reducible refine (rpage_any kind h0 h2 _).mono ?_); rintro e' w' ⟨rfl, rfl⟩) | fail)
        go_ret2
        exact ⟨ret_pair (HE.out.trans HR.out), Z.out⟩
      replace hR := hR.trans (if_neg (by rw [q1]; decide))
      rcases Bool.eq_false_or_eq_true (bits .and .u64 e 6 == 4) with q2 | q2
      · replace hR := hR.trans (if_pos q2)
        have HR := Lib.hid hR
        clear hR
        go_wp2_with (first | (with_reducible show wpList _ _ _ (⟨some 62, Op.load 28 (.tmp 7), 28, _, _, _⟩ :: _) _ _; refine wpList_load_by rfl rfl (MBox.load HB.out.2.1 hV.out) rfl ?_; simp only [Act.put, List.setIfInBounds_toArray, List.set_cons_zero, List.set_cons_succ]) | (go_at_call 23; (with_reducible refine (cA.out _ HB.out.2.2).mono ?_); rintro e' w1 ⟨rfl, k1⟩; have X := Lib.hid (HB.out.1.next k1); have Y := Lib.hid (HB.out.2.1.next k1); have Z := Lib.hid (below_then HB.out.2.2 k1); clear k1) | (go_at_call 22; (with_reducible refine (rpage_any kind h0 h2 _).mono ?_); rintro e' w' ⟨rfl, rfl⟩) | fail)
        go_ret2
        exact ⟨ret_pair (HE.out.trans HR.out), Z.out⟩
      replace hR := hR.trans (if_neg (by rw [q2]; decide))
      rcases Bool.eq_false_or_eq_true (e / 18014398509481984 != 0) with q3 | q3
      · replace hR := hR.trans (if_pos q3)
        have HR := Lib.hid hR
        clear hR
        go_wp2_with (first | (with_reducible show wpList _ _ _ (⟨some 62, Op.load 28 (.tmp 7), 28, _, _, _⟩ :: _) _ _; refine wpList_load_by rfl rfl (MBox.load HB.out.2.1 hV.out) rfl ?_; simp only [Act.put, List.setIfInBounds_toArray, List.set_cons_zero, List.set_cons_succ]) | (go_at_call 23; (with_reducible refine (cA.out _ HB.out.2.2).mono ?_); rintro e' w1 ⟨rfl, k1⟩; have X := Lib.hid (HB.out.1.next k1); have Y := Lib.hid (HB.out.2.1.next k1); have Z := Lib.hid (below_then HB.out.2.2 k1); clear k1) | (go_at_call 22; (with_reducible refine (rpage_any kind h0 h2 _).mono ?_); rintro e' w' ⟨rfl, rfl⟩) | fail)
        go_ret2
        exact ⟨ret_pair (HE.out.trans HR.out), Z.out⟩
      replace hR := hR.trans (if_neg (by rw [q3]; decide))
      rcases Bool.eq_false_or_eq_true (bits .and .u64 e 10 == 0) with hl | hl
      · replace hR := hR.trans (if_pos hl)
        have HR := Lib.hid hR
        clear hR
        go_wp2_with (first | (with_reducible show wpList _ _ _ (⟨some 62, Op.load 28 (.tmp 7), 28, _, _, _⟩ :: _) _ _; refine wpList_load_by rfl rfl (MBox.load HB.out.2.1 hV.out) rfl ?_; simp only [Act.put, List.setIfInBounds_toArray, List.set_cons_zero, List.set_cons_succ]) | (go_at_call 23; (with_reducible refine (cA.out _ HB.out.2.2).mono ?_); rintro e' w1 ⟨rfl, k1⟩; have X := Lib.hid (HB.out.1.next k1); have Y := Lib.hid (HB.out.2.1.next k1); have Z := Lib.hid (below_then HB.out.2.2 k1); clear k1) | fail)
        exact ⟨⟨2, by omega, rfl, IntKind.u64.wrap (e / 1024 * 4096), rfl, Lib.hid HR.out.symm, Lib.hid ⟨X.out, Y.out, Z.out⟩⟩, by simp [intOf]⟩
      replace hR := hR.trans (if_neg (by rw [hl]; decide))
      have hlow : lowV 2 = 1073741823 := by decide
      rw [hlow] at hR
      clear hlow
      rcases Bool.eq_false_or_eq_true (bits .and .u64 (IntKind.u64.wrap (e / 1024 * 4096)) 1073741823 != 0) with hm | hm
      · replace hR := hR.trans (if_pos hm)
        have HR := Lib.hid hR
        clear hR
        go_wp2_with (first | (with_reducible show wpList _ _ _ (⟨some 62, Op.load 28 (.tmp 7), 28, _, _, _⟩ :: _) _ _; refine wpList_load_by rfl rfl (MBox.load HB.out.2.1 hV.out) rfl ?_; simp only [Act.put, List.setIfInBounds_toArray, List.set_cons_zero, List.set_cons_succ]) | (go_at_call 23; (with_reducible refine (cA.out _ HB.out.2.2).mono ?_); rintro e' w1 ⟨rfl, k1⟩; have X := Lib.hid (HB.out.1.next k1); have Y := Lib.hid (HB.out.2.1.next k1); have Z := Lib.hid (below_then HB.out.2.2 k1); clear k1) | (go_at_call 22; (with_reducible refine (rpage_any kind h0 h2 _).mono ?_); rintro e' w' ⟨rfl, rfl⟩) | fail)
        go_ret2
        exact ⟨ret_pair (HE.out.trans HR.out), Z.out⟩
      replace hR := hR.trans (if_neg (by rw [hm]; decide))
      rcases Bool.eq_false_or_eq_true (fitsB ms M kind e) with hu | hu
      rotate_left
      · replace hR := hR.trans (if_pos hu)
        replace hu := Lib.hid hu
        have HR := Lib.hid hR
        clear hR
        go_wp2_with (first | (with_reducible show wpList _ _ _ (⟨some 62, Op.load 28 (.tmp 7), 28, _, _, _⟩ :: _) _ _; refine wpList_load_by rfl rfl (MBox.load HB.out.2.1 hV.out) rfl ?_; simp only [Act.put, List.setIfInBounds_toArray, List.set_cons_zero, List.set_cons_succ]) | (go_at_call 23; (with_reducible refine (cA.out _ HB.out.2.2).mono ?_); rintro e' w1 ⟨rfl, k1⟩; have X := Lib.hid (HB.out.1.next k1); have Y := Lib.hid (HB.out.2.1.next k1); have Z := Lib.hid (below_then HB.out.2.2 k1); clear k1) | (with_reducible show wpList _ _ _ (⟨some 106, Op.load 24 (.tmp 5), 24, _, _, _⟩ :: _) _ _; refine wpList_load_wanted (by kernel_rfl) rfl (Box.load (X.out) hC) rfl ?_; simp only [Act.put, List.setIfInBounds_toArray, List.set_cons_zero, List.set_cons_succ]) | (go_at_call 25; (with_reducible refine (cU.out e _).mono ?_); rintro e' w2 ⟨rfl, k2⟩; rw [hu.out]) | (go_at_call 22; (with_reducible refine (rpage_any kind h0 h2 _).mono ?_); rintro e' w' ⟨rfl, rfl⟩) | fail)
        go_ret2
        exact ⟨ret_pair (HE.out.trans HR.out), below_then Z.out k2⟩
      · replace hR := hR.trans (if_neg (by rw [hu]; decide))
        replace hu := Lib.hid hu
        have HR := Lib.hid hR
        clear hR
        go_wp2_with (first | (with_reducible show wpList _ _ _ (⟨some 62, Op.load 28 (.tmp 7), 28, _, _, _⟩ :: _) _ _; refine wpList_load_by rfl rfl (MBox.load HB.out.2.1 hV.out) rfl ?_; simp only [Act.put, List.setIfInBounds_toArray, List.set_cons_zero, List.set_cons_succ]) | (go_at_call 23; (with_reducible refine (cA.out _ HB.out.2.2).mono ?_); rintro e' w1 ⟨rfl, k1⟩; have X := Lib.hid (HB.out.1.next k1); have Y := Lib.hid (HB.out.2.1.next k1); have Z := Lib.hid (below_then HB.out.2.2 k1); clear k1) | (with_reducible show wpList _ _ _ (⟨some 106, Op.load 24 (.tmp 5), 24, _, _, _⟩ :: _) _ _; refine wpList_load_wanted (by kernel_rfl) rfl (Box.load (X.out) hC) rfl ?_; simp only [Act.put, List.setIfInBounds_toArray, List.set_cons_zero, List.set_cons_succ]) | (go_at_call 25; (with_reducible refine (cU.out e _).mono ?_); rintro e' w2 ⟨rfl, k2⟩; rw [hu.out]) | fail)
        go_ret2
        exact ⟨ret_pair (HE.out.trans HR.out), below_then Z.out k2⟩

end Go.Proofs.Ytmjlgoceokdabaa
