/- The merge in place: one segment behind a run. -/
import Derived.Test.YtkecjopojnllnaaG
namespace Go.Proofs.Ytkecjopojnllnaa
open Go.RowKit Go.Deep Go.Joins

set_option maxRecDepth 100000 in
set_option maxHeartbeats 1000000 in
theorem sym_last (P X S : List Sg) (y : Sg) (B g n cap a M : Nat) (w : World) (h : OwnS w B g n cap (P ++ X ++ y :: S)) (hn : n ≤ 4611686018427387904) (ha : P.length = a) (hM : a + X.length = M) (hX : 1 < X.length) (hrX : Rises X) :
    Calls Try.prog 78 #[.slice (some ⟨g, 0, none⟩) n cap, .int .i64 a, .int .i64 M, .int .i64 ((M : Int) + 1), cmpV] w fun e w' => e = .returned (.tuple #[]) ∧ (∃ Z, Rises Z ∧ Keeps (X ++ [y]) Z ∧ OwnS w' B g n cap (P ++ Z ++ S)) ∧ w.grownBy w' (some g) := by
  have H := Lib.hid h
  have hn1 := h.1
  simp only [List.length_append, List.length_cons] at hn1
  clear h
  have w0 : IntKind.i64.wrap ((M : Int) - (a : Int)) = (M : Int) - (a : Int) := IntWalk.i64_in _ (by omega)
  have w1 : IntKind.i64.wrap ((M : Int) + 1 - (M : Int)) = 1 := by rw [show (M : Int) + 1 - (M : Int) = 1 by omega]; rfl
  have h1 : ((M : Int) - (a : Int) == 1) = false := by rw [beq_eq_false_iff_ne]; omega
  have h1' : ¬ (M : Int) - (a : Int) = 1 := by omega
  have hbn : M < n := by omega
  have hab : a + 1 < M := by omega
  have HA := Lib.hid ha
  have HBB := Lib.hid hM
  clear ha hM hn1
  go_enter Try.func78, Try.ntmps78
  go_wp2_with fail
  go_loopw [14, 15] (fun i j wr => ∃ (p q : Nat), i = .int .i64 (p : Int) ∧ j = .int .i64 (q : Int) ∧ a ≤ p ∧ p ≤ q ∧ q ≤ M ∧ Hid ((∀ x ∈ X.take (p - a), x.num ≤ y.num) ∧ (∀ x ∈ X.drop (q - a), y.num < x.num)) ∧ Hid (OwnS wr B g n cap (P ++ X ++ y :: S)) ∧ Hid (w.grownBy wr (some g))) (fun i j _ => (intOf j).toNat - (intOf i).toNat)
  case atStart =>
    refine ⟨a, M, rfl, rfl, Nat.le_refl _, by omega, Nat.le_refl _, ⟨fun y hy => by simp at hy, fun y hy => ?_⟩, H.out, ⟨rfl, rfl, rfl, Nat.le_refl _, fun _ _ _ => rfl⟩⟩
    rw [List.drop_eq_nil_of_le (by have := HBB.out; omega)] at hy
    cases hy
  case round =>
    obtain ⟨p, q, rfl, rfl, hap, hpq, hqb, hd, how, hgr⟩ := hrel
    by_cases hlt : p < q
    · have w2 : IntKind.i64.wrap ((p : Int) + (q : Int)) = (p : Int) + (q : Int) := IntWalk.i64_in _ (by omega)
      obtain ⟨t, hh⟩ : ∃ t : Nat, ((p : Int) + (q : Int)) / 2 = (t : Int) := ⟨(p + q) / 2, by omega⟩
      have hpt : p ≤ t := by omega
      have htq : t < q := by omega
      have hxl : t - a < X.length := by have := HBB.out; omega
      obtain ⟨x, hx⟩ : ∃ x, X[t - a] = x := ⟨_, rfl⟩
      have hcel := how.out.cells8 (i := t) (j := M) (x := x) (y := y) (by
        refine ⟨by simp only [List.length_append, List.length_cons]; have := HA.out; omega, ?_⟩
        rw [List.getElem_append_left (by rw [List.length_append]; have := HA.out; omega), List.getElem_append_right (by have := HA.out; omega)]
        have e : t - P.length = t - a := by rw [HA.out]
        simp only [e]
        exact hx) (at_mid (by rw [List.length_append, HA.out]; exact HBB.out))
      have HY := Lib.hid hx
      have HCEL := Lib.hid hcel
      have b1 : (t : Int) < (n : Int) := by omega
      have b2 : (M : Int) < (n : Int) := by omega
      have w3 : IntKind.i64.wrap ((t : Int) + 1) = (t : Int) + 1 := IntWalk.i64_in _ (by omega)
      have lg := how.out.lt.2
      obtain ⟨c0, c1, c2, c3, d0, d1, d2, d3⟩ := hcel wr (nb_refl _)
      have hs1 := hcel wr.drew (nb_drew (nb_refl _))
      unfold Cells8 at hs1
      clear hcel hx
      go_wp2_with fail
      go_region_held3 (fun W => W.cell? ⟨g, t * 4, none⟩ = some (.int .i64 x.num) ∧ W.cell? ⟨g, t * 4 + 1, none⟩ = some (.string x.name) ∧ W.cell? ⟨g, t * 4 + 2, none⟩ = some (.string x.safe) ∧ W.cell? ⟨g, t * 4 + 3, none⟩ = some x.ov ∧ W.cell? ⟨g, M * 4, none⟩ = some (.int .i64 y.num) ∧ W.cell? ⟨g, M * 4 + 1, none⟩ = some (.string y.name) ∧ W.cell? ⟨g, M * 4 + 2, none⟩ = some (.string y.safe) ∧ W.cell? ⟨g, M * 4 + 3, none⟩ = some y.ov)
        (first | exact hs1 | exact HCEL.out _ (nb_refl _) | exact HCEL.out _ N2)
        (first | (go_at_call 51; refine (cmp_any y x _).mono ?_; rintro e w2 ⟨rfl, hb2⟩; have N2 := below_then (nb_drew (nb_refl wr)) hb2) | fail)
      have HW2 := Lib.hid (how.out.below N2)
      have HG2 := Lib.hid (grown_trans hgr.out (below_grownBy (row := some g) N2))
      clear c0 c1 c2 c3 d0 d1 d2 d3 lg hs1 HCEL N2 hb2 how hgr
      by_cases hc : y.num < x.num
      · have hcl : cmpI y.num x.num < 0 := by unfold cmpI; rw [if_pos hc]; decide
        have hcb : (!decide (cmpI y.num x.num < 0)) = false := by simp [hcl]
        rw [hcb]
        go_wp2_with fail
        go_roundw
        case rel =>
          refine ⟨p, t, rfl, rfl, hap, by omega, by omega, ⟨hd.out.1, fun z hz => ?_⟩, HW2.out, HG2.out⟩
          have := rises_drop hrX hxl z hz
          rw [HY.out] at this
          omega
        case measure => simp [intOf]; omega
      · have hcl : ¬ cmpI y.num x.num < 0 := by unfold cmpI; rw [if_neg hc]; split <;> decide
        have hcb : (!decide (cmpI y.num x.num < 0)) = true := by simp [hcl]
        rw [hcb]
        go_wp2_with fail
        go_roundw
        case rel =>
          refine ⟨t + 1, q, by go_num, rfl, by omega, by omega, hqb, ⟨fun z hz => ?_, hd.out.2⟩, HW2.out, HG2.out⟩
          have := rises_take hrX hxl z (by rw [show t - a + 1 = t + 1 - a by omega]; exact hz)
          rw [HY.out] at this
          omega
        case measure => simp [intOf]; omega
    · have hpq2 : q = p := by omega
      subst hpq2
      obtain ⟨m, hm⟩ : ∃ m, q = a + m := ⟨q - a, by omega⟩
      subst hm
      have hmX : m ≤ X.length := by have := HBB.out; omega
      have hd' : (∀ x ∈ X.take m, x.num ≤ y.num) ∧ (∀ x ∈ X.drop m, y.num < x.num) := by
        have h := hd.out
        rw [show a + m - a = m by omega] at h
        exact h
      have HD := Lib.hid hd'
      clear hd hd' hlt
      go_wp2_with fail
      go_loopw [17] (fun i wr => ∃ (t : Nat) (A C : List Sg), i = .int .i64 ((a + m + t : Nat) : Int) ∧ a + m + t ≤ M ∧ Hid (A.length = t ∧ X.drop m = A ++ C) ∧ Hid (OwnS wr B g n cap (P ++ X.take m ++ A ++ y :: (C ++ S))) ∧ Hid (w.grownBy wr (some g))) (fun i _ => (intOf i).toNat)
      case atStart =>
        refine ⟨M - (a + m), X.drop m, [], by go_num, by omega, ⟨by rw [List.length_drop]; have := HBB.out; omega, by simp⟩, ?_, hgr.out⟩
        show OwnS _ _ _ _ _ _
        rw [List.append_assoc P, List.take_append_drop]
        exact how.out
      case round =>
        obtain ⟨t, A, C, rfl, htm, hi, how2, hgr2⟩ := hrel
        by_cases hlt2 : 0 < t
        · obtain ⟨hi1, hi2⟩ := hi.out
          obtain ⟨t', rfl⟩ : ∃ t', t = t' + 1 := ⟨t - 1, by omega⟩
          obtain ⟨A', v, rfl⟩ : ∃ A' v, A = A' ++ [v] := ⟨_, _, (List.dropLast_concat_getLast (l := A) (by intro e; rw [e] at hi1; simp at hi1)).symm⟩
          rw [List.length_append, List.length_singleton] at hi1
          have hPA : (P ++ X.take m ++ A').length = a + m + t' := by simp only [List.length_append, List.length_take, HA.out]; omega
          have e0 : P ++ X.take m ++ (A' ++ [v]) ++ y :: (C ++ S) = (P ++ X.take m ++ A') ++ v :: y :: (C ++ S) := by simp
          have how3 : OwnS wr B g n cap ((P ++ X.take m ++ A') ++ v :: y :: (C ++ S)) := by rw [← e0]; exact how2.out
          obtain ⟨j, hj⟩ : ∃ j, a + m + t' = j := ⟨_, rfl⟩
          rw [hj] at hPA
          rw [show a + m + (t' + 1) = j + 1 by omega]
          have hjm : a + m < j + 1 := by omega
          have HW3 := Lib.hid how3
          have HPA := Lib.hid hPA
          have HJ := Lib.hid hj
          obtain ⟨⟨c0, c1, c2, c3⟩, ⟨d0, d1, d2, d3⟩⟩ := how3.two j hPA
          have f0 := how3.fz (j * 4)
          have f1 := how3.fz (j * 4 + 1)
          have f2 := how3.fz (j * 4 + 2)
          have f3 := how3.fz (j * 4 + 3)
          have e0 := how3.fz ((j + 1) * 4)
          have e1 := how3.fz ((j + 1) * 4 + 1)
          have e2 := how3.fz ((j + 1) * 4 + 2)
          have e3 := how3.fz ((j + 1) * 4 + 3)
          have lg := how3.lt.2
          have b1 : (j : Int) + 1 < (n : Int) := by omega
          have b2 : (j : Int) < (n : Int) := by omega
          have b3 : (a : Int) + (m : Int) < (j : Int) + 1 := by omega
          have b4 : (0 : Int) ≤ (j : Int) + 1 := by omega
          have b5 : ((j : Int) + 1).toNat = j + 1 := by omega
          have w3 : IntKind.i64.wrap ((j : Int) + 1 - 1) = (j : Int) := by rw [show (j : Int) + 1 - 1 = (j : Int) by omega]; exact IntWalk.i64_in _ (by omega)
          have w4 : IntKind.i64.wrap (j : Int) = (j : Int) := IntWalk.i64_in _ (by omega)
          clear how3 hPA hi1 hi2 hj how2
          go_wp2_with fail
          go_region
          have s2 := HW3.out.exch2 j HPA.out
          have s3 := grown8 (w := w) (g := g) hgr2.out ((j + 1) * 4) ((j + 1) * 4 + 1) ((j + 1) * 4 + 2) ((j + 1) * 4 + 3) (j * 4) (j * 4 + 1) (j * 4 + 2) (j * 4 + 3) (.int .i64 v.num) (.string v.name) (.string v.safe) v.ov (.int .i64 y.num) (.string y.name) (.string y.safe) y.ov
          refine round_end s2 s3 ?_
          clear s2 s3 c0 c1 c2 c3 d0 d1 d2 d3 f0 f1 f2 f3 e0 e1 e2 e3 lg
          intro W5 h1 h2
          have H1 := Lib.hid h1
          have H2 := Lib.hid h2
          clear h1 h2
          go_wp2_with fail
          go_roundw
          case rel =>
            obtain ⟨hi1, hi2⟩ := hi.out
            have hj := HJ.out
            rw [List.length_append, List.length_singleton] at hi1
            refine ⟨t', A', v :: C, by rw [hj], by omega, ⟨by omega, by rw [hi2]; simp⟩, ?_, H2.out⟩
            show OwnS _ _ _ _ _ _
            exact H1.out
          case measure => simp [intOf]
        · obtain ⟨hi1, hi2⟩ := hi.out
          obtain rfl : t = 0 := by omega
          have hA0 : A = [] := List.eq_nil_of_length_eq_zero hi1
          subst hA0
          rw [List.nil_append] at hi2
          have hfin : OwnS wr B g n cap (P ++ (X.take m ++ y :: X.drop m) ++ S) := by
            rw [hi2]
            simpa using how2.out
          have HF := Lib.hid hfin
          clear hfin hi1 hi2 how2 how
          go_wp2_with fail
          refine bodyPost_ret (v := .tuple #[]) (results_none rfl _ _ _) rfl ⟨rfl, ⟨_, ?_, ?_, by first | exact HF.out | (rw [← List.append_assoc]; exact HF.out)⟩, hgr2.out⟩
          · exact rises_put (by rw [List.take_append_drop]; exact hrX) HD.out.1 HD.out.2
          · have h1 := keeps_put (A := X.take m) (B := X.drop m) (z := y) HD.out.2
            rwa [List.take_append_drop] at h1
end Go.Proofs.Ytkecjopojnllnaa
