/- The merge in place: one segment ahead of a run. -/
import Derived.Test.YtkecjopojnllnaaF
namespace Go.Proofs.Ytkecjopojnllnaa
open Go.RowKit Go.Deep Go.Joins

theorem rises_take {Y : List Sg} (h : Rises Y) {k : Nat} (hk : k < Y.length) : ∀ y ∈ Y.take (k + 1), y.num ≤ Y[k].num := by
  intro y hy
  have hr : Rises (Y.take k ++ [Y[k]]) := by
    rw [← List.take_succ_eq_append_getElem hk]
    exact List.Pairwise.sublist (List.take_sublist _ _) h
  rw [List.take_succ_eq_append_getElem hk] at hy
  exact last_most hr y hy
theorem rises_drop {Y : List Sg} (h : Rises Y) {k : Nat} (hk : k < Y.length) : ∀ y ∈ Y.drop k, Y[k].num ≤ y.num := by
  intro y hy
  have hr : Rises (Y[k] :: Y.drop (k + 1)) := by
    rw [← List.drop_eq_getElem_cons hk]
    exact List.Pairwise.sublist (List.drop_sublist _ _) h
  rw [List.drop_eq_getElem_cons hk] at hy
  rcases List.mem_cons.1 hy with rfl | hy
  · exact Int.le_refl _
  · exact (List.pairwise_cons.1 hr).1 y hy

theorem rises_mid {A B : List Sg} {z : Sg} (h : Rises (A ++ B)) (hA : ∀ a ∈ A, a.num ≤ z.num) (hB : ∀ b ∈ B, z.num ≤ b.num) : Rises (A ++ z :: B) := by
  unfold Rises at *
  rw [List.pairwise_append] at h ⊢
  obtain ⟨h1, h2, h3⟩ := h
  refine ⟨h1, List.pairwise_cons.2 ⟨hB, h2⟩, fun a ha b hb => ?_⟩
  rcases List.mem_cons.1 hb with rfl | hb
  · exact hA a ha
  · exact h3 a ha b hb
/-- Two places of the row, as its cells. -/
def Cells8 (W : World) (g i j : Nat) (x y : Sg) : Prop :=
  W.cell? ⟨g, i * 4, none⟩ = some (.int .i64 x.num) ∧ W.cell? ⟨g, i * 4 + 1, none⟩ = some (.string x.name) ∧ W.cell? ⟨g, i * 4 + 2, none⟩ = some (.string x.safe) ∧ W.cell? ⟨g, i * 4 + 3, none⟩ = some x.ov ∧
  W.cell? ⟨g, j * 4, none⟩ = some (.int .i64 y.num) ∧ W.cell? ⟨g, j * 4 + 1, none⟩ = some (.string y.name) ∧ W.cell? ⟨g, j * 4 + 2, none⟩ = some (.string y.safe) ∧ W.cell? ⟨g, j * 4 + 3, none⟩ = some y.ov
theorem OwnS.cells8 {w : World} {B g n cap i j : Nat} {l : List Sg} {x y : Sg} (h : OwnS w B g n cap l) (hi : ∃ h : i < l.length, l[i] = x) (hj : ∃ h : j < l.length, l[j] = y) : ∀ W, Below w.heap.size w W → Cells8 W g i j x y := by
  obtain ⟨hi, rfl⟩ := hi
  obtain ⟨hj, rfl⟩ := hj
  intro W hW
  obtain ⟨c0, c1, c2, c3⟩ := h.at i hi
  obtain ⟨d0, d1, d2, d3⟩ := h.at j hj
  exact ⟨below_cell hW c0, below_cell hW c1, below_cell hW c2, below_cell hW c3, below_cell hW d0, below_cell hW d1, below_cell hW d2, below_cell hW d3⟩
theorem at_mid {A C : List Sg} {x : Sg} {i : Nat} (hi : A.length = i) : ∃ h : i < (A ++ x :: C).length, (A ++ x :: C)[i] = x := by
  subst hi
  exact ⟨by simp, by simp⟩

set_option maxRecDepth 100000 in
set_option maxHeartbeats 1000000 in
theorem sym_one (P Y S : List Sg) (x : Sg) (B g n cap a b : Nat) (w : World) (h : OwnS w B g n cap (P ++ x :: (Y ++ S))) (hn : n ≤ 4611686018427387904) (ha : P.length = a) (hb : a + 1 + Y.length = b) (hY : 0 < Y.length) (hrY : Rises Y) :
    Calls Try.prog 78 #[.slice (some ⟨g, 0, none⟩) n cap, .int .i64 a, .int .i64 ((a : Int) + 1), .int .i64 b, cmpV] w fun e w' => e = .returned (.tuple #[]) ∧ (∃ Z, Rises Z ∧ Keeps (x :: Y) Z ∧ OwnS w' B g n cap (P ++ Z ++ S)) ∧ w.grownBy w' (some g) := by
  have H := Lib.hid h
  have hn1 := h.1
  simp only [List.length_append, List.length_cons] at hn1
  clear h
  have w1 : IntKind.i64.wrap ((a : Int) + 1 - (a : Int)) = 1 := by rw [show (a : Int) + 1 - (a : Int) = 1 by omega]; rfl
  have hbn : b ≤ n := by omega
  have hab : a + 1 < b := by omega
  have HA := Lib.hid ha
  have HBB := Lib.hid hb
  clear ha hb hn1
  go_enter Try.func78, Try.ntmps78
  go_wp2_with fail
  go_loopw [10, 11] (fun i j wr => ∃ (p q : Nat), i = .int .i64 (p : Int) ∧ j = .int .i64 (q : Int) ∧ a + 1 ≤ p ∧ p ≤ q ∧ q ≤ b ∧ Hid ((∀ y ∈ Y.take (p - (a + 1)), y.num < x.num) ∧ (∀ y ∈ Y.drop (q - (a + 1)), x.num ≤ y.num)) ∧ Hid (OwnS wr B g n cap (P ++ x :: (Y ++ S))) ∧ Hid (w.grownBy wr (some g))) (fun i j _ => (intOf j).toNat - (intOf i).toNat)
  case atStart =>
    refine ⟨a + 1, b, by go_num, rfl, Nat.le_refl _, by omega, Nat.le_refl _, ⟨fun y hy => by simp at hy, fun y hy => ?_⟩, H.out, ⟨rfl, rfl, rfl, Nat.le_refl _, fun _ _ _ => rfl⟩⟩
    rw [List.drop_eq_nil_of_le (by have := HBB.out; omega)] at hy
    cases hy
  case round =>
    obtain ⟨p, q, rfl, rfl, hap, hpq, hqb, hd, how, hgr⟩ := hrel
    by_cases hlt : p < q
    · have w2 : IntKind.i64.wrap ((p : Int) + (q : Int)) = (p : Int) + (q : Int) := IntWalk.i64_in _ (by omega)
      obtain ⟨t, hh⟩ : ∃ t : Nat, ((p : Int) + (q : Int)) / 2 = (t : Int) := ⟨(p + q) / 2, by omega⟩
      have hpt : p ≤ t := by omega
      have htq : t < q := by omega
      have hyl : t - (a + 1) < Y.length := by have := HBB.out; omega
      obtain ⟨y, hy⟩ : ∃ y, Y[t - (a + 1)] = y := ⟨_, rfl⟩
      have hcel := how.out.cells8 (i := t) (j := a) (x := y) (y := x) (by
        refine ⟨by simp only [List.length_append, List.length_cons]; have := HA.out; omega, ?_⟩
        rw [List.getElem_append_right (by have := HA.out; omega)]
        have e : t - P.length = (t - (a + 1)) + 1 := by have := HA.out; omega
        simp only [e, List.getElem_cons_succ]
        rw [List.getElem_append_left hyl]
        exact hy) (at_mid HA.out)
      have HY := Lib.hid hy
      have HCEL := Lib.hid hcel
      have HHT := Lib.hid hh
      have b1 : (t : Int) < (n : Int) := by omega
      have b2 : (a : Int) < (n : Int) := by omega
      have w3 : IntKind.i64.wrap ((t : Int) + 1) = (t : Int) + 1 := IntWalk.i64_in _ (by omega)
      have lg := how.out.lt.2
      obtain ⟨c0, c1, c2, c3, d0, d1, d2, d3⟩ := hcel wr (nb_refl _)
      have hs1 := hcel wr.drew (nb_drew (nb_refl _))
      unfold Cells8 at hs1
      clear hcel hy
      go_wp2_with fail
      go_region_held3 (fun W => W.cell? ⟨g, t * 4, none⟩ = some (.int .i64 y.num) ∧ W.cell? ⟨g, t * 4 + 1, none⟩ = some (.string y.name) ∧ W.cell? ⟨g, t * 4 + 2, none⟩ = some (.string y.safe) ∧ W.cell? ⟨g, t * 4 + 3, none⟩ = some y.ov ∧ W.cell? ⟨g, a * 4, none⟩ = some (.int .i64 x.num) ∧ W.cell? ⟨g, a * 4 + 1, none⟩ = some (.string x.name) ∧ W.cell? ⟨g, a * 4 + 2, none⟩ = some (.string x.safe) ∧ W.cell? ⟨g, a * 4 + 3, none⟩ = some x.ov)
        (first | exact hs1 | exact HCEL.out _ (nb_refl _) | exact HCEL.out _ N2)
        (first | (go_at_call 51; refine (cmp_any y x _).mono ?_; rintro e w2 ⟨rfl, hb2⟩; have N2 := below_then (nb_drew (nb_refl wr)) hb2) | fail)
      have HW2 := Lib.hid (how.out.below N2)
      have HG2 := Lib.hid (grown_trans hgr.out (below_grownBy (row := some g) N2))
      clear c0 c1 c2 c3 d0 d1 d2 d3 lg hs1 HCEL N2 hb2 how hgr
      by_cases hc : y.num < x.num
      · have hcl : cmpI y.num x.num < 0 := by unfold cmpI; rw [if_pos hc]; decide
        go_wp2_with fail
        go_roundw
        case rel =>
          refine ⟨t + 1, q, by go_num, rfl, by omega, by omega, hqb, ⟨fun z hz => ?_, hd.out.2⟩, HW2.out, HG2.out⟩
          have := rises_take hrY hyl z (by rw [show t - (a + 1) + 1 = t + 1 - (a + 1) by omega]; exact hz)
          rw [HY.out] at this
          omega
        case measure => simp [intOf]; omega
      · have hcl : ¬ cmpI y.num x.num < 0 := by unfold cmpI; rw [if_neg hc]; split <;> decide
        go_wp2_with fail
        go_roundw
        case rel =>
          refine ⟨p, t, rfl, rfl, hap, by omega, by omega, ⟨hd.out.1, fun z hz => ?_⟩, HW2.out, HG2.out⟩
          have := rises_drop hrY hyl z hz
          rw [HY.out] at this
          omega
        case measure => simp [intOf]; omega
    · have hpq2 : q = p := by omega
      subst hpq2
      obtain ⟨m, hm⟩ : ∃ m, q = a + 1 + m := ⟨q - (a + 1), by omega⟩
      subst hm
      have hmY : m ≤ Y.length := by have := HBB.out; omega
      have hd' : (∀ y ∈ Y.take m, y.num < x.num) ∧ (∀ y ∈ Y.drop m, x.num ≤ y.num) := by
        have h := hd.out
        rw [show a + 1 + m - (a + 1) = m by omega] at h
        exact h
      have HD := Lib.hid hd'
      have w2 : IntKind.i64.wrap ((a : Int) + 1 + (m : Int) - 1) = (a : Int) + (m : Int) := by rw [show (a : Int) + 1 + (m : Int) - 1 = (a : Int) + (m : Int) by omega]; exact IntWalk.i64_in _ (by omega)
      clear hd hd' hlt
      go_wp2_with fail
      go_loopw [13] (fun i wr => ∃ (t : Nat) (A C : List Sg), i = .int .i64 ((a + t : Nat) : Int) ∧ t ≤ m ∧ Hid (A.length = t ∧ Y.take m = A ++ C) ∧ Hid (OwnS wr B g n cap (P ++ A ++ x :: (C ++ Y.drop m ++ S))) ∧ Hid (w.grownBy wr (some g))) (fun i _ => a + m - (intOf i).toNat)
      case atStart =>
        refine ⟨0, [], Y.take m, by go_num, Nat.zero_le _, ⟨rfl, rfl⟩, ?_, hgr.out⟩
        show OwnS _ _ _ _ _ _
        rw [List.append_nil, List.take_append_drop]
        exact how.out
      case round =>
        obtain ⟨t, A, C, rfl, htm, hi, how2, hgr2⟩ := hrel
        by_cases hlt2 : t < m
        · obtain ⟨hi1, hi2⟩ := hi.out
          obtain ⟨y, C', rfl⟩ : ∃ y C', C = y :: C' := by
            cases C with
            | nil => have := congrArg List.length hi2; simp at this; omega
            | cons y C' => exact ⟨y, C', rfl⟩
          have hPA : (P ++ A).length = a + t := by rw [List.length_append, HA.out, hi1]
          have e0 : P ++ A ++ x :: (y :: C' ++ Y.drop m ++ S) = (P ++ A) ++ x :: y :: (C' ++ Y.drop m ++ S) := by simp
          have how3 : OwnS wr B g n cap ((P ++ A) ++ x :: y :: (C' ++ Y.drop m ++ S)) := by rw [← e0]; exact how2.out
          obtain ⟨j, hj⟩ : ∃ j, a + t = j := ⟨_, rfl⟩
          rw [hj] at hPA ⊢
          have hjm : j < a + m := by omega
          have HW3 := Lib.hid how3
          have HPA := Lib.hid hPA
          have HJ := Lib.hid hj
          obtain ⟨⟨c0, c1, c2, c3⟩, ⟨d0, d1, d2, d3⟩⟩ := how3.two j hPA
          have f0 := how3.fz (j * 4)
          have f1 := how3.fz (j * 4 + 1)
          have f2 := how3.fz (j * 4 + 2)
          have f3 := how3.fz (j * 4 + 3)
          have e0 := how3.fz ((j + 1) * 4)
          have e1 := how3.fz ((j + 1) * 4 + 1)
          have e2 := how3.fz ((j + 1) * 4 + 2)
          have e3 := how3.fz ((j + 1) * 4 + 3)
          have lg := how3.lt.2
          have hlen := how3.1
          simp only [List.length_append, List.length_cons] at hlen
          have b1 : (j : Int) + 1 < (n : Int) := by simp only [List.length_append] at hPA; omega
          have b2 : (j : Int) < (n : Int) := by omega
          have b3 : (j : Int) < (a : Int) + (m : Int) := by omega
          have b4 : (0 : Int) ≤ (j : Int) + 1 := by omega
          have b5 : ((j : Int) + 1).toNat = j + 1 := by omega
          have w3 : IntKind.i64.wrap ((j : Int) + 1) = (j : Int) + 1 := IntWalk.i64_in _ (by omega)
          clear how3 hPA hi1 hi2 hlen hj how2
          go_wp2_with fail
          go_region
          have s2 := HW3.out.exch j HPA.out
          have s3 := grown8 (w := w) (g := g) hgr2.out (j * 4) (j * 4 + 1) (j * 4 + 2) (j * 4 + 3) ((j + 1) * 4) ((j + 1) * 4 + 1) ((j + 1) * 4 + 2) ((j + 1) * 4 + 3) (.int .i64 y.num) (.string y.name) (.string y.safe) y.ov (.int .i64 x.num) (.string x.name) (.string x.safe) x.ov
          refine round_end s2 s3 ?_
          clear s2 s3 c0 c1 c2 c3 d0 d1 d2 d3 f0 f1 f2 f3 e0 e1 e2 e3 lg
          intro W5 h1 h2
          have H1 := Lib.hid h1
          have H2 := Lib.hid h2
          clear h1 h2
          go_wp2_with fail
          go_roundw
          case rel =>
            obtain ⟨hi1, hi2⟩ := hi.out
            have hj := HJ.out
            refine ⟨t + 1, A ++ [y], C', by rw [← hj]; go_num, by omega, ⟨by rw [List.length_append, hi1]; rfl, by rw [hi2]; simp⟩, ?_, H2.out⟩
            have e : P ++ (A ++ [y]) ++ x :: (C' ++ Y.drop m ++ S) = (P ++ A) ++ y :: x :: (C' ++ Y.drop m ++ S) := by simp
            show OwnS _ _ _ _ _ _
            rw [e]
            exact H1.out
          case measure => simp [intOf]; omega
        · obtain ⟨hi1, hi2⟩ := hi.out
          have htm2 : t = m := by omega
          have hC : C = [] := by
            have := congrArg List.length hi2
            rw [List.length_take, List.length_append] at this
            exact List.eq_nil_of_length_eq_zero (by omega)
          subst hC
          rw [List.append_nil] at hi2
          have hfin : OwnS wr B g n cap (P ++ (Y.take m ++ x :: Y.drop m) ++ S) := by
            rw [hi2]
            simpa using how2.out
          have HF := Lib.hid hfin
          have b3 : ¬ (a : Int) + (t : Int) < (a : Int) + (m : Int) := by omega
          clear hfin hi1 hi2 how2 how htm2
          go_wp2_with fail
          refine bodyPost_ret (v := .tuple #[]) (results_none rfl _ _ _) rfl ⟨rfl, ⟨_, ?_, ?_, by first | exact HF.out | (rw [← List.append_assoc]; exact HF.out)⟩, hgr2.out⟩
          · exact rises_mid (by rw [List.take_append_drop]; exact hrY) (fun z hz => Int.le_of_lt (HD.out.1 z hz)) HD.out.2
          · have h1 : Keeps ([x] ++ Y.take m) (Y.take m ++ [x]) := Keeps.swap fun z hz y hy => by
              rw [List.mem_singleton] at hz
              subst hz
              have := HD.out.1 y hy
              omega
            have h2 := h1.append (Keeps.refl (Y.drop m))
            simpa [List.take_append_drop] using h2
end Go.Proofs.Ytkecjopojnllnaa
