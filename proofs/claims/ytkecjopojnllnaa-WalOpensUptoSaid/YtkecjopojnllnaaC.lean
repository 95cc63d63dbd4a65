/- Two ranges of the row exchanged. -/
import Derived.Test.YtkecjopojnllnaaB
import Derived.BigRegion
namespace Go.Proofs.Ytkecjopojnllnaa
open Go.RowKit Go.Deep Go.Joins

/-- Eight stores into the row. -/
theorem grown8 {w W : World} {g : Nat} (h : w.grownBy W (some g)) (j0 j1 j2 j3 i0 i1 i2 i3 : Nat) (x0 x1 x2 x3 y0 y1 y2 y3 : Value) :
    w.grownBy ((((((((W.setCell ⟨g, j0, none⟩ x0).setCell ⟨g, j1, none⟩ x1).setCell ⟨g, j2, none⟩ x2).setCell ⟨g, j3, none⟩ x3).setCell ⟨g, i0, none⟩ y0).setCell ⟨g, i1, none⟩ y1).setCell ⟨g, i2, none⟩ y2).setCell ⟨g, i3, none⟩ y3) (some g) :=
  grown_set (grown_set (grown_set (grown_set (grown_set (grown_set (grown_set (grown_set h (.inl rfl) _ _) (.inl rfl) _ _) (.inl rfl) _ _) (.inl rfl) _ _) (.inl rfl) _ _) (.inl rfl) _ _) (.inl rfl) _ _) (.inl rfl) _ _
theorem OwnS.drew {w : World} {B g n cap : Nat} {l : List Sg} (h : OwnS w B g n cap l) : OwnS w.drew B g n cap l := h.below (nb_drew (nb_refl _))
theorem round_end {K : Act → World → Prop} {Q : Exit → Act → World → Prop} {m : Nat} {a : Act} {w W : World} {B g n cap : Nat} {l : List Sg} (h1 : OwnS W B g n cap l) (h2 : w.grownBy W (some g))
    (h : ∀ W, OwnS W B g n cap l → w.grownBy W (some g) → Exit.inBlock m (Exit.then K Q) .normal a W) : Exit.inBlock m (Exit.then K Q) .normal a W.drew := h W.drew h1.drew (grown_drew h2)

set_option maxRecDepth 100000 in
set_option maxHeartbeats 1000000 in
theorem swap_any (P X Q Y S : List Sg) (B g n cap : Nat) (c : Value) (w : World) (h : OwnS w B g n cap (P ++ X ++ Q ++ Y ++ S)) (hn : n ≤ 4611686018427387904) (hXY : X.length = Y.length) :
    Calls Try.prog 87 #[.slice (some ⟨g, 0, none⟩) n cap, .int .i64 P.length, .int .i64 ((P.length : Int) + X.length + Q.length), .int .i64 X.length, c] w fun e w' => e = .returned (.tuple #[]) ∧ OwnS w' B g n cap (P ++ Y ++ Q ++ X ++ S) ∧ w.grownBy w' (some g) := by
  have H := Lib.hid h
  have hn1 := h.1
  simp only [List.length_append] at hn1
  have HN1 := Lib.hid hn1
  clear h
  obtain ⟨a, ha⟩ : ∃ a, P.length = a := ⟨_, rfl⟩
  obtain ⟨q, hq⟩ : ∃ q, Q.length = q := ⟨_, rfl⟩
  obtain ⟨m, hm⟩ : ∃ m, X.length = m := ⟨_, rfl⟩
  rw [ha, hq, hm]
  rw [ha, hq, ← hXY, hm] at hn1
  go_enter Try.func87, Try.ntmps87
  go_wp2_with fail
  go_loopw [10] (fun i wr => ∃ (k : Nat) (X1 X2 Y1 Y2 : List Sg), k ≤ m ∧ i = .int .i64 k ∧ Hid (X = X1 ++ X2 ∧ Y = Y1 ++ Y2 ∧ X1.length = k ∧ Y1.length = k) ∧ Hid (OwnS wr B g n cap (P ++ Y1 ++ X2 ++ Q ++ X1 ++ Y2 ++ S)) ∧ Hid (w.grownBy wr (some g))) (fun i _ => m - (intOf i).toNat)
  case atStart =>
    refine ⟨0, [], X, [], Y, Nat.zero_le _, rfl, ⟨rfl, rfl, rfl, rfl⟩, ?_, ⟨rfl, rfl, rfl, Nat.le_refl _, fun _ _ _ => rfl⟩⟩
    show OwnS _ _ _ _ _ _
    simpa using H.out
  case round =>
    obtain ⟨k, X1, X2, Y1, Y2, hk, rfl, hd, how, hgr⟩ := hrel
    by_cases hlt : k < m
    · obtain ⟨hx, hy, hx1, hy1⟩ := hd.out
      have hx2 : X2.length = m - k := by have := congrArg List.length hx; rw [List.length_append] at this; omega
      have hy2 : Y2.length = m - k := by have := congrArg List.length hy; rw [List.length_append] at this; omega
      obtain ⟨x, X3, rfl⟩ : ∃ x X3, X2 = x :: X3 := by cases X2 with | nil => simp at hx2; omega | cons x X3 => exact ⟨x, X3, rfl⟩
      obtain ⟨y, Y3, rfl⟩ : ∃ y Y3, Y2 = y :: Y3 := by cases Y2 with | nil => simp at hy2; omega | cons y Y3 => exact ⟨y, Y3, rfl⟩
      simp only [List.length_cons] at hx2 hy2
      have ecur : P ++ Y1 ++ (x :: X3) ++ Q ++ X1 ++ (y :: Y3) ++ S = (P ++ Y1) ++ x :: ((X3 ++ Q ++ X1) ++ y :: (Y3 ++ S)) := by simp
      have hA : (P ++ Y1).length = a + k := by rw [List.length_append]; omega
      have hBm : (X3 ++ Q ++ X1).length = m - k - 1 + q + k := by simp only [List.length_append]; omega
      obtain ⟨cur, hcur⟩ : ∃ cur, cur = (P ++ Y1) ++ x :: ((X3 ++ Q ++ X1) ++ y :: (Y3 ++ S)) := ⟨_, rfl⟩
      have how1 : OwnS wr B g n cap cur := by rw [hcur, ← ecur]; exact how.out
      have hcl : cur.length = n := how1.1.symm
      have hI : a + k < cur.length := by omega
      have hJ : a + m + q + k < cur.length := by omega
      have gI : cur[a + k] = x := by
        simp only [hcur]
        rw [List.getElem_append_right (by omega)]
        simp [hA]
      have gJ : cur[a + m + q + k] = y := by
        simp only [hcur]
        rw [List.getElem_append_right (by omega)]
        simp only [hA, show a + m + q + k - (a + k) = (m - k - 1 + q + k) + 1 by omega, List.getElem_cons_succ]
        rw [List.getElem_append_right (by omega)]
        simp only [hBm, Nat.sub_self, List.getElem_cons_zero]
      obtain ⟨c0, c1, c2, c3⟩ := how1.at _ hI
      obtain ⟨d0, d1, d2, d3⟩ := how1.at _ hJ
      rw [gI] at c0 c1 c2 c3
      rw [gJ] at d0 d1 d2 d3
      have f0 := how1.fz ((a + k) * 4)
      have f1 := how1.fz ((a + k) * 4 + 1)
      have f2 := how1.fz ((a + k) * 4 + 2)
      have f3 := how1.fz ((a + k) * 4 + 3)
      have e0 := how1.fz ((a + m + q + k) * 4)
      have e1 := how1.fz ((a + m + q + k) * 4 + 1)
      have e2 := how1.fz ((a + m + q + k) * 4 + 2)
      have e3 := how1.fz ((a + m + q + k) * 4 + 3)
      have lg := how1.lt.2
      have w1 : IntKind.i64.wrap ((a : Int) + (k : Int)) = (a : Int) + (k : Int) := IntWalk.i64_in _ (by omega)
      have w2 : IntKind.i64.wrap ((a : Int) + (m : Int) + (q : Int) + (k : Int)) = (a : Int) + (m : Int) + (q : Int) + (k : Int) := IntWalk.i64_in _ (by omega)
      have b1 : (0 : Int) ≤ (a : Int) + (k : Int) := by omega
      have b2 : (a : Int) + (k : Int) < (n : Int) := by omega
      have b3 : (0 : Int) ≤ (a : Int) + (m : Int) + (q : Int) + (k : Int) := by omega
      have b4 : (a : Int) + (m : Int) + (q : Int) + (k : Int) < (n : Int) := by omega
      have n1 : ((a : Int) + (k : Int)).toNat = a + k := by omega
      have n2 : ((a : Int) + (m : Int) + (q : Int) + (k : Int)).toNat = a + m + q + k := by omega
      have hne : (a + k) ≠ a + m + q + k := by omega
      go_wp2_with fail
      go_region
      have s1 := how1.store hI y
      have s2 := s1.store (by rw [List.length_set]; exact hJ) x
      have hsw := swap_lists (P ++ Y1) (X3 ++ Q ++ X1) (Y3 ++ S) x y
      rw [hA, show a + k + 1 + (X3 ++ Q ++ X1).length = a + m + q + k by omega, ← hcur] at hsw
      rw [hsw] at s2
      have s3 := grown8 (w := w) (g := g) hgr.out ((a + k) * 4) ((a + k) * 4 + 1) ((a + k) * 4 + 2) ((a + k) * 4 + 3) ((a + m + q + k) * 4) ((a + m + q + k) * 4 + 1) ((a + m + q + k) * 4 + 2) ((a + m + q + k) * 4 + 3) (.int .i64 y.num) (.string y.name) (.string y.safe) y.ov (.int .i64 x.num) (.string x.name) (.string x.safe) x.ov
      refine round_end s2 s3 ?_
      clear s1 s2 s3 hsw c0 c1 c2 c3 d0 d1 d2 d3 f0 f1 f2 f3 e0 e1 e2 e3 how1 gI gJ lg hgr how
      intro W5 h1 h2
      have H1 := Lib.hid h1
      have H2 := Lib.hid h2
      clear h1 h2
      go_wp2_with fail
      go_roundw
      case rel =>
        refine ⟨k + 1, X1 ++ [x], X3, Y1 ++ [y], Y3, by omega, by go_num, ⟨by rw [hx]; simp, by rw [hy]; simp, by rw [List.length_append, hx1]; rfl, by rw [List.length_append, hy1]; rfl⟩, ?_, H2.out⟩
        have e : P ++ (Y1 ++ [y]) ++ X3 ++ Q ++ (X1 ++ [x]) ++ Y3 ++ S = P ++ Y1 ++ y :: (X3 ++ Q ++ X1 ++ x :: (Y3 ++ S)) := by simp
        show OwnS _ _ _ _ _ _
        rw [e]
        exact H1.out
      case measure => simp [intOf]; omega
    · obtain ⟨hx, hy, hx1, hy1⟩ := hd.out
      have hX2 : X2 = [] := List.eq_nil_of_length_eq_zero (by have := congrArg List.length hx; rw [List.length_append] at this; omega)
      have hY2 : Y2 = [] := List.eq_nil_of_length_eq_zero (by have := congrArg List.length hy; rw [List.length_append] at this; omega)
      subst hX2 hY2
      rw [List.append_nil] at hx hy
      subst hx hy
      have hfin := how.out
      rw [List.append_nil, List.append_nil] at hfin
      have HF := Lib.hid hfin
      clear hfin how
      go_wp2_with fail
      go_end0
      exact ⟨rfl, HF.out, hgr.out⟩
end Go.Proofs.Ytkecjopojnllnaa
