/- The merge in place: one segment behind a run. -/
import Derived.Test.YtkecjopojnllnaaM01
import Derived.BigRegion
namespace Go.Proofs.Ytkecjopojnllnaa
open Go.RowKit Go.Deep Go.Joins

/-- A segment, as it lies in memory. -/
structure Sg where
  num : Int
  name : ByteArray
  safe : ByteArray
  op : Option Addr
  ol : Nat
  oc : Nat
abbrev Sg.ov (s : Sg) : Value := .slice s.op s.ol s.oc
def Sg.cells (s : Sg) : List Value := [.int .i64 s.num, .string s.name, .string s.safe, s.ov]
def Sg.val (s : Sg) : Value := .agg #[.int .i64 s.num, .string s.name, .string s.safe, s.ov]
def segCells (l : List Sg) : List Value := l.flatMap Sg.cells
theorem segCells_nil : segCells [] = [] := rfl
theorem segCells_cons (x : Sg) (l : List Sg) : segCells (x :: l) = .int .i64 x.num :: .string x.name :: .string x.safe :: x.ov :: segCells l := rfl
theorem segCells_append (a b : List Sg) : segCells (a ++ b) = segCells a ++ segCells b := by simp [segCells]
theorem segCells_length (l : List Sg) : (segCells l).length = l.length * 4 := by
  induction l with
  | nil => rfl
  | cons x l ih => rw [segCells_cons]; simp only [List.length_cons, ih]; omega
theorem segCells_get (l : List Sg) (k : Nat) (h : k < l.length) :
    (segCells l)[k * 4]? = some (.int .i64 l[k].num) ∧ (segCells l)[k * 4 + 1]? = some (.string l[k].name) ∧ (segCells l)[k * 4 + 2]? = some (.string l[k].safe) ∧ (segCells l)[k * 4 + 3]? = some l[k].ov := by
  induction l generalizing k with
  | nil => simp at h
  | cons x l ih =>
    rw [segCells_cons]
    cases k with
    | zero => simp
    | succ k =>
      have := ih k (by simpa using h)
      rw [show (k + 1) * 4 = k * 4 + 1 + 1 + 1 + 1 by omega]
      simpa using this
theorem segCells_set (l : List Sg) (k : Nat) (r : Sg) (h : k < l.length) :
    ((((segCells l).set (k * 4) (.int .i64 r.num)).set (k * 4 + 1) (.string r.name)).set (k * 4 + 2) (.string r.safe)).set (k * 4 + 3) r.ov = segCells (l.set k r) := by
  induction l generalizing k with
  | nil => simp at h
  | cons x l ih =>
    cases k with
    | zero => rfl
    | succ k =>
      have h0 := ih k (by simpa using h)
      have e : ∀ (L : List Value) (j : Nat) (v : Value), (.int .i64 x.num :: .string x.name :: .string x.safe :: x.ov :: L : List Value).set (j + 4) v = .int .i64 x.num :: .string x.name :: .string x.safe :: x.ov :: L.set j v := fun _ _ _ => rfl
      rw [segCells_cons, show (k + 1) * 4 = k * 4 + 4 by omega, show k * 4 + 4 + 1 = (k * 4 + 1) + 4 by omega, show k * 4 + 4 + 2 = (k * 4 + 2) + 4 by omega, show k * 4 + 4 + 3 = (k * 4 + 3) + 4 by omega, e, e, e, e, h0]
      rfl
/-- The row of segments that the call owns. -/
def OwnS (w : World) (B g n cap : Nat) (l : List Sg) : Prop := n = l.length ∧ w.ownsRow B 84 4 (.slice (some ⟨g, 0, none⟩) n cap) n (segCells l)
theorem OwnS.at {w : World} {B g n cap : Nat} {l : List Sg} (h : OwnS w B g n cap l) (k : Nat) (hk : k < l.length) :
    w.cell? ⟨g, k * 4, none⟩ = some (.int .i64 l[k].num) ∧ w.cell? ⟨g, k * 4 + 1, none⟩ = some (.string l[k].name) ∧ w.cell? ⟨g, k * 4 + 2, none⟩ = some (.string l[k].safe) ∧ w.cell? ⟨g, k * 4 + 3, none⟩ = some l[k].ov := by
  obtain ⟨h1, h2⟩ := h
  obtain ⟨g0, g1, g2, g3⟩ := segCells_get l k hk
  have hl := segCells_length l
  refine ⟨?_, ?_, ?_, ?_⟩
  · rw [h2.cellAt _ (by omega)]; exact g0
  · rw [h2.cellAt _ (by omega)]; exact g1
  · rw [h2.cellAt _ (by omega)]; exact g2
  · rw [h2.cellAt _ (by omega)]; exact g3
theorem OwnS.fz {w : World} {B g n cap : Nat} {l : List Sg} (h : OwnS w B g n cap l) (j : Nat) : w.frozen? ⟨g, j, none⟩ = false := h.2.frozenAt j
theorem OwnS.lt {w : World} {B g n cap : Nat} {l : List Sg} (h : OwnS w B g n cap l) : B ≤ g ∧ g < w.heap.size := h.2.lt g rfl
theorem OwnS.below {w w' : World} {B g n cap : Nat} {l : List Sg} (h : OwnS w B g n cap l) (hb : Below w.heap.size w w') : OwnS w' B g n cap l := ⟨h.1, owns_below h.2 hb⟩
theorem OwnS.store {w : World} {B g n cap k : Nat} {l : List Sg} (h : OwnS w B g n cap l) (hk : k < l.length) (r : Sg) :
    OwnS ((((w.setCell ⟨g, k * 4, none⟩ (.int .i64 r.num)).setCell ⟨g, k * 4 + 1, none⟩ (.string r.name)).setCell ⟨g, k * 4 + 2, none⟩ (.string r.safe)).setCell ⟨g, k * 4 + 3, none⟩ r.ov) B g n cap (l.set k r) := by
  obtain ⟨h1, h2⟩ := h
  refine ⟨by rw [List.length_set]; exact h1, ?_⟩
  rw [← segCells_set l k r hk]
  exact ((((h2.stored (k * 4) _).1.stored (k * 4 + 1) _).1.stored (k * 4 + 2) _).1.stored (k * 4 + 3) _).1

/-- Two places exchanged. -/
theorem swap_lists (A B C : List Sg) (x y : Sg) : ((A ++ x :: (B ++ y :: C)).set A.length y).set (A.length + 1 + B.length) x = A ++ y :: (B ++ x :: C) := by
  rw [List.set_append_right (h := Nat.le_refl _), Nat.sub_self, List.set_cons_zero, List.set_append_right (h := by omega), show A.length + 1 + B.length - A.length = B.length + 1 by omega, List.set_cons_succ, List.set_append_right (h := Nat.le_refl _), Nat.sub_self, List.set_cons_zero]
end Go.Proofs.Ytkecjopojnllnaa
namespace Go.Proofs.Ytkecjopojnllnaa
open Go.RowKit Go.Deep Go.Joins

/-- Eight stores into the row. -/
theorem grown8 {w W : World} {g : Nat} (h : w.grownBy W (some g)) (j0 j1 j2 j3 i0 i1 i2 i3 : Nat) (x0 x1 x2 x3 y0 y1 y2 y3 : Value) :
    w.grownBy ((((((((W.setCell ⟨g, j0, none⟩ x0).setCell ⟨g, j1, none⟩ x1).setCell ⟨g, j2, none⟩ x2).setCell ⟨g, j3, none⟩ x3).setCell ⟨g, i0, none⟩ y0).setCell ⟨g, i1, none⟩ y1).setCell ⟨g, i2, none⟩ y2).setCell ⟨g, i3, none⟩ y3) (some g) :=
  grown_set (grown_set (grown_set (grown_set (grown_set (grown_set (grown_set (grown_set h (.inl rfl) _ _) (.inl rfl) _ _) (.inl rfl) _ _) (.inl rfl) _ _) (.inl rfl) _ _) (.inl rfl) _ _) (.inl rfl) _ _) (.inl rfl) _ _
theorem OwnS.drew {w : World} {B g n cap : Nat} {l : List Sg} (h : OwnS w B g n cap l) : OwnS w.drew B g n cap l := h.below (nb_drew (nb_refl _))
theorem round_end {K : Act → World → Prop} {Q : Exit → Act → World → Prop} {m : Nat} {a : Act} {w W : World} {B g n cap : Nat} {l : List Sg} (h1 : OwnS W B g n cap l) (h2 : w.grownBy W (some g))
    (h : ∀ W, OwnS W B g n cap l → w.grownBy W (some g) → Exit.inBlock m (Exit.then K Q) .normal a W) : Exit.inBlock m (Exit.then K Q) .normal a W.drew := h W.drew h1.drew (grown_drew h2)

set_option maxRecDepth 100000 in
set_option maxHeartbeats 1000000 in
theorem swap_any (P X Q Y S : List Sg) (B g n cap : Nat) (c : Value) (w : World) (h : OwnS w B g n cap (P ++ X ++ Q ++ Y ++ S)) (hn : n ≤ 4611686018427387904) (hXY : X.length = Y.length) :
    Calls Try.prog 87 #[.slice (some ⟨g, 0, none⟩) n cap, .int .i64 P.length, .int .i64 ((P.length : Int) + X.length + Q.length), .int .i64 X.length, c] w fun e w' => e = .returned (.tuple #[]) ∧ OwnS w' B g n cap (P ++ Y ++ Q ++ X ++ S) ∧ w.grownBy w' (some g) := by
  have H := Lib.hid h
  have hn1 := h.1
  simp only [List.length_append] at hn1
  have HN1 := Lib.hid hn1
  clear h
  obtain ⟨a, ha⟩ : ∃ a, P.length = a := ⟨_, rfl⟩
  obtain ⟨q, hq⟩ : ∃ q, Q.length = q := ⟨_, rfl⟩
  obtain ⟨m, hm⟩ : ∃ m, X.length = m := ⟨_, rfl⟩
  rw [ha, hq, hm]
  rw [ha, hq, ← hXY, hm] at hn1
  go_enter Try.func87, Try.ntmps87
  go_wp2_with fail
  go_loopw [10] (fun i wr => ∃ (k : Nat) (X1 X2 Y1 Y2 : List Sg), k ≤ m ∧ i = .int .i64 k ∧ Hid (X = X1 ++ X2 ∧ Y = Y1 ++ Y2 ∧ X1.length = k ∧ Y1.length = k) ∧ Hid (OwnS wr B g n cap (P ++ Y1 ++ X2 ++ Q ++ X1 ++ Y2 ++ S)) ∧ Hid (w.grownBy wr (some g))) (fun i _ => m - (intOf i).toNat)
  case atStart =>
    refine ⟨0, [], X, [], Y, Nat.zero_le _, rfl, ⟨rfl, rfl, rfl, rfl⟩, ?_, ⟨rfl, rfl, rfl, Nat.le_refl _, fun _ _ _ => rfl⟩⟩
    show OwnS _ _ _ _ _ _
    simpa using H.out
  case round =>
    obtain ⟨k, X1, X2, Y1, Y2, hk, rfl, hd, how, hgr⟩ := hrel
    by_cases hlt : k < m
    · obtain ⟨hx, hy, hx1, hy1⟩ := hd.out
      have hx2 : X2.length = m - k := by have := congrArg List.length hx; rw [List.length_append] at this; omega
      have hy2 : Y2.length = m - k := by have := congrArg List.length hy; rw [List.length_append] at this; omega
      obtain ⟨x, X3, rfl⟩ : ∃ x X3, X2 = x :: X3 := by cases X2 with | nil => simp at hx2; omega | cons x X3 => exact ⟨x, X3, rfl⟩
      obtain ⟨y, Y3, rfl⟩ : ∃ y Y3, Y2 = y :: Y3 := by cases Y2 with | nil => simp at hy2; omega | cons y Y3 => exact ⟨y, Y3, rfl⟩
      simp only [List.length_cons] at hx2 hy2
      have ecur : P ++ Y1 ++ (x :: X3) ++ Q ++ X1 ++ (y :: Y3) ++ S = (P ++ Y1) ++ x :: ((X3 ++ Q ++ X1) ++ y :: (Y3 ++ S)) := by simp
      have hA : (P ++ Y1).length = a + k := by rw [List.length_append]; omega
      have hBm : (X3 ++ Q ++ X1).length = m - k - 1 + q + k := by simp only [List.length_append]; omega
      obtain ⟨cur, hcur⟩ : ∃ cur, cur = (P ++ Y1) ++ x :: ((X3 ++ Q ++ X1) ++ y :: (Y3 ++ S)) := ⟨_, rfl⟩
      have how1 : OwnS wr B g n cap cur := by rw [hcur, ← ecur]; exact how.out
      have hcl : cur.length = n := how1.1.symm
      have hI : a + k < cur.length := by omega
      have hJ : a + m + q + k < cur.length := by omega
      have gI : cur[a + k] = x := by
        simp only [hcur]
        rw [List.getElem_append_right (by omega)]
        simp [hA]
      have gJ : cur[a + m + q + k] = y := by
        simp only [hcur]
        rw [List.getElem_append_right (by omega)]
        simp only [hA, show a + m + q + k - (a + k) = (m - k - 1 + q + k) + 1 by omega, List.getElem_cons_succ]
        rw [List.getElem_append_right (by omega)]
        simp only [hBm, Nat.sub_self, List.getElem_cons_zero]
      obtain ⟨c0, c1, c2, c3⟩ := how1.at _ hI
      obtain ⟨d0, d1, d2, d3⟩ := how1.at _ hJ
      rw [gI] at c0 c1 c2 c3
      rw [gJ] at d0 d1 d2 d3
      have f0 := how1.fz ((a + k) * 4)
      have f1 := how1.fz ((a + k) * 4 + 1)
      have f2 := how1.fz ((a + k) * 4 + 2)
      have f3 := how1.fz ((a + k) * 4 + 3)
      have e0 := how1.fz ((a + m + q + k) * 4)
      have e1 := how1.fz ((a + m + q + k) * 4 + 1)
      have e2 := how1.fz ((a + m + q + k) * 4 + 2)
      have e3 := how1.fz ((a + m + q + k) * 4 + 3)
      have lg := how1.lt.2
      have w1 : IntKind.i64.wrap ((a : Int) + (k : Int)) = (a : Int) + (k : Int) := IntWalk.i64_in _ (by omega)
      have w2 : IntKind.i64.wrap ((a : Int) + (m : Int) + (q : Int) + (k : Int)) = (a : Int) + (m : Int) + (q : Int) + (k : Int) := IntWalk.i64_in _ (by omega)
      have b1 : (0 : Int) ≤ (a : Int) + (k : Int) := by omega
      have b2 : (a : Int) + (k : Int) < (n : Int) := by omega
      have b3 : (0 : Int) ≤ (a : Int) + (m : Int) + (q : Int) + (k : Int) := by omega
      have b4 : (a : Int) + (m : Int) + (q : Int) + (k : Int) < (n : Int) := by omega
      have n1 : ((a : Int) + (k : Int)).toNat = a + k := by omega
      have n2 : ((a : Int) + (m : Int) + (q : Int) + (k : Int)).toNat = a + m + q + k := by omega
      have hne : (a + k) ≠ a + m + q + k := by omega
      go_wp2_with fail
      go_region
      have s1 := how1.store hI y
      have s2 := s1.store (by rw [List.length_set]; exact hJ) x
      have hsw := swap_lists (P ++ Y1) (X3 ++ Q ++ X1) (Y3 ++ S) x y
      rw [hA, show a + k + 1 + (X3 ++ Q ++ X1).length = a + m + q + k by omega, ← hcur] at hsw
      rw [hsw] at s2
      have s3 := grown8 (w := w) (g := g) hgr.out ((a + k) * 4) ((a + k) * 4 + 1) ((a + k) * 4 + 2) ((a + k) * 4 + 3) ((a + m + q + k) * 4) ((a + m + q + k) * 4 + 1) ((a + m + q + k) * 4 + 2) ((a + m + q + k) * 4 + 3) (.int .i64 y.num) (.string y.name) (.string y.safe) y.ov (.int .i64 x.num) (.string x.name) (.string x.safe) x.ov
      refine round_end s2 s3 ?_
      clear s1 s2 s3 hsw c0 c1 c2 c3 d0 d1 d2 d3 f0 f1 f2 f3 e0 e1 e2 e3 how1 gI gJ lg hgr how
      intro W5 h1 h2
      have H1 := Lib.hid h1
      have H2 := Lib.hid h2
      clear h1 h2
      go_wp2_with fail
      go_roundw
      case rel =>
        refine ⟨k + 1, X1 ++ [x], X3, Y1 ++ [y], Y3, by omega, by go_num, ⟨by rw [hx]; simp, by rw [hy]; simp, by rw [List.length_append, hx1]; rfl, by rw [List.length_append, hy1]; rfl⟩, ?_, H2.out⟩
        have e : P ++ (Y1 ++ [y]) ++ X3 ++ Q ++ (X1 ++ [x]) ++ Y3 ++ S = P ++ Y1 ++ y :: (X3 ++ Q ++ X1 ++ x :: (Y3 ++ S)) := by simp
        show OwnS _ _ _ _ _ _
        rw [e]
        exact H1.out
      case measure => simp [intOf]; omega
    · obtain ⟨hx, hy, hx1, hy1⟩ := hd.out
      have hX2 : X2 = [] := List.eq_nil_of_length_eq_zero (by have := congrArg List.length hx; rw [List.length_append] at this; omega)
      have hY2 : Y2 = [] := List.eq_nil_of_length_eq_zero (by have := congrArg List.length hy; rw [List.length_append] at this; omega)
      subst hX2 hY2
      rw [List.append_nil] at hx hy
      subst hx hy
      have hfin := how.out
      rw [List.append_nil, List.append_nil] at hfin
      have HF := Lib.hid hfin
      clear hfin how
      go_wp2_with fail
      go_end0
      exact ⟨rfl, HF.out, hgr.out⟩
end Go.Proofs.Ytkecjopojnllnaa
namespace Go.Proofs.Ytkecjopojnllnaa
open Go.RowKit Go.Deep Go.Joins

theorem grown_trans {a b c : World} {row : Option Nat} (h : a.grownBy b row) (k : b.grownBy c row) : a.grownBy c row :=
  ⟨k.os.trans h.os, k.tape.trans h.tape, k.output.trans h.output, Nat.le_trans h.size k.size, fun j hj hne => (k.block j (Nat.lt_of_lt_of_le hj h.size) hne).trans (h.block j hj hne)⟩

set_option maxRecDepth 100000 in
set_option maxHeartbeats 1000000 in
theorem rotate_any (P U V S : List Sg) (B g n cap a M b : Nat) (c : Value) (w : World) (h : OwnS w B g n cap (P ++ U ++ V ++ S)) (hn : n ≤ 4611686018427387904) (ha : P.length = a) (hM : P.length + U.length = M) (hb : M + V.length = b) (hU : 0 < U.length) (hV : 0 < V.length) :
    Calls Try.prog 83 #[.slice (some ⟨g, 0, none⟩) n cap, .int .i64 a, .int .i64 M, .int .i64 b, c] w fun e w' => e = .returned (.tuple #[]) ∧ OwnS w' B g n cap (P ++ V ++ U ++ S) ∧ w.grownBy w' (some g) := by
  have H := Lib.hid h
  have hn1 := h.1
  simp only [List.length_append] at hn1
  clear h
  have hab : a ≤ M ∧ M ≤ b ∧ b ≤ n ∧ 0 < M - a := by omega
  obtain ⟨hab1, hab2, hab3, hab4⟩ := hab
  have w1 : IntKind.i64.wrap ((M : Int) - (a : Int)) = (M : Int) - (a : Int) := IntWalk.i64_in _ (by omega)
  have w2 : IntKind.i64.wrap ((b : Int) - (M : Int)) = (b : Int) - (M : Int) := IntWalk.i64_in _ (by omega)
  have eU : (M : Int) - (a : Int) = ((U.length : Nat) : Int) := by omega
  have eV : (b : Int) - (M : Int) = ((V.length : Nat) : Int) := by omega
  have HEU := Lib.hid eU
  have HEV := Lib.hid eV
  have HHM := Lib.hid hM
  have hVb : M + V.length ≤ n := by omega
  have hUM : U.length ≤ M := by omega
  clear eU eV hM ha hb hn1
  go_enter Try.func83, Try.ntmps83
  go_wp2_with fail
  go_loopw [10, 11] (fun i j wr => ∃ (x y : Nat) (P' U' V' S' : List Sg), i = .int .i64 x ∧ j = .int .i64 y ∧ 0 < x ∧ 0 < y ∧ x ≤ M ∧ M + y ≤ n ∧ Hid (P'.length + x = M ∧ U'.length = x ∧ V'.length = y ∧ P' ++ V' ++ U' ++ S' = P ++ V ++ U ++ S) ∧ Hid (OwnS wr B g n cap (P' ++ U' ++ V' ++ S')) ∧ Hid (w.grownBy wr (some g))) (fun i j _ => (intOf i).toNat + (intOf j).toNat)
  case atStart =>
    refine ⟨U.length, V.length, P, U, V, S, by rw [HEU.out], by rw [HEV.out], hU, hV, hUM, hVb, ⟨HHM.out, rfl, rfl, rfl⟩, H.out, ⟨rfl, rfl, rfl, Nat.le_refl _, fun _ _ _ => rfl⟩⟩
  case round =>
    obtain ⟨x, y, P', U', V', S', rfl, rfl, hx, hy, hxM, hyM, hd, how, hgr⟩ := hrel
    obtain ⟨hd1, hd2, hd3, hd4⟩ := hd.out
    have w3 : IntKind.i64.wrap ((M : Int) - (x : Int)) = (M : Int) - (x : Int) := IntWalk.i64_in _ (by omega)
    by_cases hxy : x = y
    · subst hxy
      have hcall := swap_any P' U' [] V' S' B g n cap c wr (by simpa using how.out) hn (by omega)
      rw [show ((P'.length : Int)) + U'.length + ([] : List Sg).length = (M : Int) by simp; omega, show ((P'.length : Nat) : Int) = (M : Int) - (x : Int) by omega, hd2] at hcall
      have HC := Lib.hid hcall
      clear hcall hd1 hd2 hd3 hd4
      go_wp2_with (go_at_call 87; refine HC.out.mono ?_; rintro e w2 ⟨rfl, ho2, hg2⟩)
      go_end0
      refine ⟨rfl, ?_, grown_trans hgr.out hg2⟩
      rw [← hd.out.2.2.2]
      simpa using ho2
    · have hne : ((x : Int) == (y : Int)) = false := by rw [beq_eq_false_iff_ne]; omega
      have hne2 : ((x : Int) != (y : Int)) = true := by simp; omega
      by_cases hgt : y < x
      · have hcall := swap_any P' (U'.take y) (U'.drop y) V' S' B g n cap c wr (by rw [show P' ++ U'.take y ++ U'.drop y ++ V' ++ S' = P' ++ U' ++ V' ++ S' by simp]; exact how.out) hn (by rw [List.length_take]; omega)
        have t1 : (U'.take y).length = y := by rw [List.length_take]; omega
        have t2 : (U'.drop y).length = x - y := by rw [List.length_drop]; omega
        rw [t1, t2, show ((P'.length : Int)) + (y : Int) + ((x - y : Nat) : Int) = (M : Int) by omega, show ((P'.length : Nat) : Int) = (M : Int) - (x : Int) by omega] at hcall
        have HC := Lib.hid hcall
        have w4 : IntKind.i64.wrap ((x : Int) - (y : Int)) = (x : Int) - (y : Int) := IntWalk.i64_in _ (by omega)
        have hgt2 : (y : Int) < (x : Int) := by omega
        clear hcall hd1 hd2 hd3 hd4
        go_wp2_with (go_at_call 87; refine HC.out.mono ?_; rintro e w2 ⟨rfl, ho2, hg2⟩; have HO2 := Lib.hid ho2; have HG2 := Lib.hid hg2; clear ho2 hg2)
        go_roundw
        case rel =>
          obtain ⟨hd1, hd2, hd3, hd4⟩ := hd.out
          refine ⟨x - y, y, P' ++ V', U'.drop y, U'.take y, S', by go_num, rfl, by omega, hy, by omega, hyM, ⟨by rw [List.length_append]; omega, t2, t1, ?_⟩, ?_, grown_trans hgr.out HG2.out⟩
          · rw [← hd4]; simp
          · show OwnS _ _ _ _ _ _
            exact HO2.out
        case measure => simp [intOf]; omega
      · have hcall := swap_any P' U' (V'.take (y - x)) (V'.drop (y - x)) S' B g n cap c wr (by rw [show P' ++ U' ++ V'.take (y - x) ++ V'.drop (y - x) ++ S' = P' ++ U' ++ V' ++ S' by simp]; exact how.out) hn (by rw [List.length_drop]; omega)
        have t1 : (V'.take (y - x)).length = y - x := by rw [List.length_take]; omega
        have t2 : (V'.drop (y - x)).length = x := by rw [List.length_drop]; omega
        rw [hd2, t1, show ((P'.length : Int)) + (x : Int) + ((y - x : Nat) : Int) = (M : Int) + (y : Int) - (x : Int) by omega, show ((P'.length : Nat) : Int) = (M : Int) - (x : Int) by omega] at hcall
        have HC := Lib.hid hcall
        have w4 : IntKind.i64.wrap ((y : Int) - (x : Int)) = (y : Int) - (x : Int) := IntWalk.i64_in _ (by omega)
        have w5 : IntKind.i64.wrap ((M : Int) + (y : Int)) = (M : Int) + (y : Int) := IntWalk.i64_in _ (by omega)
        have w6 : IntKind.i64.wrap ((M : Int) + (y : Int) - (x : Int)) = (M : Int) + (y : Int) - (x : Int) := IntWalk.i64_in _ (by omega)
        have hgt2 : ¬ (y : Int) < (x : Int) := by omega
        clear hcall hd1 hd2 hd3 hd4
        go_wp2_with (go_at_call 87; refine HC.out.mono ?_; rintro e w2 ⟨rfl, ho2, hg2⟩; have HO2 := Lib.hid ho2; have HG2 := Lib.hid hg2; clear ho2 hg2)
        go_roundw
        case rel =>
          obtain ⟨hd1, hd2, hd3, hd4⟩ := hd.out
          refine ⟨x, y - x, P', V'.drop (y - x), V'.take (y - x), U' ++ S', rfl, by go_num, hx, by omega, hxM, by omega, ⟨hd1, t2, t1, ?_⟩, ?_, grown_trans hgr.out HG2.out⟩
          · rw [← hd4, List.append_assoc P' (V'.take (y - x)), List.take_append_drop]; simp
          · have e : P' ++ V'.drop (y - x) ++ V'.take (y - x) ++ (U' ++ S') = P' ++ V'.drop (y - x) ++ V'.take (y - x) ++ U' ++ S' := by simp
            show OwnS _ _ _ _ _ _
            rw [e]
            exact HO2.out
        case measure => simp [intOf]; omega
end Go.Proofs.Ytkecjopojnllnaa
namespace Go.Proofs.Ytkecjopojnllnaa
open Go.RowKit Go.Deep Go.Joins

theorem nan_any (x : Int) (w : World) : Calls Try.prog 71 #[.int .i64 x] w fun e w' => e = .returned (.bool false) ∧ w = w' := by
  have h : (x != x) = false := by simp
  go_enter Try.func71, Try.ntmps71
  go_wp2_with fail
  go_ret
  exact ⟨ret_bool (by simp), rfl⟩
def cmpI (x y : Int) : Int := if x < y then -1 else if y < x then 1 else 0
theorem compare_any (x y : Int) (w : World) : Calls Try.prog 52 #[.int .i64 x, .int .i64 y] w fun e w' => e = .returned (.int .i64 (cmpI x y)) ∧ w = w' := by
  unfold cmpI
  by_cases h1 : x < y
  · rw [if_pos h1]
    go_enter Try.func52, Try.ntmps52
    go_wp2_with (go_at_call 71; refine (nan_any _ _).mono ?_; rintro e w1 ⟨rfl, rfl⟩)
    go_ret
    exact ⟨rfl, rfl⟩
  · rw [if_neg h1]
    by_cases h2 : y < x
    · rw [if_pos h2]
      go_enter Try.func52, Try.ntmps52
      go_wp2_with (go_at_call 71; refine (nan_any _ _).mono ?_; rintro e w1 ⟨rfl, rfl⟩)
      go_ret
      exact ⟨rfl, rfl⟩
    · rw [if_neg h2]
      go_enter Try.func52, Try.ntmps52
      go_wp2_with (go_at_call 71; refine (nan_any _ _).mono ?_; rintro e w1 ⟨rfl, rfl⟩)
      go_ret
      exact ⟨rfl, rfl⟩
theorem cmp_any (x y : Sg) (w : World) : Calls Try.prog 51 #[x.val, y.val] w fun e w' => e = .returned (.int .i64 (cmpI x.num y.num)) ∧ Below w.heap.size w w' := by
  unfold Sg.val
  go_enter Try.func51, Try.ntmps51
  go_wp2_with (go_at_call 52; refine (compare_any _ _ _).mono ?_; rintro e w1 ⟨rfl, rfl⟩)
  go_ret
  exact ⟨rfl, below2 w _ _⟩
theorem cmpI_lt (x y : Int) : decide (cmpI x y < 0) = decide (x < y) := by
  unfold cmpI
  by_cases h : x < y
  · simp [h]
  · by_cases h2 : y < x <;> simp [h, h2]
end Go.Proofs.Ytkecjopojnllnaa
namespace Go.Proofs.Ytkecjopojnllnaa
open Go.RowKit Go.Deep Go.Joins

/-- The same segments of each number, in the same order. -/
def Keeps (X Y : List Sg) : Prop := Y.length = X.length ∧ ∀ k : Int, Y.filter (fun s => s.num == k) = X.filter (fun s => s.num == k)
theorem Keeps.refl (X : List Sg) : Keeps X X := ⟨rfl, fun _ => rfl⟩
theorem Keeps.trans {X Y Z : List Sg} (h : Keeps X Y) (k : Keeps Y Z) : Keeps X Z := ⟨k.1.trans h.1, fun j => (k.2 j).trans (h.2 j)⟩
theorem Keeps.append {X Y X' Y' : List Sg} (h : Keeps X Y) (k : Keeps X' Y') : Keeps (X ++ X') (Y ++ Y') := ⟨by rw [List.length_append, List.length_append, h.1, k.1], fun j => by rw [List.filter_append, List.filter_append, h.2, k.2]⟩
theorem Keeps.mem {X Y : List Sg} (h : Keeps X Y) {s : Sg} (hs : s ∈ Y) : s ∈ X := by
  have h1 : s ∈ Y.filter (fun t => t.num == s.num) := List.mem_filter.2 ⟨hs, by simp⟩
  rw [h.2] at h1
  exact (List.mem_filter.1 h1).1
/-- Two blocks that share no number are exchanged. -/
theorem Keeps.swap {X Y : List Sg} (h : ∀ x ∈ X, ∀ y ∈ Y, x.num ≠ y.num) : Keeps (X ++ Y) (Y ++ X) := by
  refine ⟨by simp [Nat.add_comm], fun k => ?_⟩
  rw [List.filter_append, List.filter_append]
  by_cases hx : X.filter (fun s => s.num == k) = []
  · rw [hx]; simp
  · obtain ⟨x, hx'⟩ := List.exists_mem_of_ne_nil _ hx
    have hk := List.mem_filter.1 hx'
    have hy : Y.filter (fun s => s.num == k) = [] := by
      rw [List.filter_eq_nil_iff]
      intro y hy e
      have e1 : x.num = k := by simpa using hk.2
      have e2 : y.num = k := by simpa using e
      exact h x hk.1 y hy (e1.trans e2.symm)
    rw [hy]; simp
def Rises (X : List Sg) : Prop := X.Pairwise (fun s t => s.num ≤ t.num)
/-- One more, put behind all that aren't greater. -/
theorem rises_put {A B : List Sg} {z : Sg} (h : Rises (A ++ B)) (hA : ∀ a ∈ A, a.num ≤ z.num) (hB : ∀ b ∈ B, z.num < b.num) : Rises (A ++ z :: B) := by
  unfold Rises at *
  rw [List.pairwise_append] at h ⊢
  obtain ⟨h1, h2, h3⟩ := h
  refine ⟨h1, List.pairwise_cons.2 ⟨fun b hb => Int.le_of_lt (hB b hb), h2⟩, fun a ha b hb => ?_⟩
  rcases List.mem_cons.1 hb with rfl | hb
  · exact hA a ha
  · exact h3 a ha b hb
theorem keeps_put {A B : List Sg} {z : Sg} (hB : ∀ b ∈ B, z.num < b.num) : Keeps (A ++ B ++ [z]) (A ++ z :: B) := by
  have h : Keeps (B ++ [z]) ([z] ++ B) := Keeps.swap fun x hx y hy => by
    rw [List.mem_singleton] at hy
    subst hy
    have := hB x hx
    omega
  rw [List.append_assoc]
  exact (Keeps.refl A).append h
theorem last_most {A : List Sg} {a : Sg} (h : Rises (A ++ [a])) : ∀ x ∈ A ++ [a], x.num ≤ a.num := by
  intro x hx
  rcases List.mem_append.1 hx with hx | hx
  · exact (List.pairwise_append.1 h).2.2 x hx a (by simp)
  · rw [List.mem_singleton] at hx; subst hx; exact Int.le_refl _

theorem keeps_next {X X1 X3 A C : List Sg} {z : Sg} {a k : Nat} (h3 : z :: X3 = X.drop (k - a)) (h2 : Keeps (X.take (k - a)) X1) (h1 : X1 = A ++ C) (hC : ∀ c ∈ C, z.num < c.num) (hak : a < k) : Keeps (X.take (k + 1 - a)) (A ++ z :: C) := by
  have hlt : k - a < X.length := by
    have := congrArg List.length h3
    rw [List.length_cons, List.length_drop] at this
    omega
  have hz : X[k - a] = z := by
    have := List.drop_eq_getElem_cons hlt
    rw [← h3] at this
    exact (List.cons.inj this).1.symm
  have ht : X.take (k + 1 - a) = X.take (k - a) ++ [z] := by
    rw [show k + 1 - a = (k - a) + 1 by omega, List.take_succ_eq_append_getElem hlt, hz]
  rw [ht]
  refine (h2.append (Keeps.refl [z])).trans ?_
  rw [h1]
  exact keeps_put hC
theorem drop_next {X X3 : List Sg} {z : Sg} {a k : Nat} (h3 : z :: X3 = X.drop (k - a)) (hak : a < k) : X3 = X.drop (k + 1 - a) := by
  rw [show k + 1 - a = (k - a) + 1 by omega, ← List.drop_drop, ← h3]
  rfl

abbrev cmpV : Value := .func (.func 51) #[] #[]

/-- Two neighbours of the row, as its cells. -/
theorem OwnS.two {w : World} {B g n cap : Nat} {A C : List Sg} {x y : Sg} (h : OwnS w B g n cap (A ++ x :: y :: C)) (j : Nat) (hj : A.length = j) :
    (w.cell? ⟨g, j * 4, none⟩ = some (.int .i64 x.num) ∧ w.cell? ⟨g, j * 4 + 1, none⟩ = some (.string x.name) ∧ w.cell? ⟨g, j * 4 + 2, none⟩ = some (.string x.safe) ∧ w.cell? ⟨g, j * 4 + 3, none⟩ = some x.ov) ∧
    (w.cell? ⟨g, (j + 1) * 4, none⟩ = some (.int .i64 y.num) ∧ w.cell? ⟨g, (j + 1) * 4 + 1, none⟩ = some (.string y.name) ∧ w.cell? ⟨g, (j + 1) * 4 + 2, none⟩ = some (.string y.safe) ∧ w.cell? ⟨g, (j + 1) * 4 + 3, none⟩ = some y.ov) := by
  subst hj
  have h1 := h.at A.length (by simp)
  have h2 := h.at (A.length + 1) (by simp)
  have e1 : (A ++ x :: y :: C)[A.length]'(by simp) = x := by simp
  have e2 : (A ++ x :: y :: C)[A.length + 1]'(by simp) = y := by simp
  rw [e1] at h1
  rw [e2] at h2
  exact ⟨h1, h2⟩
theorem OwnS.exch {w : World} {B g n cap : Nat} {A C : List Sg} {x y : Sg} (h : OwnS w B g n cap (A ++ x :: y :: C)) (j : Nat) (hj : A.length = j) :
    OwnS ((((((((w.setCell ⟨g, j * 4, none⟩ (.int .i64 y.num)).setCell ⟨g, j * 4 + 1, none⟩ (.string y.name)).setCell ⟨g, j * 4 + 2, none⟩ (.string y.safe)).setCell ⟨g, j * 4 + 3, none⟩ y.ov).setCell ⟨g, (j + 1) * 4, none⟩ (.int .i64 x.num)).setCell ⟨g, (j + 1) * 4 + 1, none⟩ (.string x.name)).setCell ⟨g, (j + 1) * 4 + 2, none⟩ (.string x.safe)).setCell ⟨g, (j + 1) * 4 + 3, none⟩ x.ov) B g n cap (A ++ y :: x :: C) := by
  subst hj
  have s1 := h.store (k := A.length) (by simp) y
  have s2 := s1.store (k := A.length + 1) (by simp) x
  have hsw := swap_lists A [] C x y
  simp only [List.nil_append, List.length_nil, Nat.add_zero] at hsw
  rw [hsw] at s2
  exact s2
theorem OwnS.exch2 {w : World} {B g n cap : Nat} {A C : List Sg} {x y : Sg} (h : OwnS w B g n cap (A ++ x :: y :: C)) (j : Nat) (hj : A.length = j) :
    OwnS ((((((((w.setCell ⟨g, (j + 1) * 4, none⟩ (.int .i64 x.num)).setCell ⟨g, (j + 1) * 4 + 1, none⟩ (.string x.name)).setCell ⟨g, (j + 1) * 4 + 2, none⟩ (.string x.safe)).setCell ⟨g, (j + 1) * 4 + 3, none⟩ x.ov).setCell ⟨g, j * 4, none⟩ (.int .i64 y.num)).setCell ⟨g, j * 4 + 1, none⟩ (.string y.name)).setCell ⟨g, j * 4 + 2, none⟩ (.string y.safe)).setCell ⟨g, j * 4 + 3, none⟩ y.ov) B g n cap (A ++ y :: x :: C) := by
  subst hj
  have s1 := h.store (k := A.length + 1) (by simp) x
  have s2 := s1.store (k := A.length) (by simp) y
  have e : ((A ++ x :: y :: C).set (A.length + 1) x).set A.length y = A ++ y :: x :: C := by
    rw [List.set_append_right (h := by omega), List.set_append_right (h := Nat.le_refl _)]
    simp
  rw [e] at s2
  exact s2

set_option maxRecDepth 100000 in
set_option maxHeartbeats 1000000 in
theorem insertion_any (P X S : List Sg) (B g n cap a b : Nat) (w : World) (h : OwnS w B g n cap (P ++ X ++ S)) (hn : n ≤ 4611686018427387904) (ha : P.length = a) (hb : a + X.length = b) :
    Calls Try.prog 77 #[.slice (some ⟨g, 0, none⟩) n cap, .int .i64 a, .int .i64 b, cmpV] w fun e w' => e = .returned (.tuple #[]) ∧ (∃ X', Rises X' ∧ Keeps X X' ∧ OwnS w' B g n cap (P ++ X' ++ S)) ∧ w.grownBy w' (some g) := by
  have H := Lib.hid h
  have hn1 := h.1
  simp only [List.length_append] at hn1
  clear h
  have w1 : IntKind.i64.wrap ((a : Int) + 1) = (a : Int) + 1 := IntWalk.i64_in _ (by omega)
  have hbn : b ≤ n := by omega
  have hab : a ≤ b := by omega
  have HA := Lib.hid ha
  have HBB := Lib.hid hb
  clear ha hb hn1
  go_enter Try.func77, Try.ntmps77
  go_wp2_with fail
  go_loopw [8] (fun i wr => ∃ (k : Nat) (X1 X2 : List Sg), i = .int .i64 (k : Int) ∧ a < k ∧ k ≤ b + 1 ∧ Hid (Rises X1 ∧ Keeps (X.take (k - a)) X1 ∧ X2 = X.drop (k - a)) ∧ Hid (OwnS wr B g n cap (P ++ X1 ++ X2 ++ S)) ∧ Hid (w.grownBy wr (some g))) (fun i _ => b - (intOf i).toNat)
  case atStart =>
    refine ⟨a + 1, X.take 1, X.drop 1, by go_num, by omega, by omega, ⟨?_, ?_, ?_⟩, ?_, ⟨rfl, rfl, rfl, Nat.le_refl _, fun _ _ _ => rfl⟩⟩
    · unfold Rises
      cases X with
      | nil => simp
      | cons x X => simp
    · rw [show a + 1 - a = 1 by omega]; exact Keeps.refl _
    · rw [show a + 1 - a = 1 by omega]
    · show OwnS _ _ _ _ _ _
      rw [List.append_assoc P, List.take_append_drop]
      exact H.out
  case round =>
    obtain ⟨k, X1, X2, rfl, hak, hkb, hd, how, hgr⟩ := hrel
    obtain ⟨wo, hwo⟩ : ∃ wo, wo = wr := ⟨_, rfl⟩
    subst hwo
    by_cases hlt : k < b
    · obtain ⟨hd1, hd2, hd3⟩ := hd.out
      have hl1 : X1.length = k - a := by rw [hd2.1, List.length_take]; have := HBB.out; omega
      obtain ⟨z, X3, rfl⟩ : ∃ z X3, X2 = z :: X3 := by
        cases X2 with
        | nil => have := congrArg List.length hd3; rw [List.length_nil, List.length_drop] at this; have := HBB.out; omega
        | cons z X3 => exact ⟨z, X3, rfl⟩
      have HD3 := Lib.hid hd3
      have HL1 := Lib.hid hl1
      clear hd1 hd2 hd3 hl1
      go_wp2_with fail
      go_loopw [9] (fun j wr => ∃ (m : Nat) (A C : List Sg), j = .int .i64 (m : Int) ∧ a ≤ m ∧ m ≤ k ∧ Hid (A.length = m - a ∧ X1 = A ++ C ∧ ∀ c ∈ C, z.num < c.num) ∧ Hid (OwnS wr B g n cap (P ++ A ++ z :: (C ++ X3 ++ S))) ∧ Hid (w.grownBy wr (some g))) (fun j _ => (intOf j).toNat)
      case atStart =>
        refine ⟨k, X1, [], rfl, by omega, Nat.le_refl _, ⟨HL1.out, by simp, fun c hc => by cases hc⟩, ?_, hgr.out⟩
        show OwnS _ _ _ _ _ _
        simpa using how.out
      case round =>
        obtain ⟨m, A, C, rfl, ham, hmk, hi, how2, hgr2⟩ := hrel
        by_cases hja : a < m
        · obtain ⟨j, rfl⟩ : ∃ j, m = j + 1 := ⟨m - 1, by omega⟩
          obtain ⟨hi1, hi2, hi3⟩ := hi.out
          obtain ⟨A', y, rfl⟩ : ∃ A' y, A = A' ++ [y] := ⟨_, _, (List.dropLast_concat_getLast (l := A) (by intro e; rw [e] at hi1; simp at hi1; omega)).symm⟩
          rw [List.length_append, List.length_singleton] at hi1
          have e0 : P ++ (A' ++ [y]) ++ z :: (C ++ X3 ++ S) = (P ++ A') ++ y :: z :: (C ++ X3 ++ S) := by simp
          have hPA : (P ++ A').length = j := by rw [List.length_append, HA.out]; omega
          have how3 : OwnS wr B g n cap ((P ++ A') ++ y :: z :: (C ++ X3 ++ S)) := by rw [← e0]; exact how2.out
          have HW3 := Lib.hid how3
          have HPA := Lib.hid hPA
          have HI := hi
          obtain ⟨⟨c0, c1, c2, c3⟩, ⟨d0, d1, d2, d3⟩⟩ := how3.two j hPA
          have lg := how3.lt.2
          have hnj : j + 1 < n := by have := how3.1; simp only [List.length_append, List.length_cons] at this; rw [List.length_append] at hPA; omega
          have b1 : (a : Int) < (j : Int) + 1 := by omega
          have b2 : (j : Int) + 1 < (n : Int) := by omega
          have b3 : (j : Int) < (n : Int) := by omega
          have b4 : (0 : Int) ≤ (j : Int) + 1 := by omega
          have b5 : ((j : Int) + 1).toNat = j + 1 := by omega
          have w2 : IntKind.i64.wrap ((j : Int) + 1 - 1) = (j : Int) := by rw [show (j : Int) + 1 - 1 = (j : Int) by omega]; exact IntWalk.i64_in _ (by omega)
          have w3 : IntKind.i64.wrap (j : Int) = (j : Int) := IntWalk.i64_in _ (by omega)
          have hS : ∀ W, Below wr.heap.size wr W → W.cell? ⟨g, j * 4, none⟩ = some (.int .i64 y.num) ∧ W.cell? ⟨g, j * 4 + 1, none⟩ = some (.string y.name) ∧ W.cell? ⟨g, j * 4 + 2, none⟩ = some (.string y.safe) ∧ W.cell? ⟨g, j * 4 + 3, none⟩ = some y.ov ∧
              W.cell? ⟨g, (j + 1) * 4, none⟩ = some (.int .i64 z.num) ∧ W.cell? ⟨g, (j + 1) * 4 + 1, none⟩ = some (.string z.name) ∧ W.cell? ⟨g, (j + 1) * 4 + 2, none⟩ = some (.string z.safe) ∧ W.cell? ⟨g, (j + 1) * 4 + 3, none⟩ = some z.ov :=
            fun W hW => ⟨below_cell hW c0, below_cell hW c1, below_cell hW c2, below_cell hW c3, below_cell hW d0, below_cell hW d1, below_cell hW d2, below_cell hW d3⟩
          have HS := Lib.hid hS
          clear hS how3 hPA e0 hi1 hi2 hi3
          go_wp2_with fail
          go_region_held3 (fun W => W.cell? ⟨g, j * 4, none⟩ = some (.int .i64 y.num) ∧ W.cell? ⟨g, j * 4 + 1, none⟩ = some (.string y.name) ∧ W.cell? ⟨g, j * 4 + 2, none⟩ = some (.string y.safe) ∧ W.cell? ⟨g, j * 4 + 3, none⟩ = some y.ov ∧
              W.cell? ⟨g, (j + 1) * 4, none⟩ = some (.int .i64 z.num) ∧ W.cell? ⟨g, (j + 1) * 4 + 1, none⟩ = some (.string z.name) ∧ W.cell? ⟨g, (j + 1) * 4 + 2, none⟩ = some (.string z.safe) ∧ W.cell? ⟨g, (j + 1) * 4 + 3, none⟩ = some z.ov)
            (first | exact HS.out _ (nb_refl _) | exact HS.out _ (nb_drew (nb_refl _)) | exact HS.out _ N2)
            (first | (go_at_call 51; refine (cmp_any z y _).mono ?_; rintro e w2 ⟨rfl, hb2⟩; have N2 := below_then (nb_drew (nb_refl wr)) hb2) | fail)
          have HW2 := Lib.hid (HW3.out.below N2)
          have HG2 := Lib.hid (grown_trans hgr2.out (below_grownBy (row := some g) N2))
          clear c0 c1 c2 c3 d0 d1 d2 d3 lg HS N2 hb2
          by_cases hc : z.num < y.num
          · have hcl : cmpI z.num y.num < 0 := by unfold cmpI; rw [if_pos hc]; decide
            obtain ⟨⟨c0, c1, c2, c3⟩, ⟨d0, d1, d2, d3⟩⟩ := HW2.out.two j HPA.out
            have f0 := HW2.out.fz (j * 4)
            have f1 := HW2.out.fz (j * 4 + 1)
            have f2 := HW2.out.fz (j * 4 + 2)
            have f3 := HW2.out.fz (j * 4 + 3)
            have e0 := HW2.out.fz ((j + 1) * 4)
            have e1 := HW2.out.fz ((j + 1) * 4 + 1)
            have e2 := HW2.out.fz ((j + 1) * 4 + 2)
            have e3 := HW2.out.fz ((j + 1) * 4 + 3)
            have lg2 := HW2.out.lt.2
            clear how2 hgr2 how hgr
            go_wp2_with fail
            go_region
            have s2 := HW2.out.exch2 j HPA.out
            have s3 := grown8 (w := w) (g := g) HG2.out ((j + 1) * 4) ((j + 1) * 4 + 1) ((j + 1) * 4 + 2) ((j + 1) * 4 + 3) (j * 4) (j * 4 + 1) (j * 4 + 2) (j * 4 + 3) (.int .i64 y.num) (.string y.name) (.string y.safe) y.ov (.int .i64 z.num) (.string z.name) (.string z.safe) z.ov
            refine round_end s2 s3 ?_
            clear s2 s3 c0 c1 c2 c3 d0 d1 d2 d3 f0 f1 f2 f3 e0 e1 e2 e3 lg2 HW2 HG2
            intro W5 h1 h2
            have H1 := Lib.hid h1
            have H2 := Lib.hid h2
            clear h1 h2
            go_wp2_with fail
            go_roundw
            case rel =>
              obtain ⟨hi1, hi2, hi3⟩ := HI.out
              rw [List.length_append, List.length_singleton] at hi1
              refine ⟨j, A', y :: C, by go_num, by omega, by omega, ⟨by omega, by rw [hi2]; simp, fun c hcm => ?_⟩, ?_, H2.out⟩
              · rcases List.mem_cons.1 hcm with rfl | hcm
                · exact hc
                · exact hi3 c hcm
              · have e : P ++ A' ++ z :: (y :: C ++ X3 ++ S) = (P ++ A') ++ z :: y :: (C ++ X3 ++ S) := by simp
                show OwnS _ _ _ _ _ _
                rw [e]
                exact H1.out
            case measure => simp [intOf]
          · have hcl : ¬ cmpI z.num y.num < 0 := by unfold cmpI; rw [if_neg hc]; split <;> decide
            clear how2 hgr2 how hgr
            go_wp2_with fail
            go_roundw
            case rel =>
              obtain ⟨hi1, hi2, hi3⟩ := HI.out
              obtain ⟨hd1, hd2, _⟩ := hd.out
              have hr : Rises ((A' ++ [y]) ++ C) := hi2 ▸ hd1
              have hA : ∀ x ∈ A' ++ [y], x.num ≤ z.num := fun x hx => by
                have := last_most (List.pairwise_append.1 hr).1 x hx
                omega
              refine ⟨k + 1, (A' ++ [y]) ++ z :: C, X3, by go_num, by omega, by omega, ⟨rises_put hr hA hi3, ?_, ?_⟩, ?_, HG2.out⟩
              · exact keeps_next HD3.out hd2 hi2 hi3 hak
              · exact drop_next HD3.out hak
              · have e : P ++ (A' ++ [y] ++ z :: C) ++ X3 ++ S = (P ++ A') ++ y :: z :: (C ++ X3 ++ S) := by simp
                show OwnS _ _ _ _ _ _
                rw [e]
                exact HW2.out
            case measure => simp [intOf]; omega
        · have hja2 : ¬ (a : Int) < (m : Int) := by omega
          have HI := hi
          clear how hgr
          go_wp2_with fail
          go_region
          all_goals
            go_wp2_with fail
            go_roundw
            case rel =>
              obtain ⟨hi1, hi2, hi3⟩ := HI.out
              obtain ⟨hd1, hd2, _⟩ := hd.out
              have hA0 : A = [] := List.eq_nil_of_length_eq_zero (by omega)
              subst hA0
              have hr : Rises ([] ++ C) := hi2 ▸ hd1
              refine ⟨k + 1, [] ++ z :: C, X3, by go_num, by omega, by omega, ⟨rises_put hr (fun x hx => by cases hx) hi3, ?_, ?_⟩, ?_, grown_drew hgr2.out⟩
              · exact keeps_next HD3.out hd2 hi2 hi3 hak
              · exact drop_next HD3.out hak
              · have e : P ++ ([] ++ z :: C) ++ X3 ++ S = P ++ [] ++ z :: (C ++ X3 ++ S) := by simp
                show OwnS _ _ _ _ _ _
                rw [e]
                exact how2.out.drew
            case measure => simp [intOf]; omega
    · obtain ⟨hd1, hd2, hd3⟩ := hd.out
      have hX2 : X2 = [] := by rw [hd3, List.drop_eq_nil_iff]; have := HBB.out; omega
      have hX1 : Keeps X X1 := by rw [List.take_of_length_le (by have := HBB.out; omega)] at hd2; exact hd2
      have hfin := how.out
      rw [hX2, List.append_nil] at hfin
      have HF := Lib.hid hfin
      have HX := Lib.hid hX1
      clear hfin hX1 hX2 how hd1 hd2 hd3
      go_wp2_with fail
      go_end0
      exact ⟨rfl, ⟨X1, hd.out.1, HX.out, HF.out⟩, hgr.out⟩
end Go.Proofs.Ytkecjopojnllnaa
namespace Go.Proofs.Ytkecjopojnllnaa
open Go.RowKit Go.Deep Go.Joins

theorem rises_take {Y : List Sg} (h : Rises Y) {k : Nat} (hk : k < Y.length) : ∀ y ∈ Y.take (k + 1), y.num ≤ Y[k].num := by
  intro y hy
  have hr : Rises (Y.take k ++ [Y[k]]) := by
    rw [← List.take_succ_eq_append_getElem hk]
    exact List.Pairwise.sublist (List.take_sublist _ _) h
  rw [List.take_succ_eq_append_getElem hk] at hy
  exact last_most hr y hy
theorem rises_drop {Y : List Sg} (h : Rises Y) {k : Nat} (hk : k < Y.length) : ∀ y ∈ Y.drop k, Y[k].num ≤ y.num := by
  intro y hy
  have hr : Rises (Y[k] :: Y.drop (k + 1)) := by
    rw [← List.drop_eq_getElem_cons hk]
    exact List.Pairwise.sublist (List.drop_sublist _ _) h
  rw [List.drop_eq_getElem_cons hk] at hy
  rcases List.mem_cons.1 hy with rfl | hy
  · exact Int.le_refl _
  · exact (List.pairwise_cons.1 hr).1 y hy

theorem rises_mid {A B : List Sg} {z : Sg} (h : Rises (A ++ B)) (hA : ∀ a ∈ A, a.num ≤ z.num) (hB : ∀ b ∈ B, z.num ≤ b.num) : Rises (A ++ z :: B) := by
  unfold Rises at *
  rw [List.pairwise_append] at h ⊢
  obtain ⟨h1, h2, h3⟩ := h
  refine ⟨h1, List.pairwise_cons.2 ⟨hB, h2⟩, fun a ha b hb => ?_⟩
  rcases List.mem_cons.1 hb with rfl | hb
  · exact hA a ha
  · exact h3 a ha b hb
/-- Two places of the row, as its cells. -/
def Cells8 (W : World) (g i j : Nat) (x y : Sg) : Prop :=
  W.cell? ⟨g, i * 4, none⟩ = some (.int .i64 x.num) ∧ W.cell? ⟨g, i * 4 + 1, none⟩ = some (.string x.name) ∧ W.cell? ⟨g, i * 4 + 2, none⟩ = some (.string x.safe) ∧ W.cell? ⟨g, i * 4 + 3, none⟩ = some x.ov ∧
  W.cell? ⟨g, j * 4, none⟩ = some (.int .i64 y.num) ∧ W.cell? ⟨g, j * 4 + 1, none⟩ = some (.string y.name) ∧ W.cell? ⟨g, j * 4 + 2, none⟩ = some (.string y.safe) ∧ W.cell? ⟨g, j * 4 + 3, none⟩ = some y.ov
theorem OwnS.cells8 {w : World} {B g n cap i j : Nat} {l : List Sg} {x y : Sg} (h : OwnS w B g n cap l) (hi : ∃ h : i < l.length, l[i] = x) (hj : ∃ h : j < l.length, l[j] = y) : ∀ W, Below w.heap.size w W → Cells8 W g i j x y := by
  obtain ⟨hi, rfl⟩ := hi
  obtain ⟨hj, rfl⟩ := hj
  intro W hW
  obtain ⟨c0, c1, c2, c3⟩ := h.at i hi
  obtain ⟨d0, d1, d2, d3⟩ := h.at j hj
  exact ⟨below_cell hW c0, below_cell hW c1, below_cell hW c2, below_cell hW c3, below_cell hW d0, below_cell hW d1, below_cell hW d2, below_cell hW d3⟩
theorem at_mid {A C : List Sg} {x : Sg} {i : Nat} (hi : A.length = i) : ∃ h : i < (A ++ x :: C).length, (A ++ x :: C)[i] = x := by
  subst hi
  exact ⟨by simp, by simp⟩

set_option maxRecDepth 100000 in
set_option maxHeartbeats 1000000 in
theorem sym_one (P Y S : List Sg) (x : Sg) (B g n cap a b : Nat) (w : World) (h : OwnS w B g n cap (P ++ x :: (Y ++ S))) (hn : n ≤ 4611686018427387904) (ha : P.length = a) (hb : a + 1 + Y.length = b) (hY : 0 < Y.length) (hrY : Rises Y) :
    Calls Try.prog 78 #[.slice (some ⟨g, 0, none⟩) n cap, .int .i64 a, .int .i64 ((a : Int) + 1), .int .i64 b, cmpV] w fun e w' => e = .returned (.tuple #[]) ∧ (∃ Z, Rises Z ∧ Keeps (x :: Y) Z ∧ OwnS w' B g n cap (P ++ Z ++ S)) ∧ w.grownBy w' (some g) := by
  have H := Lib.hid h
  have hn1 := h.1
  simp only [List.length_append, List.length_cons] at hn1
  clear h
  have w1 : IntKind.i64.wrap ((a : Int) + 1 - (a : Int)) = 1 := by rw [show (a : Int) + 1 - (a : Int) = 1 by omega]; rfl
  have hbn : b ≤ n := by omega
  have hab : a + 1 < b := by omega
  have HA := Lib.hid ha
  have HBB := Lib.hid hb
  clear ha hb hn1
  go_enter Try.func78, Try.ntmps78
  go_wp2_with fail
  go_loopw [10, 11] (fun i j wr => ∃ (p q : Nat), i = .int .i64 (p : Int) ∧ j = .int .i64 (q : Int) ∧ a + 1 ≤ p ∧ p ≤ q ∧ q ≤ b ∧ Hid ((∀ y ∈ Y.take (p - (a + 1)), y.num < x.num) ∧ (∀ y ∈ Y.drop (q - (a + 1)), x.num ≤ y.num)) ∧ Hid (OwnS wr B g n cap (P ++ x :: (Y ++ S))) ∧ Hid (w.grownBy wr (some g))) (fun i j _ => (intOf j).toNat - (intOf i).toNat)
  case atStart =>
    refine ⟨a + 1, b, by go_num, rfl, Nat.le_refl _, by omega, Nat.le_refl _, ⟨fun y hy => by simp at hy, fun y hy => ?_⟩, H.out, ⟨rfl, rfl, rfl, Nat.le_refl _, fun _ _ _ => rfl⟩⟩
    rw [List.drop_eq_nil_of_le (by have := HBB.out; omega)] at hy
    cases hy
  case round =>
    obtain ⟨p, q, rfl, rfl, hap, hpq, hqb, hd, how, hgr⟩ := hrel
    by_cases hlt : p < q
    · have w2 : IntKind.i64.wrap ((p : Int) + (q : Int)) = (p : Int) + (q : Int) := IntWalk.i64_in _ (by omega)
      obtain ⟨t, hh⟩ : ∃ t : Nat, ((p : Int) + (q : Int)) / 2 = (t : Int) := ⟨(p + q) / 2, by omega⟩
      have hpt : p ≤ t := by omega
      have htq : t < q := by omega
      have hyl : t - (a + 1) < Y.length := by have := HBB.out; omega
      obtain ⟨y, hy⟩ : ∃ y, Y[t - (a + 1)] = y := ⟨_, rfl⟩
      have hcel := how.out.cells8 (i := t) (j := a) (x := y) (y := x) (by
        refine ⟨by simp only [List.length_append, List.length_cons]; have := HA.out; omega, ?_⟩
        rw [List.getElem_append_right (by have := HA.out; omega)]
        have e : t - P.length = (t - (a + 1)) + 1 := by have := HA.out; omega
        simp only [e, List.getElem_cons_succ]
        rw [List.getElem_append_left hyl]
        exact hy) (at_mid HA.out)
      have HY := Lib.hid hy
      have HCEL := Lib.hid hcel
      have HHT := Lib.hid hh
      have b1 : (t : Int) < (n : Int) := by omega
      have b2 : (a : Int) < (n : Int) := by omega
      have w3 : IntKind.i64.wrap ((t : Int) + 1) = (t : Int) + 1 := IntWalk.i64_in _ (by omega)
      have lg := how.out.lt.2
      obtain ⟨c0, c1, c2, c3, d0, d1, d2, d3⟩ := hcel wr (nb_refl _)
      have hs1 := hcel wr.drew (nb_drew (nb_refl _))
      unfold Cells8 at hs1
      clear hcel hy
      go_wp2_with fail
      go_region_held3 (fun W => W.cell? ⟨g, t * 4, none⟩ = some (.int .i64 y.num) ∧ W.cell? ⟨g, t * 4 + 1, none⟩ = some (.string y.name) ∧ W.cell? ⟨g, t * 4 + 2, none⟩ = some (.string y.safe) ∧ W.cell? ⟨g, t * 4 + 3, none⟩ = some y.ov ∧ W.cell? ⟨g, a * 4, none⟩ = some (.int .i64 x.num) ∧ W.cell? ⟨g, a * 4 + 1, none⟩ = some (.string x.name) ∧ W.cell? ⟨g, a * 4 + 2, none⟩ = some (.string x.safe) ∧ W.cell? ⟨g, a * 4 + 3, none⟩ = some x.ov)
        (first | exact hs1 | exact HCEL.out _ (nb_refl _) | exact HCEL.out _ N2)
        (first | (go_at_call 51; refine (cmp_any y x _).mono ?_; rintro e w2 ⟨rfl, hb2⟩; have N2 := below_then (nb_drew (nb_refl wr)) hb2) | fail)
      have HW2 := Lib.hid (how.out.below N2)
      have HG2 := Lib.hid (grown_trans hgr.out (below_grownBy (row := some g) N2))
      clear c0 c1 c2 c3 d0 d1 d2 d3 lg hs1 HCEL N2 hb2 how hgr
      by_cases hc : y.num < x.num
      · have hcl : cmpI y.num x.num < 0 := by unfold cmpI; rw [if_pos hc]; decide
        go_wp2_with fail
        go_roundw
        case rel =>
          refine ⟨t + 1, q, by go_num, rfl, by omega, by omega, hqb, ⟨fun z hz => ?_, hd.out.2⟩, HW2.out, HG2.out⟩
          have := rises_take hrY hyl z (by rw [show t - (a + 1) + 1 = t + 1 - (a + 1) by omega]; exact hz)
          rw [HY.out] at this
          omega
        case measure => simp [intOf]; omega
      · have hcl : ¬ cmpI y.num x.num < 0 := by unfold cmpI; rw [if_neg hc]; split <;> decide
        go_wp2_with fail
        go_roundw
        case rel =>
          refine ⟨p, t, rfl, rfl, hap, by omega, by omega, ⟨hd.out.1, fun z hz => ?_⟩, HW2.out, HG2.out⟩
          have := rises_drop hrY hyl z hz
          rw [HY.out] at this
          omega
        case measure => simp [intOf]; omega
    · have hpq2 : q = p := by omega
      subst hpq2
      obtain ⟨m, hm⟩ : ∃ m, q = a + 1 + m := ⟨q - (a + 1), by omega⟩
      subst hm
      have hmY : m ≤ Y.length := by have := HBB.out; omega
      have hd' : (∀ y ∈ Y.take m, y.num < x.num) ∧ (∀ y ∈ Y.drop m, x.num ≤ y.num) := by
        have h := hd.out
        rw [show a + 1 + m - (a + 1) = m by omega] at h
        exact h
      have HD := Lib.hid hd'
      have w2 : IntKind.i64.wrap ((a : Int) + 1 + (m : Int) - 1) = (a : Int) + (m : Int) := by rw [show (a : Int) + 1 + (m : Int) - 1 = (a : Int) + (m : Int) by omega]; exact IntWalk.i64_in _ (by omega)
      clear hd hd' hlt
      go_wp2_with fail
      go_loopw [13] (fun i wr => ∃ (t : Nat) (A C : List Sg), i = .int .i64 ((a + t : Nat) : Int) ∧ t ≤ m ∧ Hid (A.length = t ∧ Y.take m = A ++ C) ∧ Hid (OwnS wr B g n cap (P ++ A ++ x :: (C ++ Y.drop m ++ S))) ∧ Hid (w.grownBy wr (some g))) (fun i _ => a + m - (intOf i).toNat)
      case atStart =>
        refine ⟨0, [], Y.take m, by go_num, Nat.zero_le _, ⟨rfl, rfl⟩, ?_, hgr.out⟩
        show OwnS _ _ _ _ _ _
        rw [List.append_nil, List.take_append_drop]
        exact how.out
      case round =>
        obtain ⟨t, A, C, rfl, htm, hi, how2, hgr2⟩ := hrel
        by_cases hlt2 : t < m
        · obtain ⟨hi1, hi2⟩ := hi.out
          obtain ⟨y, C', rfl⟩ : ∃ y C', C = y :: C' := by
            cases C with
            | nil => have := congrArg List.length hi2; simp at this; omega
            | cons y C' => exact ⟨y, C', rfl⟩
          have hPA : (P ++ A).length = a + t := by rw [List.length_append, HA.out, hi1]
          have e0 : P ++ A ++ x :: (y :: C' ++ Y.drop m ++ S) = (P ++ A) ++ x :: y :: (C' ++ Y.drop m ++ S) := by simp
          have how3 : OwnS wr B g n cap ((P ++ A) ++ x :: y :: (C' ++ Y.drop m ++ S)) := by rw [← e0]; exact how2.out
          obtain ⟨j, hj⟩ : ∃ j, a + t = j := ⟨_, rfl⟩
          rw [hj] at hPA ⊢
          have hjm : j < a + m := by omega
          have HW3 := Lib.hid how3
          have HPA := Lib.hid hPA
          have HJ := Lib.hid hj
          obtain ⟨⟨c0, c1, c2, c3⟩, ⟨d0, d1, d2, d3⟩⟩ := how3.two j hPA
          have f0 := how3.fz (j * 4)
          have f1 := how3.fz (j * 4 + 1)
          have f2 := how3.fz (j * 4 + 2)
          have f3 := how3.fz (j * 4 + 3)
          have e0 := how3.fz ((j + 1) * 4)
          have e1 := how3.fz ((j + 1) * 4 + 1)
          have e2 := how3.fz ((j + 1) * 4 + 2)
          have e3 := how3.fz ((j + 1) * 4 + 3)
          have lg := how3.lt.2
          have hlen := how3.1
          simp only [List.length_append, List.length_cons] at hlen
          have b1 : (j : Int) + 1 < (n : Int) := by simp only [List.length_append] at hPA; omega
          have b2 : (j : Int) < (n : Int) := by omega
          have b3 : (j : Int) < (a : Int) + (m : Int) := by omega
          have b4 : (0 : Int) ≤ (j : Int) + 1 := by omega
          have b5 : ((j : Int) + 1).toNat = j + 1 := by omega
          have w3 : IntKind.i64.wrap ((j : Int) + 1) = (j : Int) + 1 := IntWalk.i64_in _ (by omega)
          clear how3 hPA hi1 hi2 hlen hj how2
          go_wp2_with fail
          go_region
          have s2 := HW3.out.exch j HPA.out
          have s3 := grown8 (w := w) (g := g) hgr2.out (j * 4) (j * 4 + 1) (j * 4 + 2) (j * 4 + 3) ((j + 1) * 4) ((j + 1) * 4 + 1) ((j + 1) * 4 + 2) ((j + 1) * 4 + 3) (.int .i64 y.num) (.string y.name) (.string y.safe) y.ov (.int .i64 x.num) (.string x.name) (.string x.safe) x.ov
          refine round_end s2 s3 ?_
          clear s2 s3 c0 c1 c2 c3 d0 d1 d2 d3 f0 f1 f2 f3 e0 e1 e2 e3 lg
          intro W5 h1 h2
          have H1 := Lib.hid h1
          have H2 := Lib.hid h2
          clear h1 h2
          go_wp2_with fail
          go_roundw
          case rel =>
            obtain ⟨hi1, hi2⟩ := hi.out
            have hj := HJ.out
            refine ⟨t + 1, A ++ [y], C', by rw [← hj]; go_num, by omega, ⟨by rw [List.length_append, hi1]; rfl, by rw [hi2]; simp⟩, ?_, H2.out⟩
            have e : P ++ (A ++ [y]) ++ x :: (C' ++ Y.drop m ++ S) = (P ++ A) ++ y :: x :: (C' ++ Y.drop m ++ S) := by simp
            show OwnS _ _ _ _ _ _
            rw [e]
            exact H1.out
          case measure => simp [intOf]; omega
        · obtain ⟨hi1, hi2⟩ := hi.out
          have htm2 : t = m := by omega
          have hC : C = [] := by
            have := congrArg List.length hi2
            rw [List.length_take, List.length_append] at this
            exact List.eq_nil_of_length_eq_zero (by omega)
          subst hC
          rw [List.append_nil] at hi2
          have hfin : OwnS wr B g n cap (P ++ (Y.take m ++ x :: Y.drop m) ++ S) := by
            rw [hi2]
            simpa using how2.out
          have HF := Lib.hid hfin
          have b3 : ¬ (a : Int) + (t : Int) < (a : Int) + (m : Int) := by omega
          clear hfin hi1 hi2 how2 how htm2
          go_wp2_with fail
          refine bodyPost_ret (v := .tuple #[]) (results_none rfl _ _ _) rfl ⟨rfl, ⟨_, ?_, ?_, by first | exact HF.out | (rw [← List.append_assoc]; exact HF.out)⟩, hgr2.out⟩
          · exact rises_mid (by rw [List.take_append_drop]; exact hrY) (fun z hz => Int.le_of_lt (HD.out.1 z hz)) HD.out.2
          · have h1 : Keeps ([x] ++ Y.take m) (Y.take m ++ [x]) := Keeps.swap fun z hz y hy => by
              rw [List.mem_singleton] at hz
              subst hz
              have := HD.out.1 y hy
              omega
            have h2 := h1.append (Keeps.refl (Y.drop m))
            simpa [List.take_append_drop] using h2
end Go.Proofs.Ytkecjopojnllnaa
namespace Go.Proofs.Ytkecjopojnllnaa
open Go.RowKit Go.Deep Go.Joins

set_option maxRecDepth 100000 in
set_option maxHeartbeats 1000000 in
theorem sym_last (P X S : List Sg) (y : Sg) (B g n cap a M : Nat) (w : World) (h : OwnS w B g n cap (P ++ X ++ y :: S)) (hn : n ≤ 4611686018427387904) (ha : P.length = a) (hM : a + X.length = M) (hX : 1 < X.length) (hrX : Rises X) :
    Calls Try.prog 78 #[.slice (some ⟨g, 0, none⟩) n cap, .int .i64 a, .int .i64 M, .int .i64 ((M : Int) + 1), cmpV] w fun e w' => e = .returned (.tuple #[]) ∧ (∃ Z, Rises Z ∧ Keeps (X ++ [y]) Z ∧ OwnS w' B g n cap (P ++ Z ++ S)) ∧ w.grownBy w' (some g) := by
  have H := Lib.hid h
  have hn1 := h.1
  simp only [List.length_append, List.length_cons] at hn1
  clear h
  have w0 : IntKind.i64.wrap ((M : Int) - (a : Int)) = (M : Int) - (a : Int) := IntWalk.i64_in _ (by omega)
  have w1 : IntKind.i64.wrap ((M : Int) + 1 - (M : Int)) = 1 := by rw [show (M : Int) + 1 - (M : Int) = 1 by omega]; rfl
  have h1 : ((M : Int) - (a : Int) == 1) = false := by rw [beq_eq_false_iff_ne]; omega
  have h1' : ¬ (M : Int) - (a : Int) = 1 := by omega
  have hbn : M < n := by omega
  have hab : a + 1 < M := by omega
  have HA := Lib.hid ha
  have HBB := Lib.hid hM
  clear ha hM hn1
  go_enter Try.func78, Try.ntmps78
  go_wp2_with fail
  go_loopw [14, 15] (fun i j wr => ∃ (p q : Nat), i = .int .i64 (p : Int) ∧ j = .int .i64 (q : Int) ∧ a ≤ p ∧ p ≤ q ∧ q ≤ M ∧ Hid ((∀ x ∈ X.take (p - a), x.num ≤ y.num) ∧ (∀ x ∈ X.drop (q - a), y.num < x.num)) ∧ Hid (OwnS wr B g n cap (P ++ X ++ y :: S)) ∧ Hid (w.grownBy wr (some g))) (fun i j _ => (intOf j).toNat - (intOf i).toNat)
  case atStart =>
    refine ⟨a, M, rfl, rfl, Nat.le_refl _, by omega, Nat.le_refl _, ⟨fun y hy => by simp at hy, fun y hy => ?_⟩, H.out, ⟨rfl, rfl, rfl, Nat.le_refl _, fun _ _ _ => rfl⟩⟩
    rw [List.drop_eq_nil_of_le (by have := HBB.out; omega)] at hy
    cases hy
  case round =>
    obtain ⟨p, q, rfl, rfl, hap, hpq, hqb, hd, how, hgr⟩ := hrel
    by_cases hlt : p < q
    · have w2 : IntKind.i64.wrap ((p : Int) + (q : Int)) = (p : Int) + (q : Int) := IntWalk.i64_in _ (by omega)
      obtain ⟨t, hh⟩ : ∃ t : Nat, ((p : Int) + (q : Int)) / 2 = (t : Int) := ⟨(p + q) / 2, by omega⟩
      have hpt : p ≤ t := by omega
      have htq : t < q := by omega
      have hxl : t - a < X.length := by have := HBB.out; omega
      obtain ⟨x, hx⟩ : ∃ x, X[t - a] = x := ⟨_, rfl⟩
      have hcel := how.out.cells8 (i := t) (j := M) (x := x) (y := y) (by
        refine ⟨by simp only [List.length_append, List.length_cons]; have := HA.out; omega, ?_⟩
        rw [List.getElem_append_left (by rw [List.length_append]; have := HA.out; omega), List.getElem_append_right (by have := HA.out; omega)]
        have e : t - P.length = t - a := by rw [HA.out]
        simp only [e]
        exact hx) (at_mid (by rw [List.length_append, HA.out]; exact HBB.out))
      have HY := Lib.hid hx
      have HCEL := Lib.hid hcel
      have b1 : (t : Int) < (n : Int) := by omega
      have b2 : (M : Int) < (n : Int) := by omega
      have w3 : IntKind.i64.wrap ((t : Int) + 1) = (t : Int) + 1 := IntWalk.i64_in _ (by omega)
      have lg := how.out.lt.2
      obtain ⟨c0, c1, c2, c3, d0, d1, d2, d3⟩ := hcel wr (nb_refl _)
      have hs1 := hcel wr.drew (nb_drew (nb_refl _))
      unfold Cells8 at hs1
      clear hcel hx
      go_wp2_with fail
      go_region_held3 (fun W => W.cell? ⟨g, t * 4, none⟩ = some (.int .i64 x.num) ∧ W.cell? ⟨g, t * 4 + 1, none⟩ = some (.string x.name) ∧ W.cell? ⟨g, t * 4 + 2, none⟩ = some (.string x.safe) ∧ W.cell? ⟨g, t * 4 + 3, none⟩ = some x.ov ∧ W.cell? ⟨g, M * 4, none⟩ = some (.int .i64 y.num) ∧ W.cell? ⟨g, M * 4 + 1, none⟩ = some (.string y.name) ∧ W.cell? ⟨g, M * 4 + 2, none⟩ = some (.string y.safe) ∧ W.cell? ⟨g, M * 4 + 3, none⟩ = some y.ov)
        (first | exact hs1 | exact HCEL.out _ (nb_refl _) | exact HCEL.out _ N2)
        (first | (go_at_call 51; refine (cmp_any y x _).mono ?_; rintro e w2 ⟨rfl, hb2⟩; have N2 := below_then (nb_drew (nb_refl wr)) hb2) | fail)
      have HW2 := Lib.hid (how.out.below N2)
      have HG2 := Lib.hid (grown_trans hgr.out (below_grownBy (row := some g) N2))
      clear c0 c1 c2 c3 d0 d1 d2 d3 lg hs1 HCEL N2 hb2 how hgr
      by_cases hc : y.num < x.num
      · have hcl : cmpI y.num x.num < 0 := by unfold cmpI; rw [if_pos hc]; decide
        have hcb : (!decide (cmpI y.num x.num < 0)) = false := by simp [hcl]
        rw [hcb]
        go_wp2_with fail
        go_roundw
        case rel =>
          refine ⟨p, t, rfl, rfl, hap, by omega, by omega, ⟨hd.out.1, fun z hz => ?_⟩, HW2.out, HG2.out⟩
          have := rises_drop hrX hxl z hz
          rw [HY.out] at this
          omega
        case measure => simp [intOf]; omega
      · have hcl : ¬ cmpI y.num x.num < 0 := by unfold cmpI; rw [if_neg hc]; split <;> decide
        have hcb : (!decide (cmpI y.num x.num < 0)) = true := by simp [hcl]
        rw [hcb]
        go_wp2_with fail
        go_roundw
        case rel =>
          refine ⟨t + 1, q, by go_num, rfl, by omega, by omega, hqb, ⟨fun z hz => ?_, hd.out.2⟩, HW2.out, HG2.out⟩
          have := rises_take hrX hxl z (by rw [show t - a + 1 = t + 1 - a by omega]; exact hz)
          rw [HY.out] at this
          omega
        case measure => simp [intOf]; omega
    · have hpq2 : q = p := by omega
      subst hpq2
      obtain ⟨m, hm⟩ : ∃ m, q = a + m := ⟨q - a, by omega⟩
      subst hm
      have hmX : m ≤ X.length := by have := HBB.out; omega
      have hd' : (∀ x ∈ X.take m, x.num ≤ y.num) ∧ (∀ x ∈ X.drop m, y.num < x.num) := by
        have h := hd.out
        rw [show a + m - a = m by omega] at h
        exact h
      have HD := Lib.hid hd'
      clear hd hd' hlt
      go_wp2_with fail
      go_loopw [17] (fun i wr => ∃ (t : Nat) (A C : List Sg), i = .int .i64 ((a + m + t : Nat) : Int) ∧ a + m + t ≤ M ∧ Hid (A.length = t ∧ X.drop m = A ++ C) ∧ Hid (OwnS wr B g n cap (P ++ X.take m ++ A ++ y :: (C ++ S))) ∧ Hid (w.grownBy wr (some g))) (fun i _ => (intOf i).toNat)
      case atStart =>
        refine ⟨M - (a + m), X.drop m, [], by go_num, by omega, ⟨by rw [List.length_drop]; have := HBB.out; omega, by simp⟩, ?_, hgr.out⟩
        show OwnS _ _ _ _ _ _
        rw [List.append_assoc P, List.take_append_drop]
        exact how.out
      case round =>
        obtain ⟨t, A, C, rfl, htm, hi, how2, hgr2⟩ := hrel
        by_cases hlt2 : 0 < t
        · obtain ⟨hi1, hi2⟩ := hi.out
          obtain ⟨t', rfl⟩ : ∃ t', t = t' + 1 := ⟨t - 1, by omega⟩
          obtain ⟨A', v, rfl⟩ : ∃ A' v, A = A' ++ [v] := ⟨_, _, (List.dropLast_concat_getLast (l := A) (by intro e; rw [e] at hi1; simp at hi1)).symm⟩
          rw [List.length_append, List.length_singleton] at hi1
          have hPA : (P ++ X.take m ++ A').length = a + m + t' := by simp only [List.length_append, List.length_take, HA.out]; omega
          have e0 : P ++ X.take m ++ (A' ++ [v]) ++ y :: (C ++ S) = (P ++ X.take m ++ A') ++ v :: y :: (C ++ S) := by simp
          have how3 : OwnS wr B g n cap ((P ++ X.take m ++ A') ++ v :: y :: (C ++ S)) := by rw [← e0]; exact how2.out
          obtain ⟨j, hj⟩ : ∃ j, a + m + t' = j := ⟨_, rfl⟩
          rw [hj] at hPA
          rw [show a + m + (t' + 1) = j + 1 by omega]
          have hjm : a + m < j + 1 := by omega
          have HW3 := Lib.hid how3
          have HPA := Lib.hid hPA
          have HJ := Lib.hid hj
          obtain ⟨⟨c0, c1, c2, c3⟩, ⟨d0, d1, d2, d3⟩⟩ := how3.two j hPA
          have f0 := how3.fz (j * 4)
          have f1 := how3.fz (j * 4 + 1)
          have f2 := how3.fz (j * 4 + 2)
          have f3 := how3.fz (j * 4 + 3)
          have e0 := how3.fz ((j + 1) * 4)
          have e1 := how3.fz ((j + 1) * 4 + 1)
          have e2 := how3.fz ((j + 1) * 4 + 2)
          have e3 := how3.fz ((j + 1) * 4 + 3)
          have lg := how3.lt.2
          have b1 : (j : Int) + 1 < (n : Int) := by omega
          have b2 : (j : Int) < (n : Int) := by omega
          have b3 : (a : Int) + (m : Int) < (j : Int) + 1 := by omega
          have b4 : (0 : Int) ≤ (j : Int) + 1 := by omega
          have b5 : ((j : Int) + 1).toNat = j + 1 := by omega
          have w3 : IntKind.i64.wrap ((j : Int) + 1 - 1) = (j : Int) := by rw [show (j : Int) + 1 - 1 = (j : Int) by omega]; exact IntWalk.i64_in _ (by omega)
          have w4 : IntKind.i64.wrap (j : Int) = (j : Int) := IntWalk.i64_in _ (by omega)
          clear how3 hPA hi1 hi2 hj how2
          go_wp2_with fail
          go_region
          have s2 := HW3.out.exch2 j HPA.out
          have s3 := grown8 (w := w) (g := g) hgr2.out ((j + 1) * 4) ((j + 1) * 4 + 1) ((j + 1) * 4 + 2) ((j + 1) * 4 + 3) (j * 4) (j * 4 + 1) (j * 4 + 2) (j * 4 + 3) (.int .i64 v.num) (.string v.name) (.string v.safe) v.ov (.int .i64 y.num) (.string y.name) (.string y.safe) y.ov
          refine round_end s2 s3 ?_
          clear s2 s3 c0 c1 c2 c3 d0 d1 d2 d3 f0 f1 f2 f3 e0 e1 e2 e3 lg
          intro W5 h1 h2
          have H1 := Lib.hid h1
          have H2 := Lib.hid h2
          clear h1 h2
          go_wp2_with fail
          go_roundw
          case rel =>
            obtain ⟨hi1, hi2⟩ := hi.out
            have hj := HJ.out
            rw [List.length_append, List.length_singleton] at hi1
            refine ⟨t', A', v :: C, by rw [hj], by omega, ⟨by omega, by rw [hi2]; simp⟩, ?_, H2.out⟩
            show OwnS _ _ _ _ _ _
            exact H1.out
          case measure => simp [intOf]
        · obtain ⟨hi1, hi2⟩ := hi.out
          obtain rfl : t = 0 := by omega
          have hA0 : A = [] := List.eq_nil_of_length_eq_zero hi1
          subst hA0
          rw [List.nil_append] at hi2
          have hfin : OwnS wr B g n cap (P ++ (X.take m ++ y :: X.drop m) ++ S) := by
            rw [hi2]
            simpa using how2.out
          have HF := Lib.hid hfin
          clear hfin hi1 hi2 how2 how
          go_wp2_with fail
          refine bodyPost_ret (v := .tuple #[]) (results_none rfl _ _ _) rfl ⟨rfl, ⟨_, ?_, ?_, by first | exact HF.out | (rw [← List.append_assoc]; exact HF.out)⟩, hgr2.out⟩
          · exact rises_put (by rw [List.take_append_drop]; exact hrX) HD.out.1 HD.out.2
          · have h1 := keeps_put (A := X.take m) (B := X.drop m) (z := y) HD.out.2
            rwa [List.take_append_drop] at h1
end Go.Proofs.Ytkecjopojnllnaa
