/- The stable sort of segments. -/
import Derived.Test.YtkecjopojnllnaaM02
import Derived.Deep.DeepCutAuto
namespace Go.Proofs.Ytkecjopojnllnaa
open Go.RowKit Go.Deep Go.Joins

def kn (L : List Sg) (i : Nat) : Int := (L[i]?.map Sg.num).getD 0
theorem kn_at {L : List Sg} {i : Nat} (h : i < L.length) : kn L i = L[i].num := by unfold kn; rw [List.getElem?_eq_getElem h]; rfl
theorem split_le {X Y : List Sg} {i j : Nat} (hX : Rises X) (hY : Rises Y) (h : i = 0 ∨ Y.length ≤ j ∨ (0 < i ∧ i ≤ X.length ∧ j < Y.length ∧ kn X (i - 1) ≤ kn Y j)) : ∀ x ∈ X.take i, ∀ y ∈ Y.drop j, x.num ≤ y.num := by
  intro x hx y hy
  rcases h with rfl | h | ⟨h1, h2, h3, h4⟩
  · simp at hx
  · rw [List.drop_eq_nil_of_le h] at hy; cases hy
  · rw [kn_at (by omega), kn_at h3] at h4
    have a1 := rises_take hX (k := i - 1) (by omega) x (by rw [show i - 1 + 1 = i by omega]; exact hx)
    have a2 := rises_drop hY h3 y hy
    omega
theorem split_lt {X Y : List Sg} {i j : Nat} (hX : Rises X) (hY : Rises Y) (h : j = 0 ∨ X.length ≤ i ∨ (0 < j ∧ j ≤ Y.length ∧ i < X.length ∧ kn Y (j - 1) < kn X i)) : ∀ y ∈ Y.take j, ∀ x ∈ X.drop i, y.num < x.num := by
  intro y hy x hx
  rcases h with rfl | h | ⟨h1, h2, h3, h4⟩
  · simp at hy
  · rw [List.drop_eq_nil_of_le h] at hx; cases hx
  · rw [kn_at (by omega), kn_at h3] at h4
    have a1 := rises_take hY (k := j - 1) (by omega) y (by rw [show j - 1 + 1 = j by omega]; exact hy)
    have a2 := rises_drop hX h3 x hx
    omega
theorem rises_part {A B : List Sg} (h : Rises (A ++ B)) : Rises A ∧ Rises B ∧ ∀ a ∈ A, ∀ b ∈ B, a.num ≤ b.num := List.pairwise_append.1 h
theorem rises_join {A B : List Sg} (h1 : Rises A) (h2 : Rises B) (h : ∀ a ∈ A, ∀ b ∈ B, a.num ≤ b.num) : Rises (A ++ B) := List.pairwise_append.2 ⟨h1, h2, h⟩
/-- The two halves, merged, are the whole, merged. -/
theorem sym_plain {X1 X2 Y1 Y2 Z1 Z2 : List Sg} (hX : Rises (X1 ++ X2)) (hY : Rises (Y1 ++ Y2)) (h1 : ∀ x ∈ X1, ∀ y ∈ Y2, x.num ≤ y.num) (h2 : ∀ y ∈ Y1, ∀ x ∈ X2, y.num < x.num)
    (r1 : Rises Z1) (r2 : Rises Z2) (k1 : Keeps (X1 ++ Y1) Z1) (k2 : Keeps (X2 ++ Y2) Z2) : Rises (Z1 ++ Z2) ∧ Keeps ((X1 ++ X2) ++ (Y1 ++ Y2)) (Z1 ++ Z2) := by
  refine ⟨rises_join r1 r2 fun a ha b hb => ?_, ?_⟩
  · rcases List.mem_append.1 (k1.mem ha) with ha | ha <;> rcases List.mem_append.1 (k2.mem hb) with hb | hb
    · exact (rises_part hX).2.2 a ha b hb
    · exact h1 a ha b hb
    · exact Int.le_of_lt (h2 a ha b hb)
    · exact (rises_part hY).2.2 a ha b hb
  · have h3 : Keeps (X2 ++ Y1) (Y1 ++ X2) := Keeps.swap fun x hx y hy => by have := h2 y hy x hx; omega
    have h4 : Keeps (X1 ++ (X2 ++ Y1) ++ Y2) (X1 ++ (Y1 ++ X2) ++ Y2) := ((Keeps.refl X1).append h3).append (Keeps.refl Y2)
    have h5 : Keeps (X1 ++ Y1 ++ (X2 ++ Y2)) (Z1 ++ Z2) := k1.append k2
    have e1 : X1 ++ X2 ++ (Y1 ++ Y2) = X1 ++ (X2 ++ Y1) ++ Y2 := by simp
    have e2 : X1 ++ (Y1 ++ X2) ++ Y2 = X1 ++ Y1 ++ (X2 ++ Y2) := by simp
    rw [e1]
    exact h4.trans (e2 ▸ h5)
theorem at_left {P X Y S : List Sg} {a M c : Nat} (ha : P.length = a) (hM : a + X.length = M) (h1 : a ≤ c) (h2 : c < M) : ∃ h : c < (P ++ X ++ Y ++ S).length, (P ++ X ++ Y ++ S)[c] = X[c - a]'(by omega) := by
  subst ha
  refine ⟨by simp only [List.length_append]; omega, ?_⟩
  rw [List.getElem_append_left (by simp only [List.length_append]; omega), List.getElem_append_left (by simp only [List.length_append]; omega), List.getElem_append_right (by omega)]
theorem at_right {P X Y S : List Sg} {a M b e : Nat} (ha : P.length = a) (hM : a + X.length = M) (hb : M + Y.length = b) (h1 : M ≤ e) (h2 : e < b) : ∃ h : e < (P ++ X ++ Y ++ S).length, (P ++ X ++ Y ++ S)[e] = Y[e - M]'(by omega) := by
  have hl : (P ++ X).length = M := by rw [List.length_append, ha, hM]
  subst hl
  refine ⟨by simp only [List.length_append] at *; omega, ?_⟩
  rw [List.getElem_append_left (by simp only [List.length_append] at *; omega), List.getElem_append_right (by omega)]
/-- What the merge promises of two runs. -/
def SymOf (N : Nat) : Prop := ∀ (P X Y S : List Sg) (B g n cap a M b : Nat) (w : World), X.length + Y.length < N → OwnS w B g n cap (P ++ X ++ Y ++ S) → n ≤ 4611686018427387904 → P.length = a → a + X.length = M → M + Y.length = b → 0 < X.length → 0 < Y.length → Rises X → Rises Y →
  Calls Try.prog 78 #[.slice (some ⟨g, 0, none⟩) n cap, .int .i64 a, .int .i64 M, .int .i64 b, cmpV] w fun e w' => e = .returned (.tuple #[]) ∧ (∃ Z, Rises Z ∧ Keeps (X ++ Y) Z ∧ OwnS w' B g n cap (P ++ Z ++ S)) ∧ w.grownBy w' (some g)
/-- A run ahead of another, in the row: whether there is anything to merge or not. -/
def Merged (w0 : World) (B g n cap : Nat) (P XY S : List Sg) (w : World) : Prop := ∃ Z, Rises Z ∧ Keeps XY Z ∧ OwnS w B g n cap (P ++ Z ++ S) ∧ w0.grownBy w (some g)
end Go.Proofs.Ytkecjopojnllnaa
namespace Go.Proofs.Ytkecjopojnllnaa
open Go.RowKit Go.Deep Go.Joins

/-- Between which numbers the search goes. -/
def SymA (w : World) (a M b mid : Nat) (s r : Value) (wx : World) : Prop :=
  ∃ L0 R0 : Nat, s = .int .i64 (L0 : Int) ∧ r = .int .i64 (R0 : Int) ∧ a ≤ L0 ∧ L0 ≤ R0 ∧ R0 ≤ M ∧ R0 ≤ mid ∧ mid + M ≤ b + L0 ∧ (L0 = a ∨ mid + M = b + L0) ∧ (R0 = M ∨ R0 = mid) ∧ wx = w
def GuardAt (p : Bool) (w : World) (v : Value) (wx : World) : Prop := v = .bool p ∧ wx = w
theorem grown_refl (w : World) (row : Option Nat) : w.grownBy w row := ⟨rfl, rfl, rfl, Nat.le_refl _, fun _ _ _ => rfl⟩
def SymB (w : World) (B g n cap : Nat) (l : List Sg) (_v : Value) (wx : World) : Prop := OwnS wx B g n cap l ∧ w.grownBy wx (some g)
def SymC (w : World) (B g n cap : Nat) (P XY S : List Sg) (_v : Value) (wx : World) : Prop := ∃ Z, Rises Z ∧ Keeps XY Z ∧ OwnS wx B g n cap (P ++ Z ++ S) ∧ w.grownBy wx (some g)

set_option maxRecDepth 100000 in
set_option maxHeartbeats 2000000 in
theorem sym_gen (N : Nat) (ih : SymOf N) (P X Y S : List Sg) (B g n cap a M b : Nat) (w : World) (hN : X.length + Y.length < N + 1) (h : OwnS w B g n cap (P ++ X ++ Y ++ S)) (hn : n ≤ 4611686018427387904) (ha : P.length = a) (hM : a + X.length = M) (hb : M + Y.length = b)
    (hX : 1 < X.length) (hY : 1 < Y.length) (hrX : Rises X) (hrY : Rises Y) :
    Calls Try.prog 78 #[.slice (some ⟨g, 0, none⟩) n cap, .int .i64 a, .int .i64 M, .int .i64 b, cmpV] w fun e w' => e = .returned (.tuple #[]) ∧ (∃ Z, Rises Z ∧ Keeps (X ++ Y) Z ∧ OwnS w' B g n cap (P ++ Z ++ S)) ∧ w.grownBy w' (some g) := by
  have H := Lib.hid h
  have hn1 := h.1
  simp only [List.length_append] at hn1
  clear h
  have haM : a + 2 ≤ M := by omega
  have hMb : M + 2 ≤ b := by omega
  have hbn : b ≤ n := by omega
  obtain ⟨mid, hmid⟩ : ∃ mid : Nat, ((a : Int) + (b : Int)) / 2 = (mid : Int) := ⟨(a + b) / 2, by omega⟩
  have hm1 : 2 * mid ≤ a + b := by omega
  have hm2 : a + b ≤ 2 * mid + 1 := by omega
  have w0 : IntKind.i64.wrap ((M : Int) - (a : Int)) = (M : Int) - (a : Int) := IntWalk.i64_in _ (by omega)
  have w1 : IntKind.i64.wrap ((b : Int) - (M : Int)) = (b : Int) - (M : Int) := IntWalk.i64_in _ (by omega)
  have w2 : IntKind.i64.wrap ((a : Int) + (b : Int)) = (a : Int) + (b : Int) := IntWalk.i64_in _ (by omega)
  have w3 : IntKind.i64.wrap ((mid : Int) + (M : Int)) = (mid : Int) + (M : Int) := IntWalk.i64_in _ (by omega)
  have w4 : IntKind.i64.wrap ((mid : Int) + (M : Int) - 1) = (mid : Int) + (M : Int) - 1 := IntWalk.i64_in _ (by omega)
  have h1 : ((M : Int) - (a : Int) == 1) = false := by rw [beq_eq_false_iff_ne]; omega
  have h1' : ¬ (M : Int) - (a : Int) = 1 := by omega
  have h2 : ((b : Int) - (M : Int) == 1) = false := by rw [beq_eq_false_iff_ne]; omega
  have h2' : ¬ (b : Int) - (M : Int) = 1 := by omega
  have HA := Lib.hid ha
  have HM := Lib.hid hM
  have HBB := Lib.hid hb
  have HIH := Lib.hid ih
  clear ha hM hb hn1 ih
  go_enter Try.func78, Try.ntmps78
  go_upto_if 140 with fail
  go_cut [20, 21] from 138 (SymA w a M b mid)
  case first =>
    by_cases hMm : mid < M
    · have w5 : IntKind.i64.wrap ((mid : Int) + (M : Int) - (b : Int)) = (mid : Int) + (M : Int) - (b : Int) := IntWalk.i64_in _ (by omega)
      have c1 : (mid : Int) < (M : Int) := by omega
      go_wp2_with fail
      go_meet
      exact ⟨mid + M - b, mid, by go_num, rfl, by omega, by omega, by omega, by omega, by omega, .inr (by omega), .inr rfl, rfl⟩
    · have c1 : ¬ (mid : Int) < (M : Int) := by omega
      go_wp2_with fail
      go_meet
      exact ⟨a, M, rfl, rfl, by omega, by omega, by omega, by omega, by omega, .inl rfl, .inl rfl, rfl⟩
  case rest =>
    obtain ⟨L0, R0, rfl, rfl, hL1, hL2, hR1, hR2, hL3, hL4, hR4, hw⟩ := hcut
    have HL4 := Lib.hid hL4
    have HR4 := Lib.hid hR4
    have HW := Lib.hid hw
    clear hL4 hR4 hw
    go_wp2_with fail
    go_loopw [20, 21] (fun s r wr => ∃ p q : Nat, s = .int .i64 (p : Int) ∧ r = .int .i64 (q : Int) ∧ L0 ≤ p ∧ p ≤ q ∧ q ≤ R0 ∧ Hid ((p = L0 ∨ kn X (p - 1 - a) ≤ kn Y (mid - p)) ∧ (q = R0 ∨ kn Y (mid - 1 - q) < kn X (q - a))) ∧ Hid (OwnS wr B g n cap (P ++ X ++ Y ++ S)) ∧ Hid (w.grownBy wr (some g))) (fun s r _ => (intOf r).toNat - (intOf s).toNat)
    case atStart =>
      refine ⟨L0, R0, rfl, rfl, Nat.le_refl _, hL2, Nat.le_refl _, ⟨.inl rfl, .inl rfl⟩, ?_, ?_⟩
      · rw [HW.out]; exact H.out
      · rw [HW.out]; exact ⟨rfl, rfl, rfl, Nat.le_refl _, fun _ _ _ => rfl⟩
    case round =>
      obtain ⟨p, q, rfl, rfl, hLp, hpq, hqR, hd, how, hgr⟩ := hrel
      by_cases hlt : p < q
      · have w5 : IntKind.i64.wrap ((p : Int) + (q : Int)) = (p : Int) + (q : Int) := IntWalk.i64_in _ (by omega)
        obtain ⟨t, hh⟩ : ∃ t : Nat, ((p : Int) + (q : Int)) / 2 = (t : Int) := ⟨(p + q) / 2, by omega⟩
        have hpt : p ≤ t := by omega
        have htq : t < q := by omega
        obtain ⟨e, he⟩ : ∃ e : Nat, e = mid + M - 1 - t := ⟨_, rfl⟩
        have heM : M ≤ e := by omega
        have heb : e < b := by omega
        have hxl : t - a < X.length := by have := HM.out; omega
        have hyl : e - M < Y.length := by have := HBB.out; omega
        obtain ⟨x, hx⟩ : ∃ x, X[t - a] = x := ⟨_, rfl⟩
        obtain ⟨y, hy⟩ : ∃ y, Y[e - M] = y := ⟨_, rfl⟩
        have hcel := how.out.cells8 (i := e) (j := t) (x := y) (y := x) (by obtain ⟨k1, k2⟩ := at_right (P := P) (X := X) (Y := Y) (S := S) HA.out HM.out HBB.out heM heb; exact ⟨k1, k2.trans hy⟩) (by obtain ⟨k1, k2⟩ := at_left (P := P) (X := X) (Y := Y) (S := S) HA.out HM.out (show a ≤ t by omega) (by omega); exact ⟨k1, k2.trans hx⟩)
        have kx : kn X (t - a) = x.num := by rw [kn_at hxl, hx]
        have ky : kn Y (e - M) = y.num := by rw [kn_at hyl, hy]
        have KX := Lib.hid kx
        have KY := Lib.hid ky
        have HCEL := Lib.hid hcel
        have wA : IntKind.i64.wrap ((mid : Int) + (M : Int) - 1 - (t : Int)) = (e : Int) := by rw [show (mid : Int) + (M : Int) - 1 - (t : Int) = (e : Int) by omega]; exact IntWalk.i64_in _ (by omega)
        have w6 : IntKind.i64.wrap ((t : Int) + 1) = (t : Int) + 1 := IntWalk.i64_in _ (by omega)
        have b1 : (e : Int) < (n : Int) := by omega
        have b2 : (t : Int) < (n : Int) := by omega
        have lg := how.out.lt.2
        have HE := Lib.hid he
        obtain ⟨c0, c1, c2, c3, d0, d1, d2, d3⟩ := hcel wr (nb_refl _)
        have hs1 := hcel wr.drew (nb_drew (nb_refl _))
        unfold Cells8 at hs1
        clear hcel hx hy kx ky he
        go_wp2_with fail
        go_region_held3 (fun W => W.cell? ⟨g, e * 4, none⟩ = some (.int .i64 y.num) ∧ W.cell? ⟨g, e * 4 + 1, none⟩ = some (.string y.name) ∧ W.cell? ⟨g, e * 4 + 2, none⟩ = some (.string y.safe) ∧ W.cell? ⟨g, e * 4 + 3, none⟩ = some y.ov ∧ W.cell? ⟨g, t * 4, none⟩ = some (.int .i64 x.num) ∧ W.cell? ⟨g, t * 4 + 1, none⟩ = some (.string x.name) ∧ W.cell? ⟨g, t * 4 + 2, none⟩ = some (.string x.safe) ∧ W.cell? ⟨g, t * 4 + 3, none⟩ = some x.ov)
          (first | exact hs1 | exact HCEL.out _ (nb_refl _) | exact HCEL.out _ N2)
          (first | (go_at_call 51; refine (cmp_any y x _).mono ?_; rintro e2 w2 ⟨rfl, hb2⟩; have N2 := below_then (nb_drew (nb_refl wr)) hb2) | fail)
        have HW2 := Lib.hid (how.out.below N2)
        have HG2 := Lib.hid (grown_trans hgr.out (below_grownBy (row := some g) N2))
        clear c0 c1 c2 c3 d0 d1 d2 d3 lg hs1 HCEL N2 hb2 how hgr
        by_cases hc : y.num < x.num
        · have hcl : cmpI y.num x.num < 0 := by unfold cmpI; rw [if_pos hc]; decide
          have hcb : (!decide (cmpI y.num x.num < 0)) = false := by simp [hcl]
          rw [hcb]
          go_wp2_with fail
          go_roundw
          case rel =>
            refine ⟨p, t, rfl, rfl, hLp, by omega, by omega, ⟨hd.out.1, .inr ?_⟩, HW2.out, HG2.out⟩
            rw [KX.out, show mid - 1 - t = e - M by have := HE.out; omega, KY.out]
            exact hc
          case measure => simp [intOf]; omega
        · have hcl : ¬ cmpI y.num x.num < 0 := by unfold cmpI; rw [if_neg hc]; split <;> decide
          have hcb : (!decide (cmpI y.num x.num < 0)) = true := by simp [hcl]
          rw [hcb]
          go_wp2_with fail
          go_roundw
          case rel =>
            refine ⟨t + 1, q, by go_num, rfl, by omega, by omega, hqR, ⟨.inr ?_, hd.out.2⟩, HW2.out, HG2.out⟩
            rw [show t + 1 - 1 - a = t - a by omega, KX.out, show mid - (t + 1) = e - M by have := HE.out; omega, KY.out]
            omega
          case measure => simp [intOf]; omega
      · have hpq2 : q = p := by omega
        subst hpq2
        obtain ⟨en, he⟩ : ∃ en : Nat, en = mid + M - q := ⟨_, rfl⟩
        have henM : M ≤ en := by omega
        have henb : en ≤ b := by omega
        have wE : IntKind.i64.wrap ((mid : Int) + (M : Int) - (q : Int)) = (en : Int) := by rw [show (mid : Int) + (M : Int) - (q : Int) = (en : Int) by omega]; exact IntWalk.i64_in _ (by omega)
        have hsplit : ∃ X1 X2 Y1 Y2 : List Sg, X = X1 ++ X2 ∧ Y = Y1 ++ Y2 ∧ X1.length = q - a ∧ Y1.length = en - M ∧ (∀ x ∈ X1, ∀ y ∈ Y2, x.num ≤ y.num) ∧ (∀ y ∈ Y1, ∀ x ∈ X2, y.num < x.num) := by
          have hxl := HM.out
          have hyl := HBB.out
          refine ⟨X.take (q - a), X.drop (q - a), Y.take (en - M), Y.drop (en - M), (List.take_append_drop _ _).symm, (List.take_append_drop _ _).symm, by rw [List.length_take]; omega, by rw [List.length_take]; omega, split_le hrX hrY ?_, split_lt hrX hrY ?_⟩
          · rcases hd.out.1 with h0 | h0
            · rcases HL4.out with h3 | h3
              · exact .inl (by omega)
              · exact .inr (.inl (by omega))
            · by_cases h3 : q = a
              · exact .inl (by omega)
              · by_cases h4 : en = b
                · exact .inr (.inl (by omega))
                · refine .inr (.inr ⟨by omega, by omega, by omega, ?_⟩)
                  rw [show q - a - 1 = q - 1 - a by omega, show en - M = mid - q by omega]
                  exact h0
          · rcases hd.out.2 with h0 | h0
            · rcases HR4.out with h3 | h3
              · exact .inr (.inl (by omega))
              · exact .inl (by omega)
            · by_cases h3 : en = M
              · exact .inl (by omega)
              · by_cases h4 : q = M
                · exact .inr (.inl (by omega))
                · refine .inr (.inr ⟨by omega, by omega, by omega, ?_⟩)
                  rw [show en - M - 1 = mid - 1 - q by omega]
                  exact h0
        obtain ⟨X1, X2, Y1, Y2, eX, eY, lX1, lY1, hs1, hs2⟩ := hsplit
        have lX2 : X2.length = M - q := by have := congrArg List.length eX; rw [List.length_append] at this; have := HM.out; omega
        have lY2 : Y2.length = b - en := by have := congrArg List.length eY; rw [List.length_append] at this; have := HBB.out; omega
        have hcur : OwnS wr B g n cap (P ++ X1 ++ X2 ++ Y1 ++ Y2 ++ S) := by
          have h0 := how.out
          rw [eX, eY] at h0
          simpa using h0
        have HCUR := Lib.hid hcur
        have HEN := Lib.hid he
        have LX1 := Lib.hid lX1
        have LX2 := Lib.hid lX2
        have LY1 := Lib.hid lY1
        have LY2 := Lib.hid lY2
        have EX := Lib.hid eX
        have EY := Lib.hid eY
        have HS1 := Lib.hid hs1
        have HS2 := Lib.hid hs2
        have HLEN := Lib.hid hN
        clear eX eY lX1 lX2 lY1 lY2 hs1 hs2 hcur he hN hlt how hd
        go_upto_region 39 with fail
        go_cut [185] from 178 (GuardAt (decide (q < M ∧ M < en)) wr)
        case first =>
          by_cases g1 : q < M
          · by_cases g2 : M < en
            · have g3 : decide (q < M ∧ M < en) = true := decide_eq_true ⟨g1, g2⟩
              have g4 : (q : Int) < (M : Int) := by omega
              have g5 : (M : Int) < (en : Int) := by omega
              go_wp2_with fail
              go_meet
              exact ⟨by rw [g3], rfl⟩
            · have g3 : decide (q < M ∧ M < en) = false := decide_eq_false fun h => g2 h.2
              have g4 : (q : Int) < (M : Int) := by omega
              have g5 : ¬ (M : Int) < (en : Int) := by omega
              go_wp2_with fail
              go_meet
              exact ⟨by rw [g3], rfl⟩
          · have g3 : decide (q < M ∧ M < en) = false := decide_eq_false fun h => g1 h.1
            have g4 : ¬ (q : Int) < (M : Int) := by omega
            go_wp2_with fail
            go_meet
            exact ⟨by rw [g3], rfl⟩
        case rest =>
          obtain ⟨rfl, hw1⟩ := hcut
          have HW1 := Lib.hid hw1
          clear hw1
          go_upto_if 185 with fail
          go_cut [185] from 186 (SymB w B g n cap (P ++ X1 ++ Y1 ++ X2 ++ Y2 ++ S))
          case first =>
            by_cases hr : q < M ∧ M < en
            · have hcall := rotate_any (P ++ X1) X2 Y1 (Y2 ++ S) B g n cap q M en cmpV wr (by rw [← List.append_assoc]; exact HCUR.out) hn (by rw [List.length_append, HA.out, LX1.out]; have hen := HEN.out; omega) (by rw [List.length_append, HA.out, LX1.out, LX2.out]; have hen := HEN.out; omega) (by rw [LY1.out]; have hen := HEN.out; omega) (by rw [LX2.out]; have hen := HEN.out; omega) (by rw [LY1.out]; have hen := HEN.out; omega)
              rw [decide_eq_true hr]
              have HC := Lib.hid hcall
              have HW1R := HW1.out
              subst HW1R
              clear hcall
              go_wp2_with (go_at_call 83; refine HC.out.mono ?_; rintro e9 w9 ⟨rfl, ho9, hg9⟩)
              go_meet
              exact ⟨by simpa using ho9, grown_trans hgr.out hg9⟩
            · rw [decide_eq_false hr]
              go_wp2_with fail
              go_meet
              refine ⟨?_, ?_⟩
              · rw [HW1.out]
                have h0 := HCUR.out
                have hor : X2 = [] ∨ Y1 = [] := by
                  by_cases hq : q < M
                  · exact .inr (List.eq_nil_of_length_eq_zero (by rw [LY1.out]; have hen := HEN.out; omega))
                  · exact .inl (List.eq_nil_of_length_eq_zero (by rw [LX2.out]; have hen := HEN.out; omega))
                rcases hor with h3 | h3 <;> (subst h3; simpa using h0)
              · rw [HW1.out]; exact hgr.out
          case rest =>
            obtain ⟨ho4, hg4⟩ := hcut
            have HO4 := Lib.hid ho4
            have HG4 := Lib.hid hg4
            clear ho4 hg4 HCUR hgr HW1
            obtain ⟨w4, hw4⟩ : ∃ w4, w4 = wc := ⟨_, rfl⟩
            subst hw4
            go_upto_region 41 with fail
            go_cut [199] from 192 (GuardAt (decide (a < q ∧ q < mid)) w4)
            case first =>
              by_cases g1 : a < q
              · by_cases g2 : q < mid
                · have g3 : decide (a < q ∧ q < mid) = true := decide_eq_true ⟨g1, g2⟩
                  have g4 : (a : Int) < (q : Int) := by omega
                  have g5 : (q : Int) < (mid : Int) := by omega
                  go_wp2_with fail
                  go_meet
                  exact ⟨by rw [g3], rfl⟩
                · have g3 : decide (a < q ∧ q < mid) = false := decide_eq_false fun h => g2 h.2
                  have g4 : (a : Int) < (q : Int) := by omega
                  have g5 : ¬ (q : Int) < (mid : Int) := by omega
                  go_wp2_with fail
                  go_meet
                  exact ⟨by rw [g3], rfl⟩
              · have g3 : decide (a < q ∧ q < mid) = false := decide_eq_false fun h => g1 h.1
                have g4 : ¬ (a : Int) < (q : Int) := by omega
                go_wp2_with fail
                go_meet
                exact ⟨by rw [g3], rfl⟩
            case rest =>
              obtain ⟨rfl, hw1⟩ := hcut
              have HW1 := Lib.hid hw1
              clear hw1
              go_upto_if 199 with fail
              go_cut [199] from 200 (SymC w B g n cap P (X1 ++ Y1) (X2 ++ Y2 ++ S))
              case first =>
                by_cases hr : a < q ∧ q < mid
                · have hcall := HIH.out P X1 Y1 (X2 ++ Y2 ++ S) B g n cap a q mid w4 (by have h1 := congrArg List.length EX.out; have h2 := congrArg List.length EY.out; rw [List.length_append] at h1 h2; have := HLEN.out; have := LX2.out; have := LY2.out; have hen := HEN.out; omega) (by have h0 := HO4.out; simpa using h0) hn HA.out (by rw [LX1.out]; have hen := HEN.out; omega) (by rw [LY1.out]; have hen := HEN.out; omega) (by rw [LX1.out]; have hen := HEN.out; omega) (by rw [LY1.out]; have hen := HEN.out; omega) (rises_part (EX.out ▸ hrX)).1 (rises_part (EY.out ▸ hrY)).1
                  rw [decide_eq_true hr]
                  have HC := Lib.hid hcall
                  have HW1R := HW1.out
                  subst HW1R
                  clear hcall
                  go_wp2_with (go_at_call 78; refine HC.out.mono ?_; rintro e9 w9 ⟨rfl, ⟨Z, z1, z2, z3⟩, hg9⟩)
                  go_meet
                  exact ⟨Z, z1, z2, z3, grown_trans HG4.out hg9⟩
                · rw [decide_eq_false hr]
                  go_wp2_with fail
                  go_meet
                  refine ⟨X1 ++ Y1, ?_, Keeps.refl _, ?_, ?_⟩
                  · have hor : X1 = [] ∨ Y1 = [] := by
                      by_cases hq : a < q
                      · exact .inr (List.eq_nil_of_length_eq_zero (by rw [LY1.out]; have hen := HEN.out; omega))
                      · exact .inl (List.eq_nil_of_length_eq_zero (by rw [LX1.out]; have hen := HEN.out; omega))
                    rcases hor with h3 | h3
                    · rw [h3]; exact (rises_part (EY.out ▸ hrY)).1
                    · rw [h3, List.append_nil]; exact (rises_part (EX.out ▸ hrX)).1
                  · rw [HW1.out]
                    have h0 := HO4.out
                    simpa using h0
                  · rw [HW1.out]; exact HG4.out
              case rest =>
                obtain ⟨Z1, z1, z2, ho5, hg5⟩ := hcut
                have HO5 := Lib.hid ho5
                have HG5 := Lib.hid hg5
                have HZ1 := Lib.hid z1
                have HZ2 := Lib.hid z2
                clear ho5 hg5 z1 z2 HO4 HG4 HW1
                obtain ⟨w5, hw5⟩ : ∃ w5, w5 = wc := ⟨_, rfl⟩
                subst hw5
                go_upto_region 43 with fail
                go_cut [213] from 206 (GuardAt (decide (mid < en ∧ en < b)) w5)
                case first =>
                  by_cases g1 : mid < en
                  · by_cases g2 : en < b
                    · have g3 : decide (mid < en ∧ en < b) = true := decide_eq_true ⟨g1, g2⟩
                      have g4 : (mid : Int) < (en : Int) := by omega
                      have g5 : (en : Int) < (b : Int) := by omega
                      go_wp2_with fail
                      go_meet
                      exact ⟨by rw [g3], rfl⟩
                    · have g3 : decide (mid < en ∧ en < b) = false := decide_eq_false fun h => g2 h.2
                      have g4 : (mid : Int) < (en : Int) := by omega
                      have g5 : ¬ (en : Int) < (b : Int) := by omega
                      go_wp2_with fail
                      go_meet
                      exact ⟨by rw [g3], rfl⟩
                  · have g3 : decide (mid < en ∧ en < b) = false := decide_eq_false fun h => g1 h.1
                    have g4 : ¬ (mid : Int) < (en : Int) := by omega
                    go_wp2_with fail
                    go_meet
                    exact ⟨by rw [g3], rfl⟩
                case rest =>
                  obtain ⟨rfl, hw1⟩ := hcut
                  have HW1 := Lib.hid hw1
                  have lZ : (P ++ Z1).length = mid := by rw [List.length_append, HA.out, HZ2.out.1, List.length_append, LX1.out, LY1.out]; have hen := HEN.out; omega
                  have HLZ := Lib.hid lZ
                  have r2a := (rises_part (EX.out ▸ hrX)).2.1
                  have r2b := (rises_part (EY.out ▸ hrY)).2.1
                  have HR2A := Lib.hid r2a
                  have HR2B := Lib.hid r2b
                  clear hw1 lZ r2a r2b
                  by_cases hr : mid < en ∧ en < b
                  · have hcall := HIH.out (P ++ Z1) X2 Y2 S B g n cap mid en b w5 (by have h1 := congrArg List.length EX.out; have h2 := congrArg List.length EY.out; rw [List.length_append] at h1 h2; have := HLEN.out; have := LX1.out; have := LY1.out; have hen := HEN.out; omega) (by have h0 := HO5.out; simpa using h0) hn HLZ.out (by rw [LX2.out]; have hen := HEN.out; omega) (by rw [LY2.out]; have hen := HEN.out; omega) (by rw [LX2.out]; have hen := HEN.out; omega) (by rw [LY2.out]; have hen := HEN.out; omega) HR2A.out HR2B.out
                    rw [decide_eq_true hr]
                    have HC := Lib.hid hcall
                    have HW1R := HW1.out
                    subst HW1R
                    clear hcall
                    go_wp2_with (go_at_call 78; refine HC.out.mono ?_; rintro e9 w9 ⟨rfl, ⟨Z2, z3, z4, z5⟩, hg9⟩; have Z3 := Lib.hid z3; have Z4 := Lib.hid z4; have Z5 := Lib.hid z5; have G9 := Lib.hid hg9; clear z3 z4 z5 hg9)
                    go_end0
                    obtain ⟨k1, k2⟩ := sym_plain (EX.out ▸ hrX) (EY.out ▸ hrY) HS1.out HS2.out HZ1.out Z3.out HZ2.out Z4.out
                    refine ⟨rfl, ⟨Z1 ++ Z2, k1, by rw [EX.out, EY.out]; exact k2, ?_⟩, grown_trans HG5.out G9.out⟩
                    have h0 := Z5.out
                    simpa using h0
                  · have hor : X2 = [] ∨ Y2 = [] := by
                      by_cases hq : mid < en
                      · exact .inr (List.eq_nil_of_length_eq_zero (by rw [LY2.out]; have hen := HEN.out; omega))
                      · exact .inl (List.eq_nil_of_length_eq_zero (by rw [LX2.out]; have hen := HEN.out; omega))
                    have hr2 : Rises (X2 ++ Y2) := by
                      rcases hor with h3 | h3
                      · rw [h3]; exact HR2B.out
                      · rw [h3, List.append_nil]; exact HR2A.out
                    have HR2 := Lib.hid hr2
                    rw [decide_eq_false hr]
                    clear hor hr2
                    go_wp2_with fail
                    go_end0
                    obtain ⟨k1, k2⟩ := sym_plain (EX.out ▸ hrX) (EY.out ▸ hrY) HS1.out HS2.out HZ1.out HR2.out HZ2.out (Keeps.refl _)
                    refine ⟨rfl, ⟨Z1 ++ (X2 ++ Y2), k1, by rw [EX.out, EY.out]; exact k2, ?_⟩, ?_⟩
                    · rw [HW1.out]
                      have h0 := HO5.out
                      simpa using h0
                    · rw [HW1.out]; exact HG5.out
end Go.Proofs.Ytkecjopojnllnaa
namespace Go.Proofs.Ytkecjopojnllnaa
open Go.RowKit Go.Deep Go.Joins

theorem sym_all : ∀ N, SymOf N := by
  intro N
  induction N with
  | zero => intro P X Y S B g n cap a M b w hN; omega
  | succ N ih =>
    intro P X Y S B g n cap a M b w hN h hn ha hM hb hX hY hrX hrY
    by_cases h1 : X.length = 1
    · obtain ⟨x, rfl⟩ : ∃ x, X = [x] := List.length_eq_one_iff.1 h1
      have hM' : M = a + 1 := by simp at hM; omega
      subst hM'
      have h0 := sym_one P Y S x B g n cap a b w (by simpa using h) hn ha hb hY hrY
      rw [show ((a + 1 : Nat) : Int) = (a : Int) + 1 by omega]
      exact h0
    · by_cases h2 : Y.length = 1
      · obtain ⟨y, rfl⟩ : ∃ y, Y = [y] := List.length_eq_one_iff.1 h2
        have hb' : b = M + 1 := by simp at hb; omega
        subst hb'
        have h0 := sym_last P X S y B g n cap a M w (by simpa using h) hn ha hM (by omega) hrX
        rw [show ((M + 1 : Nat) : Int) = (M : Int) + 1 by omega]
        exact h0
      · exact sym_gen N ih P X Y S B g n cap a M b w hN h hn ha hM hb (by omega) (by omega) hrX hrY
theorem sym_any (P X Y S : List Sg) (B g n cap a M b : Nat) (w : World) (h : OwnS w B g n cap (P ++ X ++ Y ++ S)) (hn : n ≤ 4611686018427387904) (ha : P.length = a) (hM : a + X.length = M) (hb : M + Y.length = b) (hX : 0 < X.length) (hY : 0 < Y.length) (hrX : Rises X) (hrY : Rises Y) :
    Calls Try.prog 78 #[.slice (some ⟨g, 0, none⟩) n cap, .int .i64 a, .int .i64 M, .int .i64 b, cmpV] w fun e w' => e = .returned (.tuple #[]) ∧ (∃ Z, Rises Z ∧ Keeps (X ++ Y) Z ∧ OwnS w' B g n cap (P ++ Z ++ S)) ∧ w.grownBy w' (some g) :=
  sym_all (X.length + Y.length + 1) P X Y S B g n cap a M b w (by omega) h hn ha hM hb hX hY hrX hrY

/-! ### Sorted by blocks -/
def SortB (bs : Nat) (l : List Sg) (lo hi : Nat) : Prop := ∀ i j, lo ≤ i → i < j → j < hi → i / bs = j / bs → kn l i ≤ kn l j
theorem kn_left {P X : List Sg} {i : Nat} (h : i < P.length) : kn (P ++ X) i = kn P i := by unfold kn; rw [List.getElem?_append_left h]
theorem kn_right {P X : List Sg} {i : Nat} (h : P.length ≤ i) : kn (P ++ X) i = kn X (i - P.length) := by unfold kn; rw [List.getElem?_append_right h]
theorem kn_take {l : List Sg} {a i : Nat} (h : i < a) : kn (l.take a) i = kn l i := by unfold kn; rw [List.getElem?_take_of_lt h]
theorem kn_drop {l : List Sg} {a i : Nat} : kn (l.drop a) i = kn l (a + i) := by unfold kn; rw [List.getElem?_drop]
theorem rises_kn {X : List Sg} (h : Rises X) {i j : Nat} (hij : i < j) (hj : j < X.length) : kn X i ≤ kn X j := by
  rw [kn_at (by omega), kn_at hj]
  exact (List.pairwise_iff_getElem.1 h) i j (by omega) hj hij
theorem kn_rises {X : List Sg} (h : ∀ i j, i < j → j < X.length → kn X i ≤ kn X j) : Rises X := by
  refine List.pairwise_iff_getElem.2 fun i j hi hj hij => ?_
  have := h i j hij hj
  rwa [kn_at hi, kn_at hj] at this
theorem div_block {bs q j : Nat} (h1 : bs * q ≤ j) (h2 : j < bs * q + bs) : j / bs = q := by
  rw [Nat.div_eq_of_lt_le]
  · rw [Nat.mul_comm]; exact h1
  · rw [Nat.mul_comm, Nat.mul_succ]; exact h2
theorem block_low {bs q i j : Nat} (hb : 0 < bs) (hij : i / bs = j / bs) (h1 : bs * q ≤ j) : bs * q ≤ i := by
  have h2 : q ≤ j / bs := by
    rw [Nat.le_div_iff_mul_le hb, Nat.mul_comm]; exact h1
  rw [← hij, Nat.le_div_iff_mul_le hb, Nat.mul_comm] at h2
  exact h2
/-- The next block is sorted. -/
theorem sortB_next {bs q e : Nat} {l X' S : List Sg} (hb : 0 < bs) (h : SortB bs l 0 (bs * q)) (hq : bs * q ≤ l.length) (hX : bs * q + X'.length = e) (hr : Rises X') : SortB bs (l.take (bs * q) ++ X' ++ S) 0 e := by
  intro i j _ hij hj hd
  have hP : (l.take (bs * q)).length = bs * q := by rw [List.length_take]; omega
  by_cases h1 : j < bs * q
  · have e1 : ∀ r, r < bs * q → kn (l.take (bs * q) ++ X' ++ S) r = kn l r := fun r hr => by rw [List.append_assoc, kn_left (by omega), kn_take hr]
    rw [e1 i (by omega), e1 j h1]
    exact h i j (Nat.zero_le _) hij h1 hd
  · have h2 := block_low hb hd (show bs * q ≤ j by omega)
    have e1 : ∀ r, bs * q ≤ r → r < e → kn (l.take (bs * q) ++ X' ++ S) r = kn X' (r - bs * q) := fun r h3 h4 => by rw [List.append_assoc, kn_right (by omega), hP, kn_left (by omega)]
    rw [e1 i h2 (by omega), e1 j (by omega) hj]
    exact rises_kn hr (by omega) (by omega)
theorem sortB_rest {bs b n : Nat} {l A S : List Sg} (h : SortB bs l b n) (hA : A.length = b) (hS : S = l.drop b) : SortB bs (A ++ S) b n := by
  intro i j hi hij hj hd
  have e1 : ∀ r, b ≤ r → kn (A ++ S) r = kn l r := fun r hr => by rw [kn_right (by omega), hA, hS, kn_drop, show b + (r - b) = r by omega]
  rw [e1 i hi, e1 j (by omega)]
  exact h i j hi hij hj hd
/-- A block of the row is a run. -/
theorem sortB_run {bs q lo n m : Nat} {l : List Sg} (h : SortB bs l lo n) (hlo : lo ≤ bs * q) (hm : m ≤ bs) (hn : bs * q + m ≤ n) : Rises ((l.drop (bs * q)).take m) := by
  refine kn_rises fun i j hij hj => ?_
  rw [List.length_take] at hj
  have e1 : ∀ r, r < m → kn ((l.drop (bs * q)).take m) r = kn l (bs * q + r) := fun r hr => by rw [kn_take hr, kn_drop]
  rw [e1 i (by omega), e1 j (by omega)]
  refine h _ _ (by omega) (by omega) (by omega) ?_
  rw [div_block (q := q) (by omega) (by omega), div_block (q := q) (by omega) (by omega)]
end Go.Proofs.Ytkecjopojnllnaa
namespace Go.Proofs.Ytkecjopojnllnaa
open Go.RowKit Go.Deep Go.Joins

theorem cut3 (l : List Sg) (a m : Nat) : l.take a ++ (l.drop a).take m ++ l.drop (a + m) = l := by
  rw [List.append_assoc, ← List.drop_drop, List.take_append_drop, List.take_append_drop]
theorem cut4 (l : List Sg) (a m k : Nat) : l.take a ++ (l.drop a).take m ++ (l.drop (a + m)).take k ++ l.drop (a + m + k) = l := by
  rw [List.append_assoc, ← List.drop_drop (i := k), List.take_append_drop, cut3]
theorem SortB.mono {bs lo lo' hi : Nat} {l : List Sg} (h : SortB bs l lo hi) (h1 : lo ≤ lo') : SortB bs l lo' hi := fun i j hi hij hj hd => h i j (by omega) hij hj hd
theorem SortB.all {bs : Nat} {l : List Sg} (h : SortB bs l 0 l.length) (hb : l.length ≤ bs) : Rises l :=
  kn_rises fun i j hij hj => h i j (Nat.zero_le _) hij hj (by rw [Nat.div_eq_of_lt (by omega), Nat.div_eq_of_lt (by omega)])
/-- The last block is a run already. -/
theorem sortB_last {bs a q n : Nat} {l : List Sg} (hb : 0 < bs) (ha : a = (2 * bs) * q) (h : SortB (2 * bs) l 0 a) (k : SortB bs l a n) (hn : n ≤ a + bs) : SortB (2 * bs) l 0 n := by
  intro i j _ hij hj hd
  by_cases h1 : j < a
  · exact h i j (Nat.zero_le _) hij h1 hd
  · have h2 : a ≤ i := by rw [ha]; exact block_low (by omega) hd (by rw [← ha]; omega)
    refine k i j h2 hij hj ?_
    have e : a = bs * (2 * q) := by rw [ha, Nat.mul_comm 2 bs, Nat.mul_assoc]
    rw [div_block (q := 2 * q) (by omega) (by omega), div_block (q := 2 * q) (by omega) (by omega)]
/-- What the sort has come to. -/
def Upto (w : World) (B g n cap : Nat) (l : List Sg) (w' : World) (cur : List Sg) : Prop := Keeps l cur ∧ OwnS w' B g n cap cur ∧ w.grownBy w' (some g)
theorem Upto.len {w w' : World} {B g n cap : Nat} {l cur : List Sg} (h : Upto w B g n cap l w' cur) : cur.length = n := h.2.1.1.symm

set_option maxRecDepth 100000 in
set_option maxHeartbeats 2000000 in
theorem stable_any (l : List Sg) (B g n cap : Nat) (w : World) (h : OwnS w B g n cap l) (hn : n ≤ 1152921504606846976) :
    Calls Try.prog 70 #[.slice (some ⟨g, 0, none⟩) n cap, .int .i64 n, cmpV] w fun e w' => e = .returned (.tuple #[]) ∧ (∃ Z, Rises Z ∧ Keeps l Z ∧ OwnS w' B g n cap Z) ∧ w.grownBy w' (some g) := by
  have H := Lib.hid h
  clear h
  have hn2 : n ≤ 4611686018427387904 := by omega
  go_enter Try.func70, Try.ntmps70
  go_wp2_with fail
  go_loopw [7, 8] (fun a b wr => ∃ (x q : Nat) (cur : List Sg), a = .int .i64 (x : Int) ∧ b = .int .i64 ((x : Int) + 20) ∧ x ≤ n ∧ Hid (x = 20 * q) ∧ Hid (Upto w B g n cap l wr cur) ∧ Hid (SortB 20 cur 0 x)) (fun a _ _ => n - (intOf a).toNat)
  case atStart =>
    exact ⟨0, 0, l, rfl, rfl, Nat.zero_le _, rfl, ⟨Keeps.refl _, H.out, grown_refl _ _⟩, fun i j _ _ hj _ => absurd hj (Nat.not_lt_zero _)⟩
  case round =>
    obtain ⟨x, q, cur, rfl, rfl, hx, hq, hup, hso⟩ := hrel
    obtain ⟨wo, hwo⟩ : ∃ wo, wo = wr := ⟨_, rfl⟩
    subst hwo
    have hlen := hup.out.len
    by_cases hlt : x + 20 ≤ n
    · have hcall := insertion_any (cur.take x) ((cur.drop x).take 20) (cur.drop (x + 20)) B g n cap x (x + 20) wo (by rw [cut3]; exact hup.out.2.1) hn2 (by rw [List.length_take]; omega) (by rw [List.length_take, List.length_drop]; omega)
      rw [show ((x + 20 : Nat) : Int) = (x : Int) + 20 by omega] at hcall
      have HC := Lib.hid hcall
      have HL := Lib.hid hlen
      have b1 : (x : Int) + 20 ≤ (n : Int) := by omega
      have w1 : IntKind.i64.wrap ((x : Int) + 20 + 20) = (x : Int) + 20 + 20 := IntWalk.i64_in _ (by omega)
      clear hcall hlen
      go_wp2_with (go_at_call 77; refine HC.out.mono ?_; rintro e w2 ⟨rfl, ⟨X', r1, r2, r3⟩, hg2⟩; have R1 := Lib.hid r1; have R2 := Lib.hid r2; have R3 := Lib.hid r3; have G2 := Lib.hid hg2; clear r1 r2 r3 hg2)
      go_roundw
      case rel =>
        have hl := HL.out
        refine ⟨x + 20, q + 1, cur.take x ++ X' ++ cur.drop (x + 20), by go_num, by go_num, hlt, by show _ = _; have := hq.out; omega, ⟨?_, R3.out, grown_trans hup.out.2.2 G2.out⟩, ?_⟩
        · refine hup.out.1.trans ?_
          have h0 := ((Keeps.refl (cur.take x)).append R2.out).append (Keeps.refl (cur.drop (x + 20)))
          rwa [cut3] at h0
        · have h0 := hso.out
          rw [hq.out] at h0 ⊢
          exact sortB_next (by omega) h0 (by have := hq.out; omega) (by rw [R2.out.1, List.length_take, List.length_drop]; have := hq.out; omega) R1.out
      case measure => simp [intOf]; omega
    · have hcall := insertion_any (cur.take x) (cur.drop x) [] B g n cap x n wo (by rw [List.append_nil, List.take_append_drop]; exact hup.out.2.1) hn2 (by rw [List.length_take]; omega) (by rw [List.length_drop]; omega)
      have HC := Lib.hid hcall
      have HL := Lib.hid hlen
      have b1 : ¬ (x : Int) + 20 ≤ (n : Int) := by omega
      clear hcall hlen
      go_wp2_with (go_at_call 77; refine HC.out.mono ?_; rintro e w2 ⟨rfl, ⟨X', r1, r2, r3⟩, hg2⟩; have R1 := Lib.hid r1; have R2 := Lib.hid r2; have R3 := Lib.hid r3; have G2 := Lib.hid hg2; clear r1 r2 r3 hg2)
      have hnew : Upto w B g n cap l w2 (cur.take x ++ X' ++ []) ∧ SortB 20 (cur.take x ++ X' ++ []) 0 n := by
        have hl := HL.out
        refine ⟨⟨?_, R3.out, grown_trans hup.out.2.2 G2.out⟩, ?_⟩
        · refine hup.out.1.trans ?_
          have h0 := ((Keeps.refl (cur.take x)).append R2.out).append (Keeps.refl [])
          rwa [List.append_nil (cur.take x ++ cur.drop x), List.take_append_drop] at h0
        · have h0 := hso.out
          rw [hq.out] at h0 ⊢
          exact sortB_next (by omega) h0 (by have := hq.out; omega) (by rw [R2.out.1, List.length_drop]; have := hq.out; omega) R1.out
      obtain ⟨cur1, hc1⟩ : ∃ c, c = cur.take x ++ X' ++ [] := ⟨_, rfl⟩
      rw [← hc1] at hnew
      have HNEW := Lib.hid hnew
      clear hc1 hnew HC R1 R2 R3 G2
      go_loopw [6] (fun s wr => ∃ (bs : Nat) (cu : List Sg), s = .int .i64 (bs : Int) ∧ 20 ≤ bs ∧ bs ≤ 2 * n + 20 ∧ Hid (Upto w B g n cap l wr cu) ∧ Hid (SortB bs cu 0 n)) (fun s _ => 2 * n + 20 - (intOf s).toNat)
      case atStart => exact ⟨20, cur1, rfl, Nat.le_refl _, by omega, HNEW.out.1, HNEW.out.2⟩
      case round =>
        obtain ⟨bs, cu, rfl, hb1, hb2, hup2, hso2⟩ := hrel
        obtain ⟨wp, hwp⟩ : ∃ wp, wp = wr := ⟨_, rfl⟩
        subst hwp
        by_cases hbn : bs < n
        · have c1 : (bs : Int) < (n : Int) := by omega
          have w3 : IntKind.i64.wrap (2 * (bs : Int)) = 2 * (bs : Int) := IntWalk.i64_in _ (by omega)
          have w4 : IntKind.i64.wrap ((bs : Int) * 2) = (bs : Int) * 2 := IntWalk.i64_in _ (by omega)
          clear hup hso hq
          go_wp2_with fail
          go_loopw [7, 8] (fun a b wr => ∃ (x q : Nat) (cv : List Sg), a = .int .i64 (x : Int) ∧ b = .int .i64 ((x : Int) + 2 * (bs : Int)) ∧ x ≤ n ∧ Hid (x = 2 * bs * q) ∧ Hid (Upto w B g n cap l wr cv) ∧ Hid (SortB (2 * bs) cv 0 x) ∧ Hid (SortB bs cv x n)) (fun a _ _ => n - (intOf a).toNat)
          case atStart =>
            refine ⟨0, 0, cu, rfl, by go_num, Nat.zero_le _, rfl, hup2.out, fun i j _ _ hj _ => absurd hj (Nat.not_lt_zero _), hso2.out⟩
          case round =>
            obtain ⟨x, q, cv, rfl, rfl, hx, hq, hup3, hs1, hs2⟩ := hrel
            have hlen := hup3.out.len
            have e1 : x = bs * (2 * q) := by rw [hq.out, Nat.mul_comm 2 bs, Nat.mul_assoc]
            have e2 : x + bs = bs * (2 * q + 1) := by rw [Nat.mul_succ, ← e1]
            have E1 := Lib.hid e1
            have E2 := Lib.hid e2
            have HL := Lib.hid hlen
            have w5 : IntKind.i64.wrap ((x : Int) + (bs : Int)) = (x : Int) + (bs : Int) := IntWalk.i64_in _ (by omega)
            by_cases hlt : x + 2 * bs ≤ n
            · have r1 : Rises ((cv.drop x).take bs) := by
                rw [e1]; exact sortB_run hs2.out (by omega) (Nat.le_refl _) (by omega)
              have r2 : Rises ((cv.drop (x + bs)).take bs) := by
                rw [e2]; exact sortB_run hs2.out (by omega) (Nat.le_refl _) (by omega)
              have hcall := sym_any (cv.take x) ((cv.drop x).take bs) ((cv.drop (x + bs)).take bs) (cv.drop (x + bs + bs)) B g n cap x (x + bs) (x + 2 * bs) wr (by rw [cut4]; exact hup3.out.2.1) hn2 (by rw [List.length_take]; omega) (by rw [List.length_take, List.length_drop]; omega) (by rw [List.length_take, List.length_drop]; omega) (by rw [List.length_take, List.length_drop]; omega) (by rw [List.length_take, List.length_drop]; omega) r1 r2
              rw [show ((x + bs : Nat) : Int) = (x : Int) + (bs : Int) by omega, show ((x + 2 * bs : Nat) : Int) = (x : Int) + 2 * (bs : Int) by omega] at hcall
              have HC := Lib.hid hcall
              have b1 : (x : Int) + 2 * (bs : Int) ≤ (n : Int) := by omega
              have w6 : IntKind.i64.wrap ((x : Int) + 2 * (bs : Int) + 2 * (bs : Int)) = (x : Int) + 2 * (bs : Int) + 2 * (bs : Int) := IntWalk.i64_in _ (by omega)
              clear hcall hlen r1 r2 e1 e2
              go_wp2_with (go_at_call 78; refine HC.out.mono ?_; rintro e w2 ⟨rfl, ⟨Z, r1, r2, r3⟩, hg2⟩; have R1 := Lib.hid r1; have R2 := Lib.hid r2; have R3 := Lib.hid r3; have G2 := Lib.hid hg2; clear r1 r2 r3 hg2)
              go_roundw
              case rel =>
                have hl := HL.out
                have hlZ : Z.length = 2 * bs := by rw [R2.out.1, List.length_append, List.length_take, List.length_take, List.length_drop, List.length_drop]; omega
                refine ⟨x + 2 * bs, q + 1, cv.take x ++ Z ++ cv.drop (x + bs + bs), by go_num, by go_num, hlt, by show _ = _; rw [Nat.mul_succ, ← hq.out], ⟨?_, R3.out, grown_trans hup3.out.2.2 G2.out⟩, ?_, ?_⟩
                · refine hup3.out.1.trans ?_
                  have h0 := ((Keeps.refl (cv.take x)).append R2.out).append (Keeps.refl (cv.drop (x + bs + bs)))
                  rwa [← List.append_assoc, cut4] at h0
                · have h0 := hs1.out
                  rw [hq.out] at h0 ⊢
                  exact sortB_next (by omega) h0 (by have := hq.out; omega) (by rw [hlZ]) R1.out
                · exact sortB_rest (hs2.out.mono (by omega)) (by rw [List.length_append, List.length_take, hlZ]; omega) (by rw [show x + bs + bs = x + 2 * bs by omega])
              case measure => simp [intOf]; omega
            · have b1 : ¬ (x : Int) + 2 * (bs : Int) ≤ (n : Int) := by omega
              by_cases hm : x + bs < n
              · have r1 : Rises ((cv.drop x).take bs) := by
                  rw [e1]; exact sortB_run hs2.out (by omega) (Nat.le_refl _) (by omega)
                have r2 : Rises (cv.drop (x + bs)) := by
                  have h0 := sortB_run (q := 2 * q + 1) (m := n - (x + bs)) hs2.out (by omega) (by omega) (by omega)
                  rw [← e2, List.take_of_length_le (by rw [List.length_drop]; omega)] at h0
                  exact h0
                have hcall := sym_any (cv.take x) ((cv.drop x).take bs) (cv.drop (x + bs)) [] B g n cap x (x + bs) n wr (by rw [List.append_nil, cut3]; exact hup3.out.2.1) hn2 (by rw [List.length_take]; omega) (by rw [List.length_take, List.length_drop]; omega) (by rw [List.length_drop]; omega) (by rw [List.length_take, List.length_drop]; omega) (by rw [List.length_drop]; omega) r1 r2
                rw [show ((x + bs : Nat) : Int) = (x : Int) + (bs : Int) by omega] at hcall
                have HC := Lib.hid hcall
                have b2 : (x : Int) + (bs : Int) < (n : Int) := by omega
                clear hcall hlen r1 r2 e1 e2
                go_wp2_with (go_at_call 78; refine HC.out.mono ?_; rintro e w2 ⟨rfl, ⟨Z, r1, r2, r3⟩, hg2⟩; have R1 := Lib.hid r1; have R2 := Lib.hid r2; have R3 := Lib.hid r3; have G2 := Lib.hid hg2; clear r1 r2 r3 hg2)
                go_roundw
                case rel =>
                  have hl := HL.out
                  have hlZ : Z.length = n - x := by rw [R2.out.1, List.length_append, List.length_take, List.length_drop, List.length_drop]; omega
                  refine ⟨2 * bs, cv.take x ++ Z ++ [], by go_num, by omega, by omega, ⟨?_, R3.out, grown_trans hup3.out.2.2 G2.out⟩, ?_⟩
                  · refine hup3.out.1.trans ?_
                    have h0 := ((Keeps.refl (cv.take x)).append R2.out).append (Keeps.refl [])
                    rwa [List.append_nil (cv.take x ++ _), ← List.append_assoc, cut3] at h0
                  · have h0 := hs1.out
                    rw [hq.out] at h0 ⊢
                    exact sortB_next (by omega) h0 (by have := hq.out; omega) (by rw [hlZ]; have := hq.out; omega) R1.out
                case measure => simp [intOf]; omega
              · have b2 : ¬ (x : Int) + (bs : Int) < (n : Int) := by omega
                clear hlen e1 e2
                go_wp2_with fail
                go_roundw
                case rel =>
                  exact ⟨2 * bs, cv, by go_num, by omega, by omega, hup3.out, sortB_last (by omega) hq.out hs1.out hs2.out (by omega)⟩
                case measure => simp [intOf]; omega
        · have c1 : ¬ (bs : Int) < (n : Int) := by omega
          have hl := hup2.out.len
          have hr : Rises cu := SortB.all (by rw [hl]; exact hso2.out) (by omega)
          have HR := Lib.hid hr
          clear hup hso hq hl hr
          go_wp2_with fail
          go_end0
          exact ⟨rfl, ⟨cu, HR.out, hup2.out.1, hup2.out.2.1⟩, hup2.out.2.2⟩

theorem sort_any (l : List Sg) (B g n cap : Nat) (w : World) (h : OwnS w B g n cap l) (hn : n ≤ 1152921504606846976) :
    Calls Try.prog 50 #[.slice (some ⟨g, 0, none⟩) n cap, cmpV] w fun e w' => e = .returned (.tuple #[]) ∧ (∃ Z, Rises Z ∧ Keeps l Z ∧ OwnS w' B g n cap Z) ∧ w.grownBy w' (some g) := by
  have H := Lib.hid (stable_any l B g n cap w h hn)
  clear h
  go_enter Try.func50, Try.ntmps50
  go_wp2_with (go_at_call 70; refine H.out.mono ?_; rintro e w1 ⟨rfl, h1, h2⟩)
  go_end0
  exact ⟨rfl, h1, h2⟩
end Go.Proofs.Ytkecjopojnllnaa
