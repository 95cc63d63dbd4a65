/- The merge in place: two runs of two at least. -/
import Derived.Test.YtkecjopojnllnaaI
import Derived.Deep.DeepCutAuto
namespace Go.Proofs.Ytkecjopojnllnaa
open Go.RowKit Go.Deep Go.Joins

/-- Between which numbers the search goes. -/
def SymA (w : World) (a M b mid : Nat) (s r : Value) (wx : World) : Prop :=
  ∃ L0 R0 : Nat, s = .int .i64 (L0 : Int) ∧ r = .int .i64 (R0 : Int) ∧ a ≤ L0 ∧ L0 ≤ R0 ∧ R0 ≤ M ∧ R0 ≤ mid ∧ mid + M ≤ b + L0 ∧ (L0 = a ∨ mid + M = b + L0) ∧ (R0 = M ∨ R0 = mid) ∧ wx = w
def GuardAt (p : Bool) (w : World) (v : Value) (wx : World) : Prop := v = .bool p ∧ wx = w
theorem grown_refl (w : World) (row : Option Nat) : w.grownBy w row := ⟨rfl, rfl, rfl, Nat.le_refl _, fun _ _ _ => rfl⟩
def SymB (w : World) (B g n cap : Nat) (l : List Sg) (_v : Value) (wx : World) : Prop := OwnS wx B g n cap l ∧ w.grownBy wx (some g)
def SymC (w : World) (B g n cap : Nat) (P XY S : List Sg) (_v : Value) (wx : World) : Prop := ∃ Z, Rises Z ∧ Keeps XY Z ∧ OwnS wx B g n cap (P ++ Z ++ S) ∧ w.grownBy wx (some g)

set_option maxRecDepth 100000 in
set_option maxHeartbeats 2000000 in
theorem sym_gen (N : Nat) (ih : SymOf N) (P X Y S : List Sg) (B g n cap a M b : Nat) (w : World) (hN : X.length + Y.length < N + 1) (h : OwnS w B g n cap (P ++ X ++ Y ++ S)) (hn : n ≤ 4611686018427387904) (ha : P.length = a) (hM : a + X.length = M) (hb : M + Y.length = b)
    (hX : 1 < X.length) (hY : 1 < Y.length) (hrX : Rises X) (hrY : Rises Y) :
    Calls Try.prog 78 #[.slice (some ⟨g, 0, none⟩) n cap, .int .i64 a, .int .i64 M, .int .i64 b, cmpV] w fun e w' => e = .returned (.tuple #[]) ∧ (∃ Z, Rises Z ∧ Keeps (X ++ Y) Z ∧ OwnS w' B g n cap (P ++ Z ++ S)) ∧ w.grownBy w' (some g) := by
  have H := Lib.hid h
  have hn1 := h.1
  simp only [List.length_append] at hn1
  clear h
  have haM : a + 2 ≤ M := by omega
  have hMb : M + 2 ≤ b := by omega
  have hbn : b ≤ n := by omega
  obtain ⟨mid, hmid⟩ : ∃ mid : Nat, ((a : Int) + (b : Int)) / 2 = (mid : Int) := ⟨(a + b) / 2, by omega⟩
  have hm1 : 2 * mid ≤ a + b := by omega
  have hm2 : a + b ≤ 2 * mid + 1 := by omega
  have w0 : IntKind.i64.wrap ((M : Int) - (a : Int)) = (M : Int) - (a : Int) := IntWalk.i64_in _ (by omega)
  have w1 : IntKind.i64.wrap ((b : Int) - (M : Int)) = (b : Int) - (M : Int) := IntWalk.i64_in _ (by omega)
  have w2 : IntKind.i64.wrap ((a : Int) + (b : Int)) = (a : Int) + (b : Int) := IntWalk.i64_in _ (by omega)
  have w3 : IntKind.i64.wrap ((mid : Int) + (M : Int)) = (mid : Int) + (M : Int) := IntWalk.i64_in _ (by omega)
  have w4 : IntKind.i64.wrap ((mid : Int) + (M : Int) - 1) = (mid : Int) + (M : Int) - 1 := IntWalk.i64_in _ (by omega)
  have h1 : ((M : Int) - (a : Int) == 1) = false := by rw [beq_eq_false_iff_ne]; omega
  have h1' : ¬ (M : Int) - (a : Int) = 1 := by omega
  have h2 : ((b : Int) - (M : Int) == 1) = false := by rw [beq_eq_false_iff_ne]; omega
  have h2' : ¬ (b : Int) - (M : Int) = 1 := by omega
  have HA := Lib.hid ha
  have HM := Lib.hid hM
  have HBB := Lib.hid hb
  have HIH := Lib.hid ih
  clear ha hM hb hn1 ih
  go_enter Try.func78, Try.ntmps78
  go_upto_if 140 with fail
  go_cut [20, 21] from 138 (SymA w a M b mid)
  case first =>
    by_cases hMm : mid < M
    · have w5 : IntKind.i64.wrap ((mid : Int) + (M : Int) - (b : Int)) = (mid : Int) + (M : Int) - (b : Int) := IntWalk.i64_in _ (by omega)
      have c1 : (mid : Int) < (M : Int) := by omega
      go_wp2_with fail
      go_meet
      exact ⟨mid + M - b, mid, by go_num, rfl, by omega, by omega, by omega, by omega, by omega, .inr (by omega), .inr rfl, rfl⟩
    · have c1 : ¬ (mid : Int) < (M : Int) := by omega
      go_wp2_with fail
      go_meet
      exact ⟨a, M, rfl, rfl, by omega, by omega, by omega, by omega, by omega, .inl rfl, .inl rfl, rfl⟩
  case rest =>
    obtain ⟨L0, R0, rfl, rfl, hL1, hL2, hR1, hR2, hL3, hL4, hR4, hw⟩ := hcut
    have HL4 := Lib.hid hL4
    have HR4 := Lib.hid hR4
    have HW := Lib.hid hw
    clear hL4 hR4 hw
    go_wp2_with fail
    go_loopw [20, 21] (fun s r wr => ∃ p q : Nat, s = .int .i64 (p : Int) ∧ r = .int .i64 (q : Int) ∧ L0 ≤ p ∧ p ≤ q ∧ q ≤ R0 ∧ Hid ((p = L0 ∨ kn X (p - 1 - a) ≤ kn Y (mid - p)) ∧ (q = R0 ∨ kn Y (mid - 1 - q) < kn X (q - a))) ∧ Hid (OwnS wr B g n cap (P ++ X ++ Y ++ S)) ∧ Hid (w.grownBy wr (some g))) (fun s r _ => (intOf r).toNat - (intOf s).toNat)
    case atStart =>
      refine ⟨L0, R0, rfl, rfl, Nat.le_refl _, hL2, Nat.le_refl _, ⟨.inl rfl, .inl rfl⟩, ?_, ?_⟩
      · rw [HW.out]; exact H.out
      · rw [HW.out]; exact ⟨rfl, rfl, rfl, Nat.le_refl _, fun _ _ _ => rfl⟩
    case round =>
      obtain ⟨p, q, rfl, rfl, hLp, hpq, hqR, hd, how, hgr⟩ := hrel
      by_cases hlt : p < q
      · have w5 : IntKind.i64.wrap ((p : Int) + (q : Int)) = (p : Int) + (q : Int) := IntWalk.i64_in _ (by omega)
        obtain ⟨t, hh⟩ : ∃ t : Nat, ((p : Int) + (q : Int)) / 2 = (t : Int) := ⟨(p + q) / 2, by omega⟩
        have hpt : p ≤ t := by omega
        have htq : t < q := by omega
        obtain ⟨e, he⟩ : ∃ e : Nat, e = mid + M - 1 - t := ⟨_, rfl⟩
        have heM : M ≤ e := by omega
        have heb : e < b := by omega
        have hxl : t - a < X.length := by have := HM.out; omega
        have hyl : e - M < Y.length := by have := HBB.out; omega
        obtain ⟨x, hx⟩ : ∃ x, X[t - a] = x := ⟨_, rfl⟩
        obtain ⟨y, hy⟩ : ∃ y, Y[e - M] = y := ⟨_, rfl⟩
        have hcel := how.out.cells8 (i := e) (j := t) (x := y) (y := x) (by obtain ⟨k1, k2⟩ := at_right (P := P) (X := X) (Y := Y) (S := S) HA.out HM.out HBB.out heM heb; exact ⟨k1, k2.trans hy⟩) (by obtain ⟨k1, k2⟩ := at_left (P := P) (X := X) (Y := Y) (S := S) HA.out HM.out (show a ≤ t by omega) (by omega); exact ⟨k1, k2.trans hx⟩)
        have kx : kn X (t - a) = x.num := by rw [kn_at hxl, hx]
        have ky : kn Y (e - M) = y.num := by rw [kn_at hyl, hy]
        have KX := Lib.hid kx
        have KY := Lib.hid ky
        have HCEL := Lib.hid hcel
        have wA : IntKind.i64.wrap ((mid : Int) + (M : Int) - 1 - (t : Int)) = (e : Int) := by rw [show (mid : Int) + (M : Int) - 1 - (t : Int) = (e : Int) by omega]; exact IntWalk.i64_in _ (by omega)
        have w6 : IntKind.i64.wrap ((t : Int) + 1) = (t : Int) + 1 := IntWalk.i64_in _ (by omega)
        have b1 : (e : Int) < (n : Int) := by omega
        have b2 : (t : Int) < (n : Int) := by omega
        have lg := how.out.lt.2
        have HE := Lib.hid he
        obtain ⟨c0, c1, c2, c3, d0, d1, d2, d3⟩ := hcel wr (nb_refl _)
        have hs1 := hcel wr.drew (nb_drew (nb_refl _))
        unfold Cells8 at hs1
        clear hcel hx hy kx ky he
        go_wp2_with fail
        go_region_held3 (fun W => W.cell? ⟨g, e * 4, none⟩ = some (.int .i64 y.num) ∧ W.cell? ⟨g, e * 4 + 1, none⟩ = some (.string y.name) ∧ W.cell? ⟨g, e * 4 + 2, none⟩ = some (.string y.safe) ∧ W.cell? ⟨g, e * 4 + 3, none⟩ = some y.ov ∧ W.cell? ⟨g, t * 4, none⟩ = some (.int .i64 x.num) ∧ W.cell? ⟨g, t * 4 + 1, none⟩ = some (.string x.name) ∧ W.cell? ⟨g, t * 4 + 2, none⟩ = some (.string x.safe) ∧ W.cell? ⟨g, t * 4 + 3, none⟩ = some x.ov)
          (first | exact hs1 | exact HCEL.out _ (nb_refl _) | exact HCEL.out _ N2)
          (first | (go_at_call 51; refine (cmp_any y x _).mono ?_; rintro e2 w2 ⟨rfl, hb2⟩; have N2 := below_then (nb_drew (nb_refl wr)) hb2) | fail)
        have HW2 := Lib.hid (how.out.below N2)
        have HG2 := Lib.hid (grown_trans hgr.out (below_grownBy (row := some g) N2))
        clear c0 c1 c2 c3 d0 d1 d2 d3 lg hs1 HCEL N2 hb2 how hgr
        by_cases hc : y.num < x.num
        · have hcl : cmpI y.num x.num < 0 := by unfold cmpI; rw [if_pos hc]; decide
          have hcb : (!decide (cmpI y.num x.num < 0)) = false := by simp [hcl]
          rw [hcb]
          go_wp2_with fail
          go_roundw
          case rel =>
            refine ⟨p, t, rfl, rfl, hLp, by omega, by omega, ⟨hd.out.1, .inr ?_⟩, HW2.out, HG2.out⟩
            rw [KX.out, show mid - 1 - t = e - M by have := HE.out; omega, KY.out]
            exact hc
          case measure => simp [intOf]; omega
        · have hcl : ¬ cmpI y.num x.num < 0 := by unfold cmpI; rw [if_neg hc]; split <;> decide
          have hcb : (!decide (cmpI y.num x.num < 0)) = true := by simp [hcl]
          rw [hcb]
          go_wp2_with fail
          go_roundw
          case rel =>
            refine ⟨t + 1, q, by go_num, rfl, by omega, by omega, hqR, ⟨.inr ?_, hd.out.2⟩, HW2.out, HG2.out⟩
            rw [show t + 1 - 1 - a = t - a by omega, KX.out, show mid - (t + 1) = e - M by have := HE.out; omega, KY.out]
            omega
          case measure => simp [intOf]; omega
      · have hpq2 : q = p := by omega
        subst hpq2
        obtain ⟨en, he⟩ : ∃ en : Nat, en = mid + M - q := ⟨_, rfl⟩
        have henM : M ≤ en := by omega
        have henb : en ≤ b := by omega
        have wE : IntKind.i64.wrap ((mid : Int) + (M : Int) - (q : Int)) = (en : Int) := by rw [show (mid : Int) + (M : Int) - (q : Int) = (en : Int) by omega]; exact IntWalk.i64_in _ (by omega)
        have hsplit : ∃ X1 X2 Y1 Y2 : List Sg, X = X1 ++ X2 ∧ Y = Y1 ++ Y2 ∧ X1.length = q - a ∧ Y1.length = en - M ∧ (∀ x ∈ X1, ∀ y ∈ Y2, x.num ≤ y.num) ∧ (∀ y ∈ Y1, ∀ x ∈ X2, y.num < x.num) := by
          have hxl := HM.out
          have hyl := HBB.out
          refine ⟨X.take (q - a), X.drop (q - a), Y.take (en - M), Y.drop (en - M), (List.take_append_drop _ _).symm, (List.take_append_drop _ _).symm, by rw [List.length_take]; omega, by rw [List.length_take]; omega, split_le hrX hrY ?_, split_lt hrX hrY ?_⟩
          · rcases hd.out.1 with h0 | h0
            · rcases HL4.out with h3 | h3
              · exact .inl (by omega)
              · exact .inr (.inl (by omega))
            · by_cases h3 : q = a
              · exact .inl (by omega)
              · by_cases h4 : en = b
                · exact .inr (.inl (by omega))
                · refine .inr (.inr ⟨by omega, by omega, by omega, ?_⟩)
                  rw [show q - a - 1 = q - 1 - a by omega, show en - M = mid - q by omega]
                  exact h0
          · rcases hd.out.2 with h0 | h0
            · rcases HR4.out with h3 | h3
              · exact .inr (.inl (by omega))
              · exact .inl (by omega)
            · by_cases h3 : en = M
              · exact .inl (by omega)
              · by_cases h4 : q = M
                · exact .inr (.inl (by omega))
                · refine .inr (.inr ⟨by omega, by omega, by omega, ?_⟩)
                  rw [show en - M - 1 = mid - 1 - q by omega]
                  exact h0
        obtain ⟨X1, X2, Y1, Y2, eX, eY, lX1, lY1, hs1, hs2⟩ := hsplit
        have lX2 : X2.length = M - q := by have := congrArg List.length eX; rw [List.length_append] at this; have := HM.out; omega
        have lY2 : Y2.length = b - en := by have := congrArg List.length eY; rw [List.length_append] at this; have := HBB.out; omega
        have hcur : OwnS wr B g n cap (P ++ X1 ++ X2 ++ Y1 ++ Y2 ++ S) := by
          have h0 := how.out
          rw [eX, eY] at h0
          simpa using h0
        have HCUR := Lib.hid hcur
        have HEN := Lib.hid he
        have LX1 := Lib.hid lX1
        have LX2 := Lib.hid lX2
        have LY1 := Lib.hid lY1
        have LY2 := Lib.hid lY2
        have EX := Lib.hid eX
        have EY := Lib.hid eY
        have HS1 := Lib.hid hs1
        have HS2 := Lib.hid hs2
        have HLEN := Lib.hid hN
        clear eX eY lX1 lX2 lY1 lY2 hs1 hs2 hcur he hN hlt how hd
        go_upto_region 39 with fail
        go_cut [185] from 178 (GuardAt (decide (q < M ∧ M < en)) wr)
        case first =>
          by_cases g1 : q < M
          · by_cases g2 : M < en
            · have g3 : decide (q < M ∧ M < en) = true := decide_eq_true ⟨g1, g2⟩
              have g4 : (q : Int) < (M : Int) := by omega
              have g5 : (M : Int) < (en : Int) := by omega
              go_wp2_with fail
              go_meet
              exact ⟨by rw [g3], rfl⟩
            · have g3 : decide (q < M ∧ M < en) = false := decide_eq_false fun h => g2 h.2
              have g4 : (q : Int) < (M : Int) := by omega
              have g5 : ¬ (M : Int) < (en : Int) := by omega
              go_wp2_with fail
              go_meet
              exact ⟨by rw [g3], rfl⟩
          · have g3 : decide (q < M ∧ M < en) = false := decide_eq_false fun h => g1 h.1
            have g4 : ¬ (q : Int) < (M : Int) := by omega
            go_wp2_with fail
            go_meet
            exact ⟨by rw [g3], rfl⟩
        case rest =>
          obtain ⟨rfl, hw1⟩ := hcut
          have HW1 := Lib.hid hw1
          clear hw1
          go_upto_if 185 with fail
          go_cut [185] from 186 (SymB w B g n cap (P ++ X1 ++ Y1 ++ X2 ++ Y2 ++ S))
          case first =>
            by_cases hr : q < M ∧ M < en
            · have hcall := rotate_any (P ++ X1) X2 Y1 (Y2 ++ S) B g n cap q M en cmpV wr (by rw [← List.append_assoc]; exact HCUR.out) hn (by rw [List.length_append, HA.out, LX1.out]; have hen := HEN.out; omega) (by rw [List.length_append, HA.out, LX1.out, LX2.out]; have hen := HEN.out; omega) (by rw [LY1.out]; have hen := HEN.out; omega) (by rw [LX2.out]; have hen := HEN.out; omega) (by rw [LY1.out]; have hen := HEN.out; omega)
              rw [decide_eq_true hr]
              have HC := Lib.hid hcall
              have HW1R := HW1.out
              subst HW1R
              clear hcall
              go_wp2_with (go_at_call 83; refine HC.out.mono ?_; rintro e9 w9 ⟨rfl, ho9, hg9⟩)
              go_meet
              exact ⟨by simpa using ho9, grown_trans hgr.out hg9⟩
            · rw [decide_eq_false hr]
              go_wp2_with fail
              go_meet
              refine ⟨?_, ?_⟩
              · rw [HW1.out]
                have h0 := HCUR.out
                have hor : X2 = [] ∨ Y1 = [] := by
                  by_cases hq : q < M
                  · exact .inr (List.eq_nil_of_length_eq_zero (by rw [LY1.out]; have hen := HEN.out; omega))
                  · exact .inl (List.eq_nil_of_length_eq_zero (by rw [LX2.out]; have hen := HEN.out; omega))
                rcases hor with h3 | h3 <;> (subst h3; simpa using h0)
              · rw [HW1.out]; exact hgr.out
          case rest =>
            obtain ⟨ho4, hg4⟩ := hcut
            have HO4 := Lib.hid ho4
            have HG4 := Lib.hid hg4
            clear ho4 hg4 HCUR hgr HW1
            obtain ⟨w4, hw4⟩ : ∃ w4, w4 = wc := ⟨_, rfl⟩
            subst hw4
            go_upto_region 41 with fail
            go_cut [199] from 192 (GuardAt (decide (a < q ∧ q < mid)) w4)
            case first =>
              by_cases g1 : a < q
              · by_cases g2 : q < mid
                · have g3 : decide (a < q ∧ q < mid) = true := decide_eq_true ⟨g1, g2⟩
                  have g4 : (a : Int) < (q : Int) := by omega
                  have g5 : (q : Int) < (mid : Int) := by omega
                  go_wp2_with fail
                  go_meet
                  exact ⟨by rw [g3], rfl⟩
                · have g3 : decide (a < q ∧ q < mid) = false := decide_eq_false fun h => g2 h.2
                  have g4 : (a : Int) < (q : Int) := by omega
                  have g5 : ¬ (q : Int) < (mid : Int) := by omega
                  go_wp2_with fail
                  go_meet
                  exact ⟨by rw [g3], rfl⟩
              · have g3 : decide (a < q ∧ q < mid) = false := decide_eq_false fun h => g1 h.1
                have g4 : ¬ (a : Int) < (q : Int) := by omega
                go_wp2_with fail
                go_meet
                exact ⟨by rw [g3], rfl⟩
            case rest =>
              obtain ⟨rfl, hw1⟩ := hcut
              have HW1 := Lib.hid hw1
              clear hw1
              go_upto_if 199 with fail
              go_cut [199] from 200 (SymC w B g n cap P (X1 ++ Y1) (X2 ++ Y2 ++ S))
              case first =>
                by_cases hr : a < q ∧ q < mid
                · have hcall := HIH.out P X1 Y1 (X2 ++ Y2 ++ S) B g n cap a q mid w4 (by have h1 := congrArg List.length EX.out; have h2 := congrArg List.length EY.out; rw [List.length_append] at h1 h2; have := HLEN.out; have := LX2.out; have := LY2.out; have hen := HEN.out; omega) (by have h0 := HO4.out; simpa using h0) hn HA.out (by rw [LX1.out]; have hen := HEN.out; omega) (by rw [LY1.out]; have hen := HEN.out; omega) (by rw [LX1.out]; have hen := HEN.out; omega) (by rw [LY1.out]; have hen := HEN.out; omega) (rises_part (EX.out ▸ hrX)).1 (rises_part (EY.out ▸ hrY)).1
                  rw [decide_eq_true hr]
                  have HC := Lib.hid hcall
                  have HW1R := HW1.out
                  subst HW1R
                  clear hcall
                  go_wp2_with (go_at_call 78; refine HC.out.mono ?_; rintro e9 w9 ⟨rfl, ⟨Z, z1, z2, z3⟩, hg9⟩)
                  go_meet
                  exact ⟨Z, z1, z2, z3, grown_trans HG4.out hg9⟩
                · rw [decide_eq_false hr]
                  go_wp2_with fail
                  go_meet
                  refine ⟨X1 ++ Y1, ?_, Keeps.refl _, ?_, ?_⟩
                  · have hor : X1 = [] ∨ Y1 = [] := by
                      by_cases hq : a < q
                      · exact .inr (List.eq_nil_of_length_eq_zero (by rw [LY1.out]; have hen := HEN.out; omega))
                      · exact .inl (List.eq_nil_of_length_eq_zero (by rw [LX1.out]; have hen := HEN.out; omega))
                    rcases hor with h3 | h3
                    · rw [h3]; exact (rises_part (EY.out ▸ hrY)).1
                    · rw [h3, List.append_nil]; exact (rises_part (EX.out ▸ hrX)).1
                  · rw [HW1.out]
                    have h0 := HO4.out
                    simpa using h0
                  · rw [HW1.out]; exact HG4.out
              case rest =>
                obtain ⟨Z1, z1, z2, ho5, hg5⟩ := hcut
                have HO5 := Lib.hid ho5
                have HG5 := Lib.hid hg5
                have HZ1 := Lib.hid z1
                have HZ2 := Lib.hid z2
                clear ho5 hg5 z1 z2 HO4 HG4 HW1
                obtain ⟨w5, hw5⟩ : ∃ w5, w5 = wc := ⟨_, rfl⟩
                subst hw5
                go_upto_region 43 with fail
                go_cut [213] from 206 (GuardAt (decide (mid < en ∧ en < b)) w5)
                case first =>
                  by_cases g1 : mid < en
                  · by_cases g2 : en < b
                    · have g3 : decide (mid < en ∧ en < b) = true := decide_eq_true ⟨g1, g2⟩
                      have g4 : (mid : Int) < (en : Int) := by omega
                      have g5 : (en : Int) < (b : Int) := by omega
                      go_wp2_with fail
                      go_meet
                      exact ⟨by rw [g3], rfl⟩
                    · have g3 : decide (mid < en ∧ en < b) = false := decide_eq_false fun h => g2 h.2
                      have g4 : (mid : Int) < (en : Int) := by omega
                      have g5 : ¬ (en : Int) < (b : Int) := by omega
                      go_wp2_with fail
                      go_meet
                      exact ⟨by rw [g3], rfl⟩
                  · have g3 : decide (mid < en ∧ en < b) = false := decide_eq_false fun h => g1 h.1
                    have g4 : ¬ (mid : Int) < (en : Int) := by omega
                    go_wp2_with fail
                    go_meet
                    exact ⟨by rw [g3], rfl⟩
                case rest =>
                  obtain ⟨rfl, hw1⟩ := hcut
                  have HW1 := Lib.hid hw1
                  have lZ : (P ++ Z1).length = mid := by rw [List.length_append, HA.out, HZ2.out.1, List.length_append, LX1.out, LY1.out]; have hen := HEN.out; omega
                  have HLZ := Lib.hid lZ
                  have r2a := (rises_part (EX.out ▸ hrX)).2.1
                  have r2b := (rises_part (EY.out ▸ hrY)).2.1
                  have HR2A := Lib.hid r2a
                  have HR2B := Lib.hid r2b
                  clear hw1 lZ r2a r2b
                  by_cases hr : mid < en ∧ en < b
                  · have hcall := HIH.out (P ++ Z1) X2 Y2 S B g n cap mid en b w5 (by have h1 := congrArg List.length EX.out; have h2 := congrArg List.length EY.out; rw [List.length_append] at h1 h2; have := HLEN.out; have := LX1.out; have := LY1.out; have hen := HEN.out; omega) (by have h0 := HO5.out; simpa using h0) hn HLZ.out (by rw [LX2.out]; have hen := HEN.out; omega) (by rw [LY2.out]; have hen := HEN.out; omega) (by rw [LX2.out]; have hen := HEN.out; omega) (by rw [LY2.out]; have hen := HEN.out; omega) HR2A.out HR2B.out
                    rw [decide_eq_true hr]
                    have HC := Lib.hid hcall
                    have HW1R := HW1.out
                    subst HW1R
                    clear hcall
                    go_wp2_with (go_at_call 78; refine HC.out.mono ?_; rintro e9 w9 ⟨rfl, ⟨Z2, z3, z4, z5⟩, hg9⟩; have Z3 := Lib.hid z3; have Z4 := Lib.hid z4; have Z5 := Lib.hid z5; have G9 := Lib.hid hg9; clear z3 z4 z5 hg9)
                    go_end0
                    obtain ⟨k1, k2⟩ := sym_plain (EX.out ▸ hrX) (EY.out ▸ hrY) HS1.out HS2.out HZ1.out Z3.out HZ2.out Z4.out
                    refine ⟨rfl, ⟨Z1 ++ Z2, k1, by rw [EX.out, EY.out]; exact k2, ?_⟩, grown_trans HG5.out G9.out⟩
                    have h0 := Z5.out
                    simpa using h0
                  · have hor : X2 = [] ∨ Y2 = [] := by
                      by_cases hq : mid < en
                      · exact .inr (List.eq_nil_of_length_eq_zero (by rw [LY2.out]; have hen := HEN.out; omega))
                      · exact .inl (List.eq_nil_of_length_eq_zero (by rw [LX2.out]; have hen := HEN.out; omega))
                    have hr2 : Rises (X2 ++ Y2) := by
                      rcases hor with h3 | h3
                      · rw [h3]; exact HR2B.out
                      · rw [h3, List.append_nil]; exact HR2A.out
                    have HR2 := Lib.hid hr2
                    rw [decide_eq_false hr]
                    clear hor hr2
                    go_wp2_with fail
                    go_end0
                    obtain ⟨k1, k2⟩ := sym_plain (EX.out ▸ hrX) (EY.out ▸ hrY) HS1.out HS2.out HZ1.out HR2.out HZ2.out (Keeps.refl _)
                    refine ⟨rfl, ⟨Z1 ++ (X2 ++ Y2), k1, by rw [EX.out, EY.out]; exact k2, ?_⟩, ?_⟩
                    · rw [HW1.out]
                      have h0 := HO5.out
                      simpa using h0
                    · rw [HW1.out]; exact HG5.out
end Go.Proofs.Ytkecjopojnllnaa
