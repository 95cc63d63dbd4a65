/- Append, the program's. -/
import Derived.Test.YtkecjopojnllnaaSC
import Derived.Test.YtkecjopojnllnaaPU
import Derived.Test.YtkecjopojnllnaaPSe
namespace Go.Proofs.Ytkecjopojnllnaa
open Go.RowKit Go.Deep Go.Joins
theorem pref_size {p : ByteArray} (h : prefB p = true) : p.size ≤ 8 := by
  unfold prefB at h
  simp only [Bool.and_eq_true, decide_eq_true_eq] at h
  exact h.1.2
theorem end_exists (p : ByteArray) (l : List Rw) : ∃ n s, EndAt p l n s ∧ n ≤ 999999 := by
  obtain ⟨L, hL, hLm, _⟩ := nums_exist p l
  rcases Nat.eq_zero_or_pos L.length with h0 | h0
  · refine ⟨0, 0, Or.inl ⟨fun m hm => ?_, rfl, rfl⟩, by omega⟩
    have h1 := (hLm m).2 hm
    rw [List.eq_nil_of_length_eq_zero h0] at h1
    cases h1
  · obtain ⟨k, hk⟩ : ∃ k, L.length = k + 1 := ⟨L.length - 1, by omega⟩
    have hh := (hLm L[k]).1 (List.getElem_mem _)
    obtain ⟨r, hr, hn⟩ := hh
    have hf : (l.find? (fun r => numB p r.name == some L[k])).isSome = true := by
      rw [List.find?_isSome]
      exact ⟨r, hr, by simp [hn]⟩
    obtain ⟨r', hr'⟩ := Option.isSome_iff_exists.1 hf
    exact ⟨L[k], _, Or.inr ⟨r', fun m hm => strict_last hL hk m ((hLm m).2 hm), hr', rfl⟩, hasN_le (find_has hr')⟩
theorem end_size {p : ByteArray} {l : List Rw} {n s : Nat} (h : EndAt p l n s) (hok : Okay l) : s ≤ 140737489403904 := by
  rcases h with ⟨_, _, rfl⟩ | ⟨r, _, h2, rfl⟩
  · omega
  · obtain ⟨h3, h4, _⟩ := hok r (List.mem_of_find?_eq_some h2)
    exact layB_size _ _ h3 h4
/-- What a call of Append leaves. -/
def ApPost (p : ByteArray) (l : List Rw) (R : List ByteArray) (w : World) (e : Ending) (w' : World) : Prop :=
  ∃ (n s : Nat) (P : List DOp) (err : Int) (v' : Value), EndAt p l n s ∧ AppIs p R n s P err ∧ e = .returned (.tuple #[v', .int .i64 err]) ∧ Reads w' v' 4 P.length (dopCells P) ∧ Below w.heap.size w w'

set_option maxHeartbeats 1000000 in
theorem append_no (p : ByteArray) (dv rv : Value) (w : World) (hp : prefB p = false) :
    Calls Try.prog 16 #[.agg #[dv], .string p, rv] w fun e w' => e = .returned (.tuple #[.slice none 0 0, .int .i64 1]) ∧ Below w.heap.size w w' := by
  go_enter Try.func16, Try.ntmps16
  go_wp2_with (go_at_call 30; (with_reducible refine (mayBe_any p _).mono ?_); rintro e w1 ⟨rfl, rfl⟩; rw [hp])
  go_ret2
  exact ⟨rfl, below1 w _⟩
/-- One more in the plan. -/
theorem own_more {w2 : World} {B : Nat} {v2 : Value} {P : List DOp} {o : DOp} (h : w2.ownsRow B 55 4 v2 (P.length + 1) (dopCells P ++ [.int .i64 o.kind, .string o.name, .int .i64 o.pos, .string o.bytes])) (hn : ¬ v2 = .slice none 0 0) : OwnP w2 B v2 (P ++ [o]) := by
  refine ⟨?_, ⟨fun e => absurd e hn, fun e => by simp at e⟩⟩
  rw [dop_snoc, List.length_append]
  exact h
set_option maxRecDepth 100000 in
set_option maxHeartbeats 4000000 in
theorem append_yes (l : List Rw) (q : Option Addr) (cap : Nat) (p : ByteArray) (R : List ByteArray) (rv : Value) (w : World) (hp : prefB p = true) (hr : Reads w (.slice q l.length cap) 3 l.length (rowCells l)) (ho : Opens w l) (hok : Okay l) (hm : l.length ≤ 1099511627776) (hrec : Reads w rv 1 R.length (strs R)) (hRm : R.length ≤ 1099511627776) (hRs : ∀ r ∈ R, r.size ≤ 1099511627776) :
    Calls Try.prog 16 #[.agg #[.slice q l.length cap], .string p, rv] w (ApPost p l R w) := by
  obtain ⟨i0, hi, hz0, hz1, hz2⟩ := info_parts (show (Try.prog.info? 55).map (fun i => (i.zero, i.size, i.bytes)) = some (some (.agg #[.int .i64 0, .string .empty, .int .i64 0, .string .empty]), 4, 48) by kernel_rfl)
  have hp8 := pref_size hp
  go_enter Try.func16, Try.ntmps16
  go_wp2_with fail
  generalize hw0 : w.alloc (Obj.cells #[.slice q l.length cap] 24) = w0
  have hb0 : Below w.heap.size w w0 := hw0 ▸ below1 w _
  have hd0 : VarAt w0 w.heap.size (.slice q l.length cap) := hw0 ▸ VarAt.new w _
  have HB0 := Lib.hid hb0
  have HD0 := Lib.hid hd0
  clear hw0 hb0 hd0
  obtain ⟨L, hL, hLm, hLl⟩ := nums_exist p l
  have HL := Lib.hid hL
  have HLM := Lib.hid hLm
  clear hL hLm
  have hfr := frames_any R rv w0 (hrec.below HB0.out) hRm hRs
  have HR := Lib.hid hr
  have HO := Lib.hid ho
  have HOK := Lib.hid hok
  clear hr ho hok hrec hRs
  have HSG := Lib.hid (fun (W : World) (hb : Below w.heap.size w W) => segments_any l _ p W (HR.out.below hb) (fun r hr => (HO.out r hr).below hb) (by omega) hm)
  have HEN := Lib.hid (fun (W : World) (D Z : List Sg) (B : Nat) (v : Value) (hb : Below w.heap.size w W) (hD : D = dedup Z) (hRi : Rises Z) (hKe : Keeps (sgs p l) Z) (hrow : W.ownsRow B 84 4 v D.length (segCells D)) =>
    end_segs p l L D v B W hrow (segs_same hD hRi hKe HL.out HLM.out) HL.out HLM.out (fun r hr => (HO.out r hr).below hb) HOK.out (by rw [(segs_same hD hRi hKe HL.out HLM.out).1]; omega))
  by_cases hsh : shortR R
  · have HSH := Lib.hid hsh
    have hfr' : Calls Try.prog 42 #[rv] w0 fun e w' => ∃ v', e = .returned (.tuple #[v', .int .i64 0]) ∧ w'.ownsRow w0.heap.size 9 1 v' R.length (strs (framesOf R)) ∧ Below w0.heap.size w0 w' :=
      hfr.mono fun e w' h => by
        rcases h with h | h
        · exact h.2
        · exact absurd hsh h.1
    have HFR := Lib.hid hfr'
    clear hfr hfr' hsh
    go_wp2_with (first
      | (go_at_call 30; (with_reducible refine (mayBe_any p _).mono ?_); rintro e w1 ⟨rfl, rfl⟩; rw [hp])
      | (go_at_call 42; (with_reducible refine HFR.out.mono ?_); rintro e w1 ⟨v1, rfl, hown1, hb1⟩; obtain ⟨q1, c1, rfl⟩ := owns_shape hown1; have HOWN1 := Lib.hid hown1; have HB1 := Lib.hid hb1; have d1 := (HD0.out.keep hb1).c; clear hown1 hb1)
      | (go_at_call 31; (with_reducible refine (HSG.out _ (below_then HB0.out HB1.out)).mono ?_); rintro e w2 ⟨v2, D, Z, rfl, hrow, hD, hRi, hKe, hb2⟩; have HEN2 := Lib.hid (HEN.out _ D Z _ v2 (below_then (below_then HB0.out HB1.out) hb2) hD hRi hKe hrow); have HB2 := Lib.hid hb2; clear hrow hD hRi hKe hb2)
      | (go_at_call 43; (with_reducible refine HEN2.out.mono ?_); rintro e w3 ⟨n, s, rfl, hE, hn9, hb3⟩; have HE := Lib.hid hE; have HB3 := Lib.hid hb3; clear hE hb3)
      | fail)
    have hFl : (framesOf R).length = R.length := List.length_map _
    have hrf : Reads w3 (.slice q1 R.length c1) 1 (framesOf R).length (strs (framesOf R)) := by
      rw [hFl]
      exact ((reads_of_owns HOWN1.out).below HB2.out).below HB3.out
    have HRF := Lib.hid hrf
    have hfs := frames_size HSH.out
    have HFS := Lib.hid hfs
    obtain ⟨F, hF⟩ : ∃ F, framesOf R = F := ⟨_, rfl⟩
    rw [hF] at hFl HRF HFS
    have HF := Lib.hid hF
    clear hrf hfs hF d1
    have hs := end_size HE.out HOK.out
    have HFL := Lib.hid hFl
    have HS9 := Lib.hid (And.intro hs hn9)
    clear hFl hs hn9
    have hb03 := below_then HB0.out (below_then HB1.out (below_then HB2.out HB3.out))
    have HB03 := Lib.hid hb03
    have hsz3 := hb03.size
    clear hb03
    go_loopw [35, 10, 11, 12] (fun i u x y wr => ∃ (k : Nat) (a : Ap), k ≤ R.length ∧ i = .int .i64 (k : Int) ∧ x = .int .i64 (a.n : Int) ∧ y = .int .i64 (a.size : Int) ∧ Hid (apRun p n s (F.take k) = some a) ∧ Hid (OwnP wr w3.heap.size u a.plan) ∧ Hid (Below w3.heap.size w3 wr)) (fun i _ _ _ _ => R.length - (intOf i).toNat)
    case atStart => exact ⟨0, ⟨[], n, s⟩, Nat.zero_le _, rfl, rfl, rfl, Lib.hid rfl, Lib.hid (OwnP.nil _ _), Lib.hid (Below.refl _ _)⟩
    case round =>
      obtain ⟨k, a, hk, rfl, rfl, rfl, hrun, hown, hbl⟩ := hrel
      obtain ⟨wo, hwo⟩ : ∃ wo, wo = wr := ⟨_, rfl⟩
      subst hwo
      have hA := ap_ok HS9.out.2 HFS.out k (by rw [HFL.out]; exact hk) a hrun.out
      have ha : a.size ≤ 1000000000000000000 := by have := hA.size; have := HS9.out.1; omega
      have hA1 := hA.n
      have HA3 := Lib.hid hA.len
      clear hA
      by_cases hlt : k < R.length
      · obtain ⟨b1, off1, cap1, hv, _, _, hb1, c0⟩ := (HRF.out.below hbl.out).str k (by rw [HFL.out]; exact hlt)
        obtain ⟨rfl, rfl⟩ : q1 = some ⟨b1, off1, none⟩ ∧ c1 = cap1 := by
          injection hv with e1 e2 e3
          exact ⟨e1, e3⟩
        have hkF : k < F.length := by rw [HFL.out]; exact hlt
        have hfk := HFS.out F[k] (List.getElem_mem hkF)
        have hnx := ap_next hkF hrun.out
        obtain ⟨f, hff⟩ : ∃ f, F[k] = f := ⟨_, rfl⟩
        rw [hff] at c0 hfk hnx
        have HNX := Lib.hid hnx
        clear hv hff hnx hkF
        have wsum : IntKind.i64.wrap ((a.size : Int) + (f.size : Int)) = (a.size : Int) + (f.size : Int) := IntWalk.i64_in _ (by omega)
        by_cases hfull : 0 < a.size ∧ 65536 < a.size + f.size
        · obtain ⟨hu1, hu2⟩ := hfull
          have t1 : decide ((0 : Int) < (a.size : Int)) = true := decide_eq_true (by omega)
          have t2 : decide ((65536 : Int) < (a.size : Int) + (f.size : Int)) = true := decide_eq_true (by omega)
          by_cases h9 : 999999 ≤ a.n
          · have t3 : decide ((999999 : Int) ≤ (a.n : Int)) = true := decide_eq_true (by omega)
            have HU := Lib.hid (And.intro hu1 (And.intro hu2 h9))
            clear hu2 h9
            go_wp2_with fail
            go_ret2
            have hst : apRun p n s F = none := by
              have h1 := HNX.out
              unfold apOne at h1
              rw [if_pos ⟨hu1, HU.out.2.1⟩, if_pos HU.out.2.2] at h1
              exact ap_stop h1
            rw [← HF.out] at hst
            exact ⟨n, s, [], 4, _, HE.out, Or.inr (Or.inr ⟨HSH.out, hst, rfl, rfl⟩), rfl, reads_nil _ _, below_then HB03.out hbl.out⟩
          · have t3 : decide ((999999 : Int) ≤ (a.n : Int)) = false := decide_eq_false (by omega)
            have t4 : ¬ 999999 ≤ a.n := h9
            obtain ⟨m, hm⟩ : ∃ m, m = a.n + 1 := ⟨_, rfl⟩
            have hmI : (a.n : Int) + 1 = (m : Int) := by omega
            have HM := Lib.hid hm
            have HU := Lib.hid hu2
            clear hm hu2 h9
            go_wp2_with (first
              | (go_at_call 22; (with_reducible refine (name_any p a.n _ (by omega) (by omega)).mono ?_); rintro e w4 ⟨rfl, hb4⟩; have HB4 := Lib.hid hb4; clear hb4)
              | (go_at_call 44; (with_reducible refine (syncOf_any _ _).mono ?_); rintro e w5 ⟨rfl, hb5⟩; have HB5 := Lib.hid hb5; clear hb5; unfold syncV)
              | (go_at_call 22; (with_reducible refine (name_any p m _ (by omega) (by omega)).mono ?_); rintro e w7 ⟨rfl, hb7⟩; have HB7 := Lib.hid hb7; clear hb7)
              | (at_builtin; refine wpList_append_own _ rfl _ _ 28 rfl w3.heap.size 55 i0 (.agg #[.int .i64 0, .string .empty, .int .i64 0, .string .empty]) 4 48 Try.underlying28 hi hz0 hz1 hz2 rfl (by decide) _ a.plan.length (dopCells a.plan) rfl ?b1 ⟨w5.heap.size, 0, none⟩ 1 1 [.int .i64 2, .string (nameOf p a.n), .int .i64 0, .string ⟨#[]⟩] rfl rfl ?b2 ?b3 ?b4 ?b5 ?b6 ?_; rotate_right 1; intro v6 w6 hown hg hnil; have HOWN_b := Lib.hid hown; have HG_b := Lib.hid hg; have HNIL_b := Lib.hid hnil; clear hown hg hnil)
              | (at_builtin; refine wpList_append_own _ rfl _ _ 28 rfl w3.heap.size 55 i0 (.agg #[.int .i64 0, .string .empty, .int .i64 0, .string .empty]) 4 48 Try.underlying28 hi hz0 hz1 hz2 rfl (by decide) _ (a.plan.length + 1) (dopCells a.plan ++ [.int .i64 2, .string (nameOf p a.n), .int .i64 0, .string ⟨#[]⟩]) rfl ?d1 ⟨w7.heap.size, 0, none⟩ 1 1 [.int .i64 1, .string (nameOf p m), .int .i64 0, .string f] rfl rfl ?d2 ?d3 ?d4 ?d5 ?d6 ?_; rotate_right 1; intro v8 w8 hown hg hnil; have HOWN_d := Lib.hid hown; have HG_d := Lib.hid hg; have HNIL_d := Lib.hid hnil; clear hown hg hnil)
              | fail)
            case b1 => exact owns_below (owns_below (owns_below hown.out.1 HB4.out) HB5.out) (below1 _ _)
            case b2 =>
              intro j u hu
              rw [add_lit, Nat.zero_add, cell_of_row _ _ _ _ 55 _ (heap_alloc_new w5 _)]
              simpa using hu
            case b3 =>
              intro u hu
              simp at hu
              rcases hu with rfl | rfl | rfl | rfl <;> rfl
            case b4 => have := HA3.out; unfold maxLen; omega
            case b5 => have := HA3.out; omega
            case b6 => have := hbl.out.size; have := HB4.out.size; have := HB5.out.size; simp; omega
            case d1 => exact owns_below (owns_below HOWN_b.out HB7.out) (below1 _ _)
            case d2 =>
              intro j u hu
              rw [add_lit, Nat.zero_add, cell_of_row _ _ _ _ 55 _ (heap_alloc_new w7 _)]
              simpa using hu
            case d3 =>
              intro u hu
              simp at hu
              rcases hu with rfl | rfl | rfl | rfl <;> rfl
            case d4 => have := HA3.out; unfold maxLen; omega
            case d5 => have := HA3.out; omega
            case d6 => have := hbl.out.size; have := HB4.out.size; have := HB5.out.size; have h8 := HG_b.out.size; simp at h8; have := HB7.out.size; simp; omega
            have o1 := owns_below (owns_below (owns_below hown.out.1 HB4.out) HB5.out) (below1 w5 (.cells #[.int .i64 2, .string (nameOf p a.n), .int .i64 0, .string ⟨#[]⟩] 55))
            have bx1 := nb_alloc (below_then (below_then hbl.out HB4.out) HB5.out) (.cells #[.int .i64 2, .string (nameOf p a.n), .int .i64 0, .string ⟨#[]⟩] 55)
            have bx2 := below_grown bx1 o1 HG_b.out
            have o2 := owns_below (owns_below HOWN_b.out HB7.out) (below1 w7 (.cells #[.int .i64 1, .string (nameOf p m), .int .i64 0, .string f] 55))
            have bx3 := nb_alloc (below_then bx2 HB7.out) (.cells #[.int .i64 1, .string (nameOf p m), .int .i64 0, .string f] 55)
            have bx4 := below_grown bx3 o2 HG_d.out
            refine ⟨⟨k + 1, ⟨a.plan ++ [syncOp (nameOf p a.n)] ++ [putOp (nameOf p m) 0 f], m, f.size⟩, by omega, by go_num, rfl, rfl, ?_, ?_, Lib.hid bx4⟩, by simp [intOf]; omega⟩
            · refine Lib.hid ?_
              rw [HNX.out]
              unfold apOne
              rw [if_pos ⟨hu1, HU.out⟩, if_neg t4, HM.out]
            · refine Lib.hid (own_more ?_ (fun h => absurd (HNIL_d.out.1 h) (by simp)))
              rw [dop_snoc, List.length_append]
              exact HOWN_d.out
        · have HNF := Lib.hid hfull
          by_cases hz : 0 < a.size
          · have t2 : decide ((65536 : Int) < (a.size : Int) + (f.size : Int)) = false := decide_eq_false (fun h => hfull ⟨hz, by omega⟩)
            clear hfull
            go_wp2_with (first
              | (go_at_call 22; (with_reducible refine (name_any p a.n _ (by omega) (by omega)).mono ?_); rintro e w4 ⟨rfl, hb4⟩; have HB4 := Lib.hid hb4; clear hb4)
              | (at_builtin; refine wpList_append_own _ rfl _ _ 28 rfl w3.heap.size 55 i0 (.agg #[.int .i64 0, .string .empty, .int .i64 0, .string .empty]) 4 48 Try.underlying28 hi hz0 hz1 hz2 rfl (by decide) _ a.plan.length (dopCells a.plan) rfl ?e1 ⟨w4.heap.size, 0, none⟩ 1 1 [.int .i64 1, .string (nameOf p a.n), .int .i64 (a.size : Int), .string f] rfl rfl ?e2 ?e3 ?e4 ?e5 ?e6 ?_; rotate_right 1; intro v6 w6 hown hg hnil; have HOWN_e := Lib.hid hown; have HG_e := Lib.hid hg; have HNIL_e := Lib.hid hnil; clear hown hg hnil)
              | fail)
            case e1 => exact owns_below (owns_below hown.out.1 HB4.out) (below1 _ _)
            case e2 =>
              intro j u hu
              rw [add_lit, Nat.zero_add, cell_of_row _ _ _ _ 55 _ (heap_alloc_new w4 _)]
              simpa using hu
            case e3 =>
              intro u hu
              simp at hu
              rcases hu with rfl | rfl | rfl | rfl <;> rfl
            case e4 => have := HA3.out; unfold maxLen; omega
            case e5 => have := HA3.out; omega
            case e6 => have := hbl.out.size; have := HB4.out.size; simp; omega
            have o1 := owns_below (owns_below hown.out.1 HB4.out) (below1 w4 (.cells #[.int .i64 1, .string (nameOf p a.n), .int .i64 (a.size : Int), .string f] 55))
            have bx1 := nb_alloc (below_then hbl.out HB4.out) (.cells #[.int .i64 1, .string (nameOf p a.n), .int .i64 (a.size : Int), .string f] 55)
            have bx2 := below_grown bx1 o1 HG_e.out
            refine ⟨⟨k + 1, ⟨a.plan ++ [putOp (nameOf p a.n) a.size f], a.n, a.size + f.size⟩, by omega, by go_num, rfl, by simp, ?_, ?_, Lib.hid bx2⟩, by simp [intOf]; omega⟩
            · refine Lib.hid ?_
              rw [HNX.out]
              unfold apOne
              rw [if_neg HNF.out]
            · exact Lib.hid (own_more HOWN_e.out (fun h => absurd (HNIL_e.out.1 h) (by simp)))
          · skip
            clear hfull
            go_wp2_with (first
              | (go_at_call 22; (with_reducible refine (name_any p a.n _ (by omega) (by omega)).mono ?_); rintro e w4 ⟨rfl, hb4⟩; have HB4 := Lib.hid hb4; clear hb4)
              | (at_builtin; refine wpList_append_own _ rfl _ _ 28 rfl w3.heap.size 55 i0 (.agg #[.int .i64 0, .string .empty, .int .i64 0, .string .empty]) 4 48 Try.underlying28 hi hz0 hz1 hz2 rfl (by decide) _ a.plan.length (dopCells a.plan) rfl ?g1 ⟨w4.heap.size, 0, none⟩ 1 1 [.int .i64 1, .string (nameOf p a.n), .int .i64 (a.size : Int), .string f] rfl rfl ?g2 ?g3 ?g4 ?g5 ?g6 ?_; rotate_right 1; intro v6 w6 hown hg hnil; have HOWN_g := Lib.hid hown; have HG_g := Lib.hid hg; have HNIL_g := Lib.hid hnil; clear hown hg hnil)
              | fail)
            case g1 => exact owns_below (owns_below hown.out.1 HB4.out) (below1 _ _)
            case g2 =>
              intro j u hu
              rw [add_lit, Nat.zero_add, cell_of_row _ _ _ _ 55 _ (heap_alloc_new w4 _)]
              simpa using hu
            case g3 =>
              intro u hu
              simp at hu
              rcases hu with rfl | rfl | rfl | rfl <;> rfl
            case g4 => have := HA3.out; unfold maxLen; omega
            case g5 => have := HA3.out; omega
            case g6 => have := hbl.out.size; have := HB4.out.size; simp; omega
            have o1 := owns_below (owns_below hown.out.1 HB4.out) (below1 w4 (.cells #[.int .i64 1, .string (nameOf p a.n), .int .i64 (a.size : Int), .string f] 55))
            have bx1 := nb_alloc (below_then hbl.out HB4.out) (.cells #[.int .i64 1, .string (nameOf p a.n), .int .i64 (a.size : Int), .string f] 55)
            have bx2 := below_grown bx1 o1 HG_g.out
            refine ⟨⟨k + 1, ⟨a.plan ++ [putOp (nameOf p a.n) a.size f], a.n, a.size + f.size⟩, by omega, by go_num, rfl, by simp, ?_, ?_, Lib.hid bx2⟩, by simp [intOf]; omega⟩
            · refine Lib.hid ?_
              rw [HNX.out]
              unfold apOne
              rw [if_neg HNF.out]
            · exact Lib.hid (own_more HOWN_g.out (fun h => absurd (HNIL_g.out.1 h) (by simp)))
      · obtain rfl : k = R.length := by omega
        go_wp2_with fail
        go_ret2
        have h1 := hrun.out
        rw [← HFL.out, List.take_length, ← HF.out] at h1
        exact ⟨n, s, a.plan, 0, _, HE.out, Or.inr (Or.inl ⟨HSH.out, a, h1, rfl, rfl⟩), rfl, hown.out.reads, below_then HB03.out hbl.out⟩
  · have hfr' : Calls Try.prog 42 #[rv] w0 fun e w' => e = .returned (.tuple #[.slice none 0 0, .int .i64 2]) ∧ Below w0.heap.size w0 w' :=
      hfr.mono fun e w' h => by
        rcases h with h | h
        · exact absurd h.1 hsh
        · exact h.2
    have HFR := Lib.hid hfr'
    have HSH := Lib.hid hsh
    clear hfr hfr' hsh
    go_wp2_with (first
      | (go_at_call 30; (with_reducible refine (mayBe_any p _).mono ?_); rintro e w1 ⟨rfl, rfl⟩; rw [hp])
      | (go_at_call 42; (with_reducible refine HFR.out.mono ?_); rintro e w1 ⟨rfl, hb1⟩; have HB1 := Lib.hid hb1; clear hb1)
      | fail)
    go_ret2
    obtain ⟨n, s, hE, _⟩ := end_exists p l
    exact ⟨n, s, [], 2, _, hE, Or.inl ⟨HSH.out, rfl, rfl⟩, rfl, reads_nil _ _, below_then HB0.out HB1.out⟩
end Go.Proofs.Ytkecjopojnllnaa
