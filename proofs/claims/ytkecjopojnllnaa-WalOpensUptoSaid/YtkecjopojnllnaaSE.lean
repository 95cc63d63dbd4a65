/- Append, the reference's. -/
import Derived.Test.YtkecjopojnllnaaSD
import Derived.Test.YtkecjopojnllnaaQE
import Derived.Test.YtkecjopojnllnaaQH
import Derived.Test.YtkecjopojnllnaaPSc
namespace Go.Proofs.Ytkecjopojnllnaa
open Go.RowKit Go.Deep Go.Joins
/-- Files whose parts are of sizes that the reference's bytes want. -/
def Smalls (l : List Rw) : Prop := ∀ r ∈ l, r.safe.size ≤ 1099511627776 ∧ r.opens.length ≤ 1099511627776 ∧ ∀ x ∈ r.opens, x.bytes.size ≤ 1099510579200
theorem Smalls.okay {l : List Rw} (h : Smalls l) : Okay l := by
  intro r hr
  obtain ⟨h1, h2, h3⟩ := h r hr
  exact ⟨by omega, fun x hx => by have := h3 x hx; omega, by omega⟩
def EndR (p : ByteArray) (l : List Rw) (W : World) (x y : Value) (wx : World) : Prop := ∃ n s : Nat, x = .int .i64 (n : Int) ∧ y = .int .i64 (s : Int) ∧ EndAt p l n s ∧ n ≤ 999999 ∧ Below W.heap.size W wx
set_option maxHeartbeats 1000000 in
theorem append3_no (p : ByteArray) (dv rv : Value) (w : World) (hp : prefB p = false) :
    Calls Try.prog 17 #[.agg #[dv], .string p, rv] w fun e w' => e = .returned (.tuple #[.slice none 0 0, .int .i64 1]) ∧ Below w.heap.size w w' := by
  go_enter Try.func17, Try.ntmps17
  go_wp2_with (go_at_call 36; (with_reducible refine (prefix_any p _).mono ?_); rintro e w1 ⟨rfl, rfl⟩; rw [hp])
  go_ret2
  exact ⟨rfl, below1 w _⟩
set_option maxRecDepth 100000 in
set_option maxHeartbeats 4000000 in
theorem append3_yes (l : List Rw) (q : Option Addr) (cap : Nat) (p : ByteArray) (R : List ByteArray) (rv : Value) (w : World) (hp : prefB p = true) (hr : Reads w (.slice q l.length cap) 3 l.length (rowCells l)) (ho : Opens w l) (hsm : Smalls l) (hm : l.length ≤ 1099511627776) (hrec : Reads w rv 1 R.length (strs R)) (hRm : R.length ≤ 1099511627776) (hRs : ∀ r ∈ R, r.size ≤ 1099511627776) :
    Calls Try.prog 17 #[.agg #[.slice q l.length cap], .string p, rv] w (ApPost p l R w) := by
  obtain ⟨i0, hi, hz0, hz1, hz2⟩ := info_parts (show (Try.prog.info? 55).map (fun i => (i.zero, i.size, i.bytes)) = some (some (.agg #[.int .i64 0, .string .empty, .int .i64 0, .string .empty]), 4, 48) by kernel_rfl)
  obtain ⟨q1, c1, rfl⟩ := hrec.is
  have hp8 := pref_size hp
  go_enter Try.func17, Try.ntmps17
  go_wp2_with fail
  generalize hw0 : w.alloc (Obj.cells #[.slice q l.length cap] 24) = w0
  have hb0 : Below w.heap.size w w0 := hw0 ▸ below1 w _
  have hd0 : VarAt w0 w.heap.size (.slice q l.length cap) := hw0 ▸ VarAt.new w _
  have HB0 := Lib.hid hb0
  have HD0 := Lib.hid hd0
  have d0 := hd0.c
  clear hw0 hb0 hd0
  have hrec0 := hrec.below HB0.out
  have HREC := Lib.hid hrec0
  have HR := Lib.hid hr
  have HO := Lib.hid ho
  have HSM := Lib.hid hsm
  have HRS := Lib.hid hRs
  clear hr ho hsm hrec hrec0 hRs
  go_wp2_with (first
    | (go_at_call 36; (with_reducible refine (prefix_any p _).mono ?_); rintro e w1 ⟨rfl, rfl⟩; rw [hp])
    | fail)
  go_loop [8] (fun i => ∃ k : Nat, k ≤ R.length ∧ i = .int .i64 (k : Int) ∧ Hid (∀ r ∈ R.take k, r.size ≤ 131072)) (fun i => R.length - (intOf i).toNat)
  case atStart => exact ⟨0, Nat.zero_le _, rfl, Lib.hid (fun r hr => by cases hr)⟩
  case round =>
    obtain ⟨k, hk, rfl, hsh⟩ := hrel
    by_cases hlt : k < R.length
    · obtain ⟨b1, off1, cap1, hv, _, _, hb1, c0⟩ := HREC.out.str k hlt
      obtain ⟨rfl, rfl⟩ : q1 = some ⟨b1, off1, none⟩ ∧ c1 = cap1 := by
        injection hv with e1 e2 e3
        exact ⟨e1, e3⟩
      have HTK := Lib.hid (List.take_succ_eq_append_getElem hlt)
      have HMEM := Lib.hid (List.getElem_mem hlt)
      obtain ⟨r, hrk⟩ : ∃ r, R[k] = r := ⟨_, rfl⟩
      rw [hrk] at c0 HTK HMEM
      clear hv hrk
      by_cases hlong : 131072 < r.size
      · have t1 : decide ((131072 : Int) < (r.size : Int)) = true := decide_eq_true (by omega)
        go_wp2_with fail
        go_ret2
        obtain ⟨n, s, hE, _⟩ := end_exists p l
        exact ⟨n, s, [], 2, _, hE, Or.inl ⟨fun h => by have := h r HMEM.out; omega, rfl, rfl⟩, rfl, reads_nil _ _, HB0.out⟩
      · have t1 : decide ((131072 : Int) < (r.size : Int)) = false := decide_eq_false (by omega)
        go_wp2_with fail
        go_round
        case rel =>
          refine ⟨k + 1, by omega, by go_num, Lib.hid (fun x hx => ?_)⟩
          rw [HTK.out, List.mem_append, List.mem_singleton] at hx
          rcases hx with hx | rfl
          · exact hsh.out x hx
          · omega
        case measure => simp [intOf]; omega
    · obtain rfl : k = R.length := by omega
      have hshort : shortR R := by have := hsh.out; rwa [List.take_length] at this
      have HSH := Lib.hid hshort
      clear hshort hsh
      have HSG := Lib.hid (segments2_any l _ p w0 (HR.out.below HB0.out) (by omega) hm)
      go_upto_if 38 with (first
        | (go_at_call 37; (with_reducible refine HSG.out.mono ?_); rintro e w2 ⟨v2, L, rfl, hOL, hL, hLm, hb2⟩; obtain ⟨q2, c2, rfl⟩ := owns_shape hOL.1; have HOL := Lib.hid hOL; have HL := Lib.hid hL; have HLM := Lib.hid hLm; have HB2 := Lib.hid hb2; clear hOL hL hLm hb2)
        | fail)
      have hb02 := below_then HB0.out HB2.out
      have HB02 := Lib.hid hb02
      have d2 := (HD0.out.keep HB2.out).c
      have l2 := lt_of_cell d2
      clear hb02 d0
      go_cut [10, 11, 12, 13] from 36 (fun x y _ _ wx => EndR p l w2 x y wx)
      case first =>
        by_cases hLz : L = []
        · subst hLz
          obtain ⟨rfl, rfl⟩ : q2 = none ∧ c2 = 0 := by
            have h1 := HOL.out.2.2 rfl
            injection h1 with e1 e2 e3
            exact ⟨e1, e3⟩
          go_wp2_with fail
          go_meet
          refine ⟨0, 0, rfl, rfl, Or.inl ⟨fun m hm' => ?_, rfl, rfl⟩, by omega, Below.refl _ _⟩
          have h1 := (HLM.out m).2 hm'
          cases h1
        · obtain ⟨g, cap2, hv2, hcc, hcm, hg, _, hcL⟩ := HOL.out.is hLz
          obtain ⟨rfl, rfl⟩ : q2 = some ⟨g, 0, none⟩ ∧ c2 = cap2 := by
            injection hv2 with e1 e2 e3
            exact ⟨e1, e3⟩
          obtain ⟨k, hk⟩ : ∃ k, L.length = k + 1 := ⟨L.length - 1, by have := List.length_pos_iff.2 hLz; omega⟩
          have e0 : (L.length : Int) - 1 = (k : Int) := by omega
          have h0 : 0 < L.length := by omega
          have hkl : k < L.length := by omega
          have hkb : k ≤ 9223372036854775806 := by
            have h1 := HOL.out.1.1
            unfold maxLen at hcm
            omega
          clear hcm hcc
          have ck := hcL k hkl
          obtain ⟨r, hr, hn⟩ := (HLM.out L[k]).1 (List.getElem_mem _)
          have hf : (l.find? (fun r => numB p r.name == some L[k])).isSome = true := by
            rw [List.find?_isSome]
            exact ⟨r, hr, by simp [hn]⟩
          obtain ⟨r', hr'⟩ := Option.isSome_iff_exists.1 hf
          obtain ⟨j, hjl, hidx, hlj, _, hn9⟩ := find_name hr'
          have HE : Hid (EndAt p l L[k] (layB r'.safe r'.opens).size) := Lib.hid (Or.inr ⟨r', fun m hm' => strict_last HL.out hk m ((HLM.out m).2 hm'), hr', rfl⟩)
          obtain ⟨z1, z2, z3⟩ := HSM.out l[j] (List.getElem_mem _)
          have hby := fun (W : World) (hb : Below w.heap.size w W) => bytes2_some l _ (nameOf p L[k]) W j hjl (HR.out.below hb) (fun r hr => (HO.out r hr).below hb) hm z1 z2 z3 hidx
          rw [hlj] at hby
          have HBY := Lib.hid hby
          obtain ⟨n, hnk⟩ : ∃ n, L[k] = n := ⟨_, rfl⟩
          rw [hnk] at ck HE HBY hn9
          have hE9 := end_size HE.out HSM.out.okay
          clear hby hn hf hr hr' hidx hlj z1 z2 z3 hnk hv2 hcL hk hLz
          go_wp2_with fail
          go_region_held3 (fun W => W.cell? ⟨w.heap.size, 0, none⟩ = some (.slice q l.length cap)) (first | with_reducible exact d2 | with_reducible exact (HD0.out.keep (below_then HB2.out (nb_drew (nb_refl w2)))).c | with_reducible exact (HD0.out.keep (below_then HB2.out N5.out)).c | with_reducible exact (HD0.out.keep (below_then HB2.out N4.out)).c | go_keep)
            (first
              | (go_at_call 23; with_reducible refine (name3_any p n _ (by omega) (by omega)).mono ?_; rintro e w4 ⟨rfl, hb4⟩; have N4 := Lib.hid (below_then (nb_drew (nb_refl w2)) hb4); clear hb4)
              | (go_at_call 39; with_reducible refine (HBY.out _ (below_then HB02.out N4.out)).mono ?_; rintro e w5 ⟨rfl, hb5⟩; have N5 := Lib.hid (below_then N4.out hb5); clear hb5)
              | fail)
          go_wp2_with fail
          go_meet
          exact ⟨n, _, rfl, rfl, HE.out, hn9, N5.out⟩
      case rest =>
        obtain ⟨n, s, rfl, rfl, hE, hn9, hb3⟩ := hcut
        have HE := Lib.hid hE
        have HB03 := Lib.hid (below_then HB02.out hb3)
        have HRX := Lib.hid ((HREC.out.below HB2.out).below hb3)
        have hs := end_size HE.out HSM.out.okay
        have hFl : (framesOf R).length = R.length := List.length_map _
        have hfs := frames_size HSH.out
        have HFS := Lib.hid hfs
        have HFL := Lib.hid hFl
        have HS9 := Lib.hid (And.intro hs hn9)
        have hszc := HB03.out.size
        clear hE hb3 hs hFl hfs hn9 d2 l2
        go_wp2_with fail
        go_loopw [15, 14, 10, 11] (fun i u x y wr => ∃ (k : Nat) (a : Ap), k ≤ R.length ∧ i = .int .i64 (k : Int) ∧ x = .int .i64 (a.n : Int) ∧ y = .int .i64 (a.size : Int) ∧ Hid (apRun p n s ((framesOf R).take k) = some a) ∧ Hid (OwnP wr wc.heap.size u a.plan) ∧ Hid (Below wc.heap.size wc wr)) (fun i _ _ _ _ => R.length - (intOf i).toNat)
        case atStart => exact ⟨0, ⟨[], n, s⟩, Nat.zero_le _, rfl, rfl, rfl, Lib.hid rfl, Lib.hid (OwnP.nil _ _), Lib.hid (Below.refl _ _)⟩
        case round =>
          obtain ⟨k, a, hk, rfl, rfl, rfl, hrun, hown, hbl⟩ := hrel
          obtain ⟨wo, hwo⟩ : ∃ wo, wo = wr := ⟨_, rfl⟩
          subst hwo
          have hA := ap_ok HS9.out.2 HFS.out k (by rw [HFL.out]; exact hk) a hrun.out
          have ha : a.size ≤ 1000000000000000000 := by have := hA.size; have := HS9.out.1; omega
          have hA1 := hA.n
          have HA3 := Lib.hid hA.len
          clear hA
          by_cases hlt : k < R.length
          · obtain ⟨b1, off1, cap1, hv, _, _, hb1, c0⟩ := (HRX.out.below hbl.out).str k hlt
            obtain ⟨rfl, rfl⟩ : q1 = some ⟨b1, off1, none⟩ ∧ c1 = cap1 := by
              injection hv with e1 e2 e3
              exact ⟨e1, e3⟩
            have hkF : k < (framesOf R).length := by rw [HFL.out]; exact hlt
            have hnx := ap_next hkF hrun.out
            have hFk : (framesOf R)[k] = frameB R[k] := List.getElem_map _
            have hsr := HSH.out R[k] (List.getElem_mem hlt)
            have hrs := HRS.out R[k] (List.getElem_mem hlt)
            rw [hFk] at hnx
            obtain ⟨r, hrk⟩ : ∃ r, R[k] = r := ⟨_, rfl⟩
            rw [hrk] at c0 hnx hsr hrs
            have hfk : (frameB r).size ≤ 131081 := by rw [frameB_size]; omega
            have hfr := fun W => frame3_any r W hrs
            rw [frV_short hsr] at hfr
            obtain ⟨f, hff⟩ : ∃ f, frameB r = f := ⟨_, rfl⟩
            rw [hff] at hnx hfk hfr
            have HFR := Lib.hid hfr
            have HNX := Lib.hid hnx
            clear hv hff hnx hkF hFk hrk hfr hsr hrs
            have wsum : IntKind.i64.wrap ((a.size : Int) + (f.size : Int)) = (a.size : Int) + (f.size : Int) := IntWalk.i64_in _ (by omega)
            by_cases hfull : 0 < a.size ∧ 65536 < a.size + f.size
            · obtain ⟨hu1, hu2⟩ := hfull
              have t2 : decide ((65536 : Int) < (a.size : Int) + (f.size : Int)) = true := decide_eq_true (by omega)
              by_cases h9 : 999999 ≤ a.n
              · have t3 : decide ((999999 : Int) ≤ (a.n : Int)) = true := decide_eq_true (by omega)
                have HU := Lib.hid (And.intro hu1 (And.intro hu2 h9))
                clear hu2 h9
                go_wp2_with (first
                  | (go_at_call 45; (with_reducible refine (HFR.out _).mono ?_); rintro e w9 ⟨rfl, hb9⟩; have HB9 := Lib.hid hb9; clear hb9)
                  | fail)
                go_ret2
                have hst : apRun p n s (framesOf R) = none := by
                  have h1 := HNX.out
                  unfold apOne at h1
                  rw [if_pos ⟨hu1, HU.out.2.1⟩, if_pos HU.out.2.2] at h1
                  exact ap_stop h1
                exact ⟨n, s, [], 4, _, HE.out, Or.inr (Or.inr ⟨HSH.out, hst, rfl, rfl⟩), rfl, reads_nil _ _, below_then HB03.out (below_then hbl.out HB9.out)⟩
              · have t3 : decide ((999999 : Int) ≤ (a.n : Int)) = false := decide_eq_false (by omega)
                have t4 : ¬ 999999 ≤ a.n := h9
                obtain ⟨m, hm⟩ : ∃ m, m = a.n + 1 := ⟨_, rfl⟩
                have hmI : (a.n : Int) + 1 = (m : Int) := by omega
                have HM := Lib.hid hm
                have HU := Lib.hid hu2
                clear hm hu2 h9
                go_wp2_with (first
                  | (go_at_call 45; (with_reducible refine (HFR.out _).mono ?_); rintro e w9 ⟨rfl, hb9⟩; have HB9 := Lib.hid hb9; clear hb9)
                  | (go_at_call 23; (with_reducible refine (name3_any p a.n _ (by omega) (by omega)).mono ?_); rintro e w4 ⟨rfl, hb4⟩; have HB4 := Lib.hid hb4; clear hb4)
                  | (go_at_call 23; (with_reducible refine (name3_any p m _ (by omega) (by omega)).mono ?_); rintro e w7 ⟨rfl, hb7⟩; have HB7 := Lib.hid hb7; clear hb7)
                  | (at_builtin; refine wpList_append_own _ rfl _ _ 28 rfl wc.heap.size 55 i0 (.agg #[.int .i64 0, .string .empty, .int .i64 0, .string .empty]) 4 48 Try.underlying28 hi hz0 hz1 hz2 rfl (by decide) _ a.plan.length (dopCells a.plan) rfl ?b1 ⟨w4.heap.size, 0, none⟩ 1 1 [.int .i64 2, .string (nameOf p a.n), .int .i64 0, .string ⟨#[]⟩] rfl rfl ?b2 ?b3 ?b4 ?b5 ?b6 ?_; rotate_right 1; intro v6 w6 hown hg hnil; have HOWN_b := Lib.hid hown; have HG_b := Lib.hid hg; have HNIL_b := Lib.hid hnil; clear hown hg hnil)
                  | (at_builtin; refine wpList_append_own _ rfl _ _ 28 rfl wc.heap.size 55 i0 (.agg #[.int .i64 0, .string .empty, .int .i64 0, .string .empty]) 4 48 Try.underlying28 hi hz0 hz1 hz2 rfl (by decide) _ (a.plan.length + 1) (dopCells a.plan ++ [.int .i64 2, .string (nameOf p a.n), .int .i64 0, .string ⟨#[]⟩]) rfl ?d1 ⟨w7.heap.size, 0, none⟩ 1 1 [.int .i64 1, .string (nameOf p m), .int .i64 0, .string f] rfl rfl ?d2 ?d3 ?d4 ?d5 ?d6 ?_; rotate_right 1; intro v8 w8 hown hg hnil; have HOWN_d := Lib.hid hown; have HG_d := Lib.hid hg; have HNIL_d := Lib.hid hnil; clear hown hg hnil)
                  | fail)
                case b1 => exact owns_below (owns_below (owns_below hown.out.1 HB9.out) HB4.out) (below1 _ _)
                case b2 =>
                  intro j u hu
                  rw [add_lit, Nat.zero_add, cell_of_row _ _ _ _ 55 _ (heap_alloc_new w4 _)]
                  simpa using hu
                case b3 =>
                  intro u hu
                  simp at hu
                  rcases hu with rfl | rfl | rfl | rfl <;> rfl
                case b4 => have := HA3.out; unfold maxLen; omega
                case b5 => have := HA3.out; omega
                case b6 => have := hbl.out.size; have := HB9.out.size; have := HB4.out.size; simp; omega
                case d1 => exact owns_below (owns_below HOWN_b.out HB7.out) (below1 _ _)
                case d2 =>
                  intro j u hu
                  rw [add_lit, Nat.zero_add, cell_of_row _ _ _ _ 55 _ (heap_alloc_new w7 _)]
                  simpa using hu
                case d3 =>
                  intro u hu
                  simp at hu
                  rcases hu with rfl | rfl | rfl | rfl <;> rfl
                case d4 => have := HA3.out; unfold maxLen; omega
                case d5 => have := HA3.out; omega
                case d6 => have := hbl.out.size; have := HB9.out.size; have := HB4.out.size; have h8 := HG_b.out.size; simp at h8; have := HB7.out.size; simp; omega
                have o1 := owns_below (owns_below (owns_below hown.out.1 HB9.out) HB4.out) (below1 w4 (.cells #[.int .i64 2, .string (nameOf p a.n), .int .i64 0, .string ⟨#[]⟩] 55))
                have bx1 := nb_alloc (below_then (below_then hbl.out HB9.out) HB4.out) (.cells #[.int .i64 2, .string (nameOf p a.n), .int .i64 0, .string ⟨#[]⟩] 55)
                have bx2 := below_grown bx1 o1 HG_b.out
                have o2 := owns_below (owns_below HOWN_b.out HB7.out) (below1 w7 (.cells #[.int .i64 1, .string (nameOf p m), .int .i64 0, .string f] 55))
                have bx3 := nb_alloc (below_then bx2 HB7.out) (.cells #[.int .i64 1, .string (nameOf p m), .int .i64 0, .string f] 55)
                have bx4 := below_grown bx3 o2 HG_d.out
                refine ⟨⟨k + 1, ⟨a.plan ++ [syncOp (nameOf p a.n)] ++ [putOp (nameOf p m) 0 f], m, f.size⟩, by omega, by go_num, rfl, rfl, ?_, ?_, Lib.hid bx4⟩, by simp [intOf]; omega⟩
                · refine Lib.hid ?_
                  rw [HNX.out]
                  unfold apOne
                  rw [if_pos ⟨hu1, HU.out⟩, if_neg t4, HM.out]
                · refine Lib.hid (own_more ?_ (fun h => absurd (HNIL_d.out.1 h) (by simp)))
                  rw [dop_snoc, List.length_append]
                  exact HOWN_d.out
            · have HNF := Lib.hid hfull
              by_cases hz : 0 < a.size
              · have t2 : decide ((65536 : Int) < (a.size : Int) + (f.size : Int)) = false := decide_eq_false (fun h => hfull ⟨hz, by omega⟩)
                clear hfull
                go_wp2_with (first
                  | (go_at_call 45; (with_reducible refine (HFR.out _).mono ?_); rintro e w9 ⟨rfl, hb9⟩; have HB9 := Lib.hid hb9; clear hb9)
                  | (go_at_call 23; (with_reducible refine (name3_any p a.n _ (by omega) (by omega)).mono ?_); rintro e w4 ⟨rfl, hb4⟩; have HB4 := Lib.hid hb4; clear hb4)
                  | (at_builtin; refine wpList_append_own _ rfl _ _ 28 rfl wc.heap.size 55 i0 (.agg #[.int .i64 0, .string .empty, .int .i64 0, .string .empty]) 4 48 Try.underlying28 hi hz0 hz1 hz2 rfl (by decide) _ a.plan.length (dopCells a.plan) rfl ?e1 ⟨w4.heap.size, 0, none⟩ 1 1 [.int .i64 1, .string (nameOf p a.n), .int .i64 (a.size : Int), .string f] rfl rfl ?e2 ?e3 ?e4 ?e5 ?e6 ?_; rotate_right 1; intro v6 w6 hown hg hnil; have HOWN_e := Lib.hid hown; have HG_e := Lib.hid hg; have HNIL_e := Lib.hid hnil; clear hown hg hnil)
                  | fail)
                case e1 => exact owns_below (owns_below (owns_below hown.out.1 HB9.out) HB4.out) (below1 _ _)
                case e2 =>
                  intro j u hu
                  rw [add_lit, Nat.zero_add, cell_of_row _ _ _ _ 55 _ (heap_alloc_new w4 _)]
                  simpa using hu
                case e3 =>
                  intro u hu
                  simp at hu
                  rcases hu with rfl | rfl | rfl | rfl <;> rfl
                case e4 => have := HA3.out; unfold maxLen; omega
                case e5 => have := HA3.out; omega
                case e6 => have := hbl.out.size; have := HB9.out.size; have := HB4.out.size; simp; omega
                have o1 := owns_below (owns_below (owns_below hown.out.1 HB9.out) HB4.out) (below1 w4 (.cells #[.int .i64 1, .string (nameOf p a.n), .int .i64 (a.size : Int), .string f] 55))
                have bx1 := nb_alloc (below_then (below_then hbl.out HB9.out) HB4.out) (.cells #[.int .i64 1, .string (nameOf p a.n), .int .i64 (a.size : Int), .string f] 55)
                have bx2 := below_grown bx1 o1 HG_e.out
                refine ⟨⟨k + 1, ⟨a.plan ++ [putOp (nameOf p a.n) a.size f], a.n, a.size + f.size⟩, by omega, by go_num, rfl, by simp, ?_, ?_, Lib.hid bx2⟩, by simp [intOf]; omega⟩
                · refine Lib.hid ?_
                  rw [HNX.out]
                  unfold apOne
                  rw [if_neg HNF.out]
                · exact Lib.hid (own_more HOWN_e.out (fun h => absurd (HNIL_e.out.1 h) (by simp)))
              · skip
                clear hfull
                go_wp2_with (first
                  | (go_at_call 45; (with_reducible refine (HFR.out _).mono ?_); rintro e w9 ⟨rfl, hb9⟩; have HB9 := Lib.hid hb9; clear hb9)
                  | (go_at_call 23; (with_reducible refine (name3_any p a.n _ (by omega) (by omega)).mono ?_); rintro e w4 ⟨rfl, hb4⟩; have HB4 := Lib.hid hb4; clear hb4)
                  | (at_builtin; refine wpList_append_own _ rfl _ _ 28 rfl wc.heap.size 55 i0 (.agg #[.int .i64 0, .string .empty, .int .i64 0, .string .empty]) 4 48 Try.underlying28 hi hz0 hz1 hz2 rfl (by decide) _ a.plan.length (dopCells a.plan) rfl ?g1 ⟨w4.heap.size, 0, none⟩ 1 1 [.int .i64 1, .string (nameOf p a.n), .int .i64 (a.size : Int), .string f] rfl rfl ?g2 ?g3 ?g4 ?g5 ?g6 ?_; rotate_right 1; intro v6 w6 hown hg hnil; have HOWN_g := Lib.hid hown; have HG_g := Lib.hid hg; have HNIL_g := Lib.hid hnil; clear hown hg hnil)
                  | fail)
                case g1 => exact owns_below (owns_below (owns_below hown.out.1 HB9.out) HB4.out) (below1 _ _)
                case g2 =>
                  intro j u hu
                  rw [add_lit, Nat.zero_add, cell_of_row _ _ _ _ 55 _ (heap_alloc_new w4 _)]
                  simpa using hu
                case g3 =>
                  intro u hu
                  simp at hu
                  rcases hu with rfl | rfl | rfl | rfl <;> rfl
                case g4 => have := HA3.out; unfold maxLen; omega
                case g5 => have := HA3.out; omega
                case g6 => have := hbl.out.size; have := HB9.out.size; have := HB4.out.size; simp; omega
                have o1 := owns_below (owns_below (owns_below hown.out.1 HB9.out) HB4.out) (below1 w4 (.cells #[.int .i64 1, .string (nameOf p a.n), .int .i64 (a.size : Int), .string f] 55))
                have bx1 := nb_alloc (below_then (below_then hbl.out HB9.out) HB4.out) (.cells #[.int .i64 1, .string (nameOf p a.n), .int .i64 (a.size : Int), .string f] 55)
                have bx2 := below_grown bx1 o1 HG_g.out
                refine ⟨⟨k + 1, ⟨a.plan ++ [putOp (nameOf p a.n) a.size f], a.n, a.size + f.size⟩, by omega, by go_num, rfl, by simp, ?_, ?_, Lib.hid bx2⟩, by simp [intOf]; omega⟩
                · refine Lib.hid ?_
                  rw [HNX.out]
                  unfold apOne
                  rw [if_neg HNF.out]
                · exact Lib.hid (own_more HOWN_g.out (fun h => absurd (HNIL_g.out.1 h) (by simp)))
          · obtain rfl : k = R.length := by omega
            go_wp2_with fail
            go_ret2
            have h1 := hrun.out
            rw [← HFL.out, List.take_length] at h1
            exact ⟨n, s, a.plan, 0, _, HE.out, Or.inr (Or.inl ⟨HSH.out, a, h1, rfl, rfl⟩), rfl, hown.out.reads, below_then HB03.out hbl.out⟩
end Go.Proofs.Ytkecjopojnllnaa
