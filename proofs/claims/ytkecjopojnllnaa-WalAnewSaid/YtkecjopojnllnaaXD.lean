/- WalAnew, for all arguments: a log that is begun anew is the old one or the one record, at whatever operation the power fails and whatever survives. -/
import Derived.Test.YtkecjopojnllnaaXA
import Derived.Test.YtkecjopojnllnaaWO
import Derived.Handy
namespace Go.Proofs.Ytkecjopojnllnaa
open Go.RowKit Go.Deep Go.Joins Go.WideShapes Go.ChangeShapes Go.ChangeAt
open Go.ChangeMaps (open_string shut_string)
theorem reads_small3 {W : World} {v : Value} {n size : Nat} {cells : List Value} (h : Reads W v size n cells) : n ≤ 9223372036854775807 := by
  rcases h.2 with ⟨_, h2⟩ | ⟨_, cap, _, h2, h3, _⟩
  · omega
  · unfold maxLen at h3; omega
set_option maxRecDepth 100000 in
set_option maxHeartbeats 2000000 in
theorem frame_long (s : ByteArray) (w : World) (h : 131072 < s.size) : Calls Try.prog 46 #[.string s] w fun e w' => e = .returned (.tuple #[.string ⟨#[]⟩, .int .i64 2]) ∧ Below w.heap.size w w' := by
  have h' : (131072 : Int) < (s.size : Int) := by omega
  go_enter Try.func46, Try.ntmps46
  go_wp2_with fail
  go_ret2
  exact ⟨rfl, Below.refl _ _⟩
set_option maxRecDepth 100000 in
set_option maxHeartbeats 2000000 in
theorem renew_long (p s : ByteArray) (dv : Value) (w : World) (hp : prefB p = true) (h : 131072 < s.size) :
    Calls Try.prog 20 #[.agg #[dv], .string p, .string s] w fun e w' => e = .returned (.tuple #[.slice none 0 0, .int .i64 2]) ∧ Below w.heap.size w w' := by
  have HFR := Lib.hid (fun W => frame_long s W h)
  go_enter Try.func20, Try.ntmps20
  go_wp2_with (first
    | (go_at_call 30; (with_reducible refine (mayBe_any p _).mono ?_); rintro e w1 ⟨rfl, rfl⟩; rw [hp])
    | (go_at_call 46; (with_reducible refine (HFR.out _).mono ?_); rintro e w1 ⟨rfl, hb1⟩; have HB1 := Lib.hid hb1; clear hb1)
    | fail)
  go_returns
  exact ⟨rfl, below_then (below1 w _) HB1.out⟩
theorem renew_any_w (l : List Rw) (v : Value) (W : World) (B : Nat) (F : List ByteArray) (c m : Nat) (s : ByteArray) (own : OwnR W B v l) (st : WSt pW (l.map core) F c m) (hF : F.length ≤ 30) (hc : F.length ≤ c) :
    Calls Try.prog 20 #[.agg #[v], .string pW, .string s] W fun e w' => ∃ (P : List DOp) (pv : Value) (err : Int), e = .returned (.tuple #[pv, .int .i64 err]) ∧ Reads w' pv 4 P.length (dopCells P) ∧ ((err = 2 ∧ P = []) ∨ (err = 0 ∧ Plans l F s P)) ∧ Below W.heap.size W w' := by
  by_cases h : s.size ≤ 131072
  · exact renew_w l v W B F c m s own st hF hc (by omega)
  · refine (renew_long pW s v W prefW (by omega)).mono ?_
    rintro e w' ⟨rfl, hb⟩
    exact ⟨[], _, 2, rfl, reads_nil _ _, .inl ⟨rfl, rfl⟩, hb⟩
set_option maxRecDepth 100000 in
set_option maxHeartbeats 8000000 in
theorem law_anew_all (P0 : List ByteArray) (rv : Value) (s : ByteArray) (part : Int) (ft : List Ft) (fv : Value) (w : World) (hr : Reads w rv 1 P0.length (strs P0)) (hP : P0.length ≤ 9223372036854775807) (h0 : 0 ≤ part) (h1 : part ≤ 18446744073709551615)
    (hf : Reads w fv 3 ft.length (ftCells ft)) (hw : Wholes w ft) (hm : ft.length ≤ 9223372036854775807) :
    Calls Try.prog 7 #[rv, .string s, .int .u64 part, fv] w fun e w' => e = .returned (.bool true) ∧ Below w.heap.size w w' := by
  have HFEW := Lib.hid (fun (W : World) (hb : Below w.heap.size w W) => few_all P0 rv W (hr.below hb) hP)
  have HFT := Lib.hid (fun (W : World) (hb : Below w.heap.size w W) => show Reads W fv 3 ft.length (ftCells ft) ∧ Wholes W ft from ⟨hf.below hb, fun r h => (hw r h).below hb⟩)
  have HM := Lib.hid hm
  obtain ⟨q, cap, rfl⟩ := hr.is
  obtain ⟨qf, capf, rfl⟩ := hf.is
  clear hr hf hw hm
  go_enter Try.func7, Try.ntmps7
  go_upto_region 4 with (first
    | (go_at_call 9; (with_reducible refine (awake_any _).mono ?_); rintro e w1 ⟨rfl, hb1⟩; have HB1 := Lib.hid hb1; clear hb1)
    | (go_at_call 26; (with_reducible refine (HFEW.out _ HB1.out).mono ?_); rintro e w2 ⟨u, rfl, ho2, hb2⟩; obtain ⟨q2, c2, rfl⟩ := owns_shape ho2; have HO2 := Lib.hid (reads_of_owns ho2); have HB2 := Lib.hid (below_then HB1.out hb2); clear ho2 hb2)
    | fail)
  obtain ⟨F, hF⟩ : ∃ F, fewL P0 = F := ⟨_, rfl⟩
  have hF1 : F.length ≤ 30 := hF ▸ fewL_length P0
  have HF2 := Lib.hid (show ∀ r ∈ F, r.size ≤ 40000 from hF ▸ fewL_size P0)
  rw [hF] at HO2 ⊢
  clear HFEW hF
  go_upto_region 5 with (first
    | (go_at_call 27; (with_reducible refine (written_any F _ F.length _ HO2.out hF1 HF2.out (Nat.le_refl _)).mono ?_); rintro e w3 ⟨v3, l3, cc, rfl, hown3, hst3, hc3, hb3⟩; obtain ⟨q3, c3, rfl⟩ := owns_shape hown3.1; have HOWN3 := Lib.hid hown3; have HST3 := Lib.hid hst3; have HC3 := Lib.hid hc3; have HB3 := Lib.hid (below_then HB2.out hb3); have HO3 := Lib.hid (HO2.out.below hb3); clear hown3 hst3 hc3 hb3)
    | fail)
  have HD4 : Hid (VarAt (w3.alloc (.cells #[.slice q3 l3.length c3] 24)) w3.heap.size (.slice q3 l3.length c3)) := Lib.hid (VarAt.new _ _)
  have HB4 : Hid (Below w.heap.size w (w3.alloc (.cells #[.slice q3 l3.length c3] 24))) := Lib.hid (nb_alloc HB3.out _)
  have HOWN4 := Lib.hid (HOWN3.out.below (below1 w3 (.cells #[.slice q3 l3.length c3] 24)))
  have HO4 := Lib.hid (HO3.out.below (below1 w3 (.cells #[.slice q3 l3.length c3] 24)))
  generalize w3.alloc (.cells #[.slice q3 l3.length c3] 24) = w4 at HD4 HB4 HOWN4 HO4 ⊢
  generalize w3.heap.size = N4 at HD4 ⊢
  clear HOWN3 HB3 HO3 HB1 HB2 HO2
  have d4 := HD4.out.c
  go_upto_region 8 with (first
    | (go_at_call 20; (with_reducible refine (renew_any_w l3 _ _ _ F cc _ s HOWN4.out HST3.out hF1 HC3.out).mono ?_); rintro e w5 ⟨P, pv, err, rfl, hr5, hq5, hb5⟩; obtain ⟨q5, c5, rfl⟩ := hr5.is; have HR5 := Lib.hid hr5; have HQ5 := Lib.hid hq5; have HB5 := Lib.hid (below_then HB4.out hb5); have HO5 := Lib.hid (HO4.out.below hb5); have HOWN5 := Lib.hid (HOWN4.out.below hb5); have HD5 := Lib.hid (HD4.out.keep hb5); clear hr5 hq5 hb5)
    | fail)
  clear d4 HD4 HB4 HOWN4 HO4
  rcases HQ5.out with ⟨rfl, rfl⟩ | ⟨rfl, hpl⟩
  · clear HQ5
    go_wp2_with fail
    go_ret
    exact ⟨rfl, HB5.out⟩
  have HPL := Lib.hid hpl
  have hP2 : 2 ≤ P.length := hpl.1
  have hP3 : P.length ≤ 40 := hpl.2.1
  clear hpl HQ5
  obtain ⟨k, hk0, hk1⟩ : ∃ k : Nat, wrap64 (part % ((P.length : Int) + 1)) = (k : Int) ∧ k ≤ P.length := by
    have e1 := Int.emod_nonneg part (show ((P.length : Int) + 1) ≠ 0 by omega)
    have e2 := Int.emod_lt_of_pos part (show 0 < ((P.length : Int) + 1) by omega)
    refine ⟨(part % ((P.length : Int) + 1)).toNat, ?_, by omega⟩
    unfold wrap64
    omega
  have hcap := reads_cap HR5.out
  obtain ⟨ad, rfl⟩ : ∃ ad, q5 = some ad := by
    cases q5 with
    | none => have := hcap.2 rfl; omega
    | some ad => exact ⟨ad, rfl⟩
  have hkc : k ≤ c5 := by omega
  clear hcap
  have d5 := HD5.out.c
  go_upto_region 11 with fail
  rw [hk0]
  clear hk0
  have H25 := Lib.hid (fun (W : World) (hb : Below w5.heap.size w5 W) => dopart_w l3 (.slice q3 l3.length c3) W _ F cc _ s P k (.slice (some ad) k c5) (HOWN5.out.below hb) HST3.out hF1 HPL.out hk1 ((reads_dops HR5.out k hk1).below hb))
  have HSS := Lib.hid (show ∀ W, Below w5.heap.size w5 W → W.cell? ⟨N4, 0, none⟩ = some (.slice q3 l3.length c3) from fun W h => below_cell h d5)
  go_region_held3 (fun W => W.cell? ⟨N4, 0, none⟩ = some (.slice q3 l3.length c3)) (first | exact d5 | exact HSS.out _ N6.out | exact HSS.out _ (nb_alloc N6.out _) | exact HSS.out _ (nb_set (Nat.le_refl _) N6.out 0 _) | go_keep) (first
    | (go_at_call 25; (with_reducible refine (H25.out _ ?bel).mono ?_); (case bel => (repeat (first | with_reducible exact nb_refl _ | with_reducible refine nb_drew ?_ | with_reducible refine nb_alloc ?_ _))); rintro e w6 ⟨v6, l6, rfl, hown6, hfF6, hfS6, htell6, hb6⟩; obtain ⟨q6, c6, rfl⟩ := owns_shape hown6.1; have N6 := Lib.hid (show Below w5.heap.size w5 w6 from below_then (by (repeat (first | with_reducible exact nb_refl _ | with_reducible refine nb_drew ?_ | with_reducible refine nb_alloc ?_ _))) hb6); have HOWN6 := Lib.hid hown6; have HFF6 := Lib.hid hfF6; have HFS6 := Lib.hid hfS6; have HTELL := Lib.hid htell6; have HB6r := Lib.hid (show w5.heap.size ≤ w6.heap.size from N6.out.size); first | (have Y6 : VarAt w6 w5.heap.size (.slice none 0 0) := VarAt.keep (by first | with_reducible exact VarAt.new _ _ | with_reducible exact VarAt.drew (VarAt.new _ _) | exact VarAt.new w5.drew _) hb6; have y6 := Y6.c; have y7 := Y6.f; have y8 := Y6.lt; clear hb6) | clear hb6; clear hown6 hfF6 hfS6 htell6)
    | fail)
  all_goals
    first
      | (have hN : Box w5 (w6.setCell ⟨w5.heap.size, 0, none⟩ (.slice q6 l6.length c6)) w5.heap.size (.slice q6 l6.length c6) l6 := ⟨Y6.same _, ⟨_, HOWN6.out.set Y6 _⟩, nb_set (Nat.le_refl _) N6.out 0 _⟩
         clear HOWN6 N6 HB6r y6 y7 y8 Y6
         revert hN
         generalize w6.setCell ⟨w5.heap.size, 0, none⟩ (.slice q6 l6.length c6) = w7
         generalize w5.heap.size = Y7
         intro hN)
      | (have hN : Box w5 (w6.alloc (.cells #[.slice q6 l6.length c6] 24)) w6.heap.size (.slice q6 l6.length c6) l6 := ⟨VarAt.new _ _, ⟨_, HOWN6.out.below (below1 _ _)⟩, nb_alloc N6.out _⟩
         clear HOWN6 N6 HB6r
         revert hN
         generalize w6.alloc (.cells #[.slice q6 l6.length c6] 24) = w7
         generalize w6.heap.size = Y7
         intro hN)
  all_goals
    clear HSS H25 d5 HD5 HOWN5 HST3 HC3 HR5 HPL hkc
    obtain ⟨B7, hown7⟩ := hN.own
    have HOWN7 := Lib.hid hown7
    have HBw := Lib.hid (below_then HB5.out hN.below)
    have HO7 := Lib.hid (HO5.out.below hN.below)
    have d7 := hN.var.c
    clear hown7 hN HB5 HO5
    go_upto_region 15 with (first
      | (go_at_call 28; (with_reducible refine (crash_any_w l6 _ _ _ ft _ HOWN7.out HFF6.out HFS6.out (HFT.out _ HBw.out).1 (HFT.out _ HBw.out).2 HM.out).mono ?_); rintro e w8 ⟨v8, l8, rfl, hc8, hown8, hfi8, hb8⟩; obtain ⟨q8, c8, rfl⟩ := owns_shape hown8.1; have HC8 := Lib.hid hc8; have HOWN8 := Lib.hid hown8; have HFI8 := Lib.hid hfi8; have HB8 := Lib.hid (below_then HBw.out hb8); have HO8 := Lib.hid (HO7.out.below hb8); clear hc8 hown8 hfi8 hb8)
      | (go_at_call 11; (with_reducible refine (open_w l8 _ _ _ HOWN8.out HFI8.out).mono ?_); rintro e w9 ⟨r, pl, rv9, pv9, rfl, ho9, hr9, _, hb9⟩; obtain ⟨q9, c9, rfl⟩ := hr9.is; have HT := Lib.hid (HTELL.out ft l8 HC8.out r pl ho9); have HR9 := Lib.hid hr9; have HB9 := Lib.hid (below_then HB8.out hb9); have HO9 := Lib.hid (HO8.out.below hb9); clear ho9 hr9 hb9)
      | fail)
    clear d7 HOWN7 HBw HO7 HOWN8 HFI8 HB8 HO8 HC8 HTELL HFF6 HFS6 HFT
    have hrow := reads_row w9 s
    by_cases h2 : 2 ≤ k
    · obtain rfl := HT.out.2 h2
      have H13 := Lib.hid (fun (W : World) (hb : Below (w9.alloc (.cells #[.string s] 9)).heap.size (w9.alloc (.cells #[.string s] 9)) W) => show Calls Try.prog 13 #[.slice q9 1 c9, .slice (some ⟨w9.heap.size, 0, none⟩) 1 1] W fun e w' => e = .returned (.bool true) ∧ Below W.heap.size W w' from
        strs_true [s] _ _ W ((HR9.out.below (below1 _ _)).below hb) (hrow.below hb) (by simp))
      clear hrow
      go_wp2_with (first
        | (go_at_call 13; (with_reducible refine (H13.out _ (Below.refl _ _)).mono ?_); rintro e wk ⟨rfl, hbk⟩; have HBk := Lib.hid (below_then (nb_alloc HB9.out _) hbk); clear hbk)
        | fail)
      go_ret
      exact ⟨rfl, HBk.out⟩
    · rcases HT.out.1 (by omega) with hrF | ⟨hk, hrs⟩
      · have H13 := Lib.hid (fun (W : World) (hb : Below w9.heap.size w9 W) => show Calls Try.prog 13 #[.slice q9 r.length c9, .slice q2 F.length c2] W fun e w' => e = .returned (.bool true) ∧ Below W.heap.size W w' from by
          subst hrF
          exact strs_true r _ _ W (HR9.out.below hb) (HO9.out.below hb) (strs_small (HR9.out.below hb)))
        clear hrow hrF
        go_wp2_with (first
          | (go_at_call 13; (with_reducible refine (H13.out _ (Below.refl _ _)).mono ?_); rintro e wk ⟨rfl, hbk⟩; have HBk := Lib.hid (below_then HB9.out hbk); clear hbk)
          | fail)
        go_ret
        exact ⟨rfl, HBk.out⟩
      · subst hrs hk
        clear hrow
        have HA13 := Lib.hid (fun (W : World) (hb : Below w9.heap.size w9 W) => show Calls Try.prog 13 #[.slice q9 1 c9, .slice q2 F.length c2] W fun e w' => ∃ B : Bool, e = .returned (.bool B) ∧ Below W.heap.size W w' from
          strs_some [s] F _ _ W (HR9.out.below hb) (HO9.out.below hb) (by simp))
        have HB13 := Lib.hid (fun (W : World) (hb : Below w9.heap.size w9 W) (X : World) (hX : Below (W.alloc (.cells #[.string s] 9)).heap.size (W.alloc (.cells #[.string s] 9)) X) => show Calls Try.prog 13 #[.slice q9 1 c9, .slice (some ⟨W.heap.size, 0, none⟩) 1 1] X fun e w' => e = .returned (.bool true) ∧ Below X.heap.size X w' from
          strs_true [s] _ _ X (((HR9.out.below hb).below (below1 _ _)).below hX) ((reads_row W s).below hX) (by simp))
        go_wp2_with (first
          | (go_at_call 13; (with_reducible refine (HA13.out _ (Below.refl _ _)).mono ?_); rintro e wk ⟨B, rfl, hbk⟩; have HBk := Lib.hid (below_then HB9.out hbk); have HBk9 := Lib.hid hbk; clear hbk)
          | (go_at_call 13; (with_reducible refine (HB13.out _ HBk9.out _ (Below.refl _ _)).mono ?_); rintro e wl ⟨rfl, hbl⟩; have HBl := Lib.hid (below_then (nb_alloc HBk.out _) hbl); clear hbl)
          | fail)
        all_goals
          go_ret
          first
            | exact ⟨rfl, HBl.out⟩
            | exact ⟨rfl, HBk.out⟩
set_option maxRecDepth 100000 in
theorem anew_all_lifted (os : Os) (started : os.Started) (H : Type) (enc : TypeId × Value → H) :
    ReturnsInHanded {} Try.checked os 7 .any (Rows.walAnewSpec.pre6 enc Try.prog Try.f7 Rows.walAnewRow.domain false) (Rows.walAnewSpec.post enc Try.prog Try.f7 false true false false) := by
  refine returnsInHanded_of_change_sized (C := Try.checked) own started (by kernel_rfl) Try.func7
    (ChangeSpec.witness6 (enc := enc) (C := Try.checked) false ⟨#[], #[.slice none 0 0, .string .empty, .int .u64 0, .slice none 0 0], []⟩ 8 (by kernel_rfl) (by kernel_rfl) (by kernel_rfl) (by kernel_rfl)) ?_
  intro W base args ds gs before hval0 hW hcnd hsz _
  have hW' := hW
  obtain ⟨p, q, hA0, hV, rfl, hfz, hnd⟩ := hW
  have hval : ∀ (j : Nat) t v, Try.f7.params[j]? = some t → args[j]? = some v → Value.okWide Try.prog W .any base t v := hval0
  have hA : DataW.TrodAll enc Try.prog W 0 (fun _ => true) true Try.f7.params.toList args.toList ds p := hA0
  rw [Try.params7] at hA hval
  obtain ⟨v0, v1, v2, v3, d0, d1, d2, d3, p0, p1, p2, p3, rfl, rfl, rfl, h0, h1, h2, h3⟩ := trodAll_four hA
  obtain ⟨rfl, rfl⟩ := trodVars_none hV
  have hlt : ∀ x ∈ p0 ++ (p1 ++ (p2 ++ p3)), x.block < W.heap.size := fun x hx => hW'.lt x (by simpa [List.append_assoc] using hx)
  obtain ⟨R, hR, _, _⟩ := open_recs (hval 0 27 v0 rfl rfl) h0
  have h1' := h1
  obtain ⟨s, rfl, rfl, rfl, _⟩ := open_string Try.underlying9 (hval 1 9 v1 rfl rfl) h1
  obtain ⟨n, rfl, rfl, rfl, wn⟩ := open_int Try.underlying45 (hval 2 45 v2 rfl rfl) h2
  obtain ⟨lo, hi⟩ := bounds_u64 wn
  obtain ⟨ft, hf, hw, _⟩ := open_fates (hval 3 46 v3 rfl rfl) h3
  simp only [List.append_nil] at hW'
  refine (law_anew_all R v0 s n ft v3 W hR (reads_small3 hR) lo hi hf hw (reads_small3 hf)).mono fun e W' ⟨he, hb⟩ => ?_
  subst he
  refine ⟨_, rfl, _, _, _, [], p0 ++ ([] ++ ([] ++ p3)), [], hW', trodAll_mk1 (shut_bool Try.underlying4 _), ?_, rfl, ?_, fun h => by cases h⟩
  · exact trodAll_mk4 (Below.trod laidOut (by kernel_rfl) (of_decide_eq_true (by kernel_rfl)) h0 hb fun x hx => hlt x (by simp [hx])) (Below.trod laidOut (by kernel_rfl) (of_decide_eq_true (by kernel_rfl)) h1' hb fun x hx => by cases hx) (shut_int Try.underlying45 wn)
      (Below.trod laidOut (by kernel_rfl) (of_decide_eq_true (by kernel_rfl)) h3 hb fun x hx => hlt x (by simp [hx]))
  · simpa [List.append_assoc] using hb.frame _

/-- The given statement. -/
theorem anew_all_proved : Rows.WalAnewSaid :=
  OpenClaim.holds_of_wide 7 Try.f7 rfl rfl rfl rfl rfl rfl rfl ⟨rfl, rfl, rfl, rfl, rfl⟩ rfl rfl rfl rfl rfl (by kernel_rfl) Try.func7 (by kernel_rfl)
    (of_decide_eq_true (by kernel_rfl)) (by unfold Func.isWrapper; first | (rw [if_pos (by decide +kernel)]; kernel_rfl) | (rw [if_neg (by decide +kernel)]; exact ⟨rfl, rfl⟩))
    (fun os started H enc _ => anew_all_lifted os started H enc)
end Go.Proofs.Ytkecjopojnllnaa
