/- WalKeeps, for all arguments: behind every crash, whichever open writes survive and whichever tears, a beginning of the records is there, with all that were synced; and behind its plan Open tells the same and has nothing to mend. -/
import Derived.Test.YtkecjopojnllnaaXA
namespace Go.Proofs.Ytkecjopojnllnaa
open Go.RowKit Go.Deep Go.Joins Go.WideShapes Go.ChangeShapes Go.ChangeAt
open Go.ChangeMaps (open_string shut_string)
theorem reads_small {W : World} {v : Value} {n size : Nat} {cells : List Value} (h : Reads W v size n cells) : n ≤ 9223372036854775807 := by
  rcases h.2 with ⟨_, h2⟩ | ⟨_, cap, _, h2, h3, _⟩
  · omega
  · unfold maxLen at h3; omega
set_option maxRecDepth 100000 in
set_option maxHeartbeats 8000000 in
theorem law_keeps_all (P : List ByteArray) (rv : Value) (syn : Int) (ft : List Ft) (fv : Value) (w : World) (hr : Reads w rv 1 P.length (strs P)) (hP : P.length ≤ 9223372036854775807) (h0 : 0 ≤ syn) (h1 : syn ≤ 18446744073709551615)
    (hf : Reads w fv 3 ft.length (ftCells ft)) (hw : Wholes w ft) (hm : ft.length ≤ 9223372036854775807) :
    Calls Try.prog 6 #[rv, .int .u64 syn, fv] w fun e w' => e = .returned (.bool true) ∧ Below w.heap.size w w' := by
  have HFEW := Lib.hid (fun (W : World) (hb : Below w.heap.size w W) => few_all P rv W (hr.below hb) hP)
  have HFT := Lib.hid (fun (W : World) (hb : Below w.heap.size w W) => show Reads W fv 3 ft.length (ftCells ft) ∧ Wholes W ft from ⟨hf.below hb, fun r h => (hw r h).below hb⟩)
  obtain ⟨q, cap, rfl⟩ := hr.is
  obtain ⟨qf, capf, rfl⟩ := hf.is
  clear hr hf hw
  go_enter Try.func6, Try.ntmps6
  go_upto_region 4 with (first
    | (go_at_call 9; (with_reducible refine (awake_any _).mono ?_); rintro e w1 ⟨rfl, hb1⟩; have HB1 := Lib.hid hb1; clear hb1)
    | (go_at_call 26; (with_reducible refine (HFEW.out _ HB1.out).mono ?_); rintro e w2 ⟨u, rfl, ho2, hb2⟩; obtain ⟨q2, c2, rfl⟩ := owns_shape ho2; have HO2 := Lib.hid (reads_of_owns ho2); have HB2 := Lib.hid (below_then HB1.out hb2); clear ho2 hb2)
    | fail)
  obtain ⟨F, hF⟩ : ∃ F, fewL P = F := ⟨_, rfl⟩
  have hF1 : F.length ≤ 30 := hF ▸ fewL_length P
  have HF2 := Lib.hid (show ∀ r ∈ F, r.size ≤ 40000 from hF ▸ fewL_size P)
  rw [hF] at HO2 ⊢
  clear HFEW hF
  go_upto_region 5 with fail
  obtain ⟨k0, hk0, hk1⟩ : ∃ k0 : Nat, wrap64 (syn % ((F.length : Int) + 1)) = (k0 : Int) ∧ k0 ≤ F.length := by
    have e1 := Int.emod_nonneg syn (show ((F.length : Int) + 1) ≠ 0 by omega)
    have e2 := Int.emod_lt_of_pos syn (show 0 < ((F.length : Int) + 1) by omega)
    refine ⟨(syn % ((F.length : Int) + 1)).toNat, ?_, by omega⟩
    unfold wrap64
    omega
  rw [hk0]
  clear hk0
  go_upto_region 6 with (first
    | (go_at_call 27; (with_reducible refine (written_any F _ k0 _ HO2.out hF1 HF2.out hk1).mono ?_); rintro e w3 ⟨v3, l3, cc, rfl, hown3, hst3, hc3, hb3⟩; obtain ⟨q3, c3, rfl⟩ := owns_shape hown3.1; have HOWN3 := Lib.hid hown3; have HST3 := Lib.hid hst3; have HC3 := Lib.hid hc3; have HB3 := Lib.hid (below_then HB2.out hb3); have HO3 := Lib.hid (HO2.out.below hb3); clear hown3 hst3 hc3 hb3)
    | fail)
  have HD4 : Hid (VarAt (w3.alloc (.cells #[.slice q3 l3.length c3] 24)) w3.heap.size (.slice q3 l3.length c3)) := Lib.hid (VarAt.new _ _)
  have HB4 : Hid (Below w.heap.size w (w3.alloc (.cells #[.slice q3 l3.length c3] 24))) := Lib.hid (nb_alloc HB3.out _)
  have HOWN4 := Lib.hid (HOWN3.out.below (below1 w3 (.cells #[.slice q3 l3.length c3] 24)))
  have HO4 := Lib.hid (HO3.out.below (below1 w3 (.cells #[.slice q3 l3.length c3] 24)))
  generalize w3.alloc (.cells #[.slice q3 l3.length c3] 24) = w4 at HD4 HB4 HOWN4 HO4 ⊢
  generalize w3.heap.size = N4 at HD4 ⊢
  clear HOWN3 HB3 HO3 HB1 HB2 HO2
  have d4 := HD4.out.c
  go_upto_region 9 with (first
    | (go_at_call 28; (with_reducible refine (crash_w l3 _ _ _ F cc _ ft _ HOWN4.out HST3.out (by omega) (HFT.out _ HB4.out).1 (HFT.out _ HB4.out).2 hm).mono ?_); rintro e w5 ⟨v5, l5, rfl, hc5, hown5, hb5⟩; obtain ⟨q5, c5, rfl⟩ := owns_shape hown5.1; have HCR := Lib.hid (crashed_of HST3.out hc5); have HOWN5 := Lib.hid hown5; have HB5 := Lib.hid (below_then HB4.out hb5); have HO5 := Lib.hid (HO4.out.below hb5); clear hc5 hown5 hb5)
    | fail)
  have HD6 : Hid (VarAt (w5.alloc (.cells #[.slice q5 l5.length c5] 24)) w5.heap.size (.slice q5 l5.length c5)) := Lib.hid (VarAt.new _ _)
  have HB6 : Hid (Below w.heap.size w (w5.alloc (.cells #[.slice q5 l5.length c5] 24))) := Lib.hid (nb_alloc HB5.out _)
  have HOWN6 := Lib.hid (HOWN5.out.below (below1 w5 (.cells #[.slice q5 l5.length c5] 24)))
  have HO6 := Lib.hid (HO5.out.below (below1 w5 (.cells #[.slice q5 l5.length c5] 24)))
  have HLE := Lib.hid (show w.heap.size ≤ w5.heap.size from HB5.out.size)
  generalize w5.alloc (.cells #[.slice q5 l5.length c5] 24) = w6 at HD6 HB6 HOWN6 HO6 ⊢
  generalize w5.heap.size = N6 at HD6 HLE ⊢
  clear HOWN5 HB5 HO5 HB4 HO4 HD4 d4
  have d6 := HD6.out.c
  have d7 := HD6.out.f
  have d8 := HD6.out.lt
  go_upto_region 10 with (first
    | (go_at_call 11; (with_reducible refine (open_w l5 _ _ _ HOWN6.out (HCR.out.fine (by omega))).mono ?_); rintro e w7 ⟨r, pl, rv7, pv7, rfl, ho7, hr7, hp7, hb7⟩; obtain ⟨q7, c7, rfl⟩ := hr7.is; obtain ⟨q8, c8, rfl⟩ := hp7.is; have HOP := Lib.hid ho7; have HR7 := Lib.hid hr7; have HP7 := Lib.hid hp7; have HB7 := Lib.hid (below_then HB6.out hb7); have HO7 := Lib.hid (HO6.out.below hb7); have HD7 := Lib.hid (HD6.out.keep hb7); have HOWN7 := Lib.hid (HOWN6.out.below hb7); have d9 := HD7.out.c; have d10 := HD7.out.f; have d11 := HD7.out.lt; clear ho7 hr7 hp7 hb7)
    | fail)
  obtain ⟨t1, t2, t3⟩ := HCR.out.tells r pl HOP.out
  have hcap := reads_cap HO7.out
  have HSAME : Hid (∀ W, Below w7.heap.size w7 W → Calls Try.prog 13 #[.slice q7 r.length c7, .slice q2 r.length c2] W fun e w' => e = .returned (.bool true) ∧ Below W.heap.size W w') := Lib.hid (fun W hb => by
    refine strs_true r _ _ W (HR7.out.below hb) ?_ (strs_small (HR7.out.below hb))
    cases q2 with
    | none =>
      obtain ⟨e1, e2⟩ := hcap.2 rfl
      have hr0 : r = [] := List.length_eq_zero_iff.1 (by omega)
      subst hr0
      subst e2
      exact reads_nil _ _
    | some ad => exact reads_take (HO7.out.below hb) t3 t2)
  have HT3 := Lib.hid t3
  clear t3
  have p1 : k0 ≤ r.length := by have := HC3.out; omega
  have hcp : r.length ≤ c2 := by omega
  go_upto_region 12 with (first
    | (go_at_call 13; (with_reducible refine (HSAME.out _ (Below.refl _ _)).mono ?_); rintro e w8 ⟨rfl, hb8⟩; have HB8 := Lib.hid hb8; clear hb8)
    | fail)
  clear HSAME
  have HB8w := Lib.hid (below_then HB7.out HB8.out)
  have HD8 := Lib.hid (HD7.out.keep HB8.out)
  have HOWN8 := Lib.hid (HOWN7.out.below HB8.out)
  have HR8 := Lib.hid (HR7.out.below HB8.out)
  have HP8 := Lib.hid (HP7.out.below HB8.out)
  clear d6 d7 d8 d9 d10 d11 HD6 HD7 HOWN6 HOWN7 HR7 HP7 HB6 HB7 HB8 HO6 HO7
  have d6 := HD8.out.c
  have d7 := HD8.out.f
  have d8 := HD8.out.lt
  go_upto_region 13 with (first
    | (go_at_call 25; (with_reducible refine (mend_w l5 _ _ _ F cc r pl _ HOWN8.out HCR.out (by omega) HOP.out HP8.out).mono ?_); rintro e w9 ⟨v9, l9, gs9, rfl, hown9, hfi9, hc9, hx9, hag9, hb9⟩; obtain ⟨q9, c9, rfl⟩ := owns_shape hown9.1; have HOWN9 := Lib.hid hown9; have HFI9 := Lib.hid hfi9; have HAG9 := Lib.hid hag9; have HB9 := Lib.hid (below_then HB8w.out hb9); have HR9 := Lib.hid (HR8.out.below hb9); have HD9 := Lib.hid (HD8.out.keep hb9); have x1 := HD9.out.c; have x2 := HD9.out.f; have x3 := HD9.out.lt; clear hown9 hfi9 hag9 hb9 hc9 hx9)
    | fail)
  have HDa := Lib.hid (HD9.out.same (.slice q9 l9.length c9))
  have HBa : Hid (Below w.heap.size w (w9.setCell ⟨N6, 0, none⟩ (.slice q9 l9.length c9))) := Lib.hid (nb_set HLE.out HB9.out 0 _)
  have HOWNa := Lib.hid (HOWN9.out.set HD9.out (.slice q9 l9.length c9))
  have HRa : Hid (Reads (w9.setCell ⟨N6, 0, none⟩ (.slice q9 l9.length c9)) (.slice q7 r.length c7) 1 r.length (strs r)) := Lib.hid (reads_store HR9.out HD9.out _)
  generalize w9.setCell ⟨N6, 0, none⟩ (.slice q9 l9.length c9) = wa at HDa HBa HOWNa HRa ⊢
  clear d6 d7 d8 x1 x2 x3 HD8 HD9 HOWN8 HOWN9 HR8 HR9 HP8 HB9 HB8w
  have d6 := HDa.out.c
  go_wp2_with (first
    | (go_at_call 11; (with_reducible refine (open_w l9 _ _ _ HOWNa.out HFI9.out).mono ?_); rintro e wb ⟨rb, plb, rvb, pvb, rfl, hob, hrb, hpb, hbb⟩; obtain ⟨rfl, rfl⟩ := HAG9.out rb plb hob; obtain ⟨qb, cb, rfl⟩ := hrb.is; obtain ⟨qc, cc2, rfl⟩ := hpb.is; have HRb := Lib.hid hrb; have HRab := Lib.hid (HRa.out.below hbb); have HBb := Lib.hid (below_then HBa.out hbb); clear hob hrb hpb hbb)
    | (go_at_call 13; (with_reducible refine (strs_true _ _ _ _ HRb.out HRab.out (strs_small HRb.out)).mono ?_); rintro e wc ⟨rfl, hbc⟩; have HBc := Lib.hid (below_then HBb.out hbc); clear hbc)
    | fail)
  go_ret
  exact ⟨rfl, HBc.out⟩
set_option maxRecDepth 100000 in
theorem keeps_all_lifted (os : Os) (started : os.Started) (H : Type) (enc : TypeId × Value → H) :
    ReturnsInHanded {} Try.checked os 6 .any (Rows.walKeepsSpec.pre6 enc Try.prog Try.f6 Rows.walKeepsRow.domain false) (Rows.walKeepsSpec.post enc Try.prog Try.f6 false true false false) := by
  refine returnsInHanded_of_change_sized (C := Try.checked) own started (by kernel_rfl) Try.func6
    (ChangeSpec.witness6 (enc := enc) (C := Try.checked) false ⟨#[], #[.slice none 0 0, .int .u64 0, .slice none 0 0], []⟩ 8 (by kernel_rfl) (by kernel_rfl) (by kernel_rfl) (by kernel_rfl)) ?_
  intro W base args ds gs before hval0 hW hcnd hsz _
  have hW' := hW
  obtain ⟨p, q, hA0, hV, rfl, hfz, hnd⟩ := hW
  have hval : ∀ (j : Nat) t v, Try.f6.params[j]? = some t → args[j]? = some v → Value.okWide Try.prog W .any base t v := hval0
  have hA : DataW.TrodAll enc Try.prog W 0 (fun _ => true) true Try.f6.params.toList args.toList ds p := hA0
  rw [Try.params6] at hA hval
  obtain ⟨v0, v1, v2, d0, d1, d2, p0, p1, p2, rfl, rfl, rfl, h0, h1, h2⟩ := trodAll_three hA
  obtain ⟨rfl, rfl⟩ := trodVars_none hV
  have hlt : ∀ x ∈ p0 ++ (p1 ++ p2), x.block < W.heap.size := fun x hx => hW'.lt x (by simpa using hx)
  obtain ⟨R, hR, _, _⟩ := open_recs (hval 0 27 v0 rfl rfl) h0
  obtain ⟨n, rfl, rfl, rfl, wn⟩ := open_int Try.underlying45 (hval 1 45 v1 rfl rfl) h1
  obtain ⟨lo, hi⟩ := bounds_u64 wn
  obtain ⟨ft, hf, hw, _⟩ := open_fates (hval 2 46 v2 rfl rfl) h2
  simp only [List.append_nil] at hW'
  refine (law_keeps_all R v0 n ft v2 W hR (by have := reads_small hR; omega) lo hi hf hw (by have := reads_small hf; omega)).mono fun e W' ⟨he, hb⟩ => ?_
  subst he
  refine ⟨_, rfl, _, _, _, [], p0 ++ ([] ++ p2), [], hW', trodAll_mk1 (shut_bool Try.underlying4 _), ?_, rfl, ?_, fun h => by cases h⟩
  · exact trodAll_mk3 (Below.trod laidOut (by kernel_rfl) (of_decide_eq_true (by kernel_rfl)) h0 hb fun x hx => hlt x (by simp [hx])) (shut_int Try.underlying45 wn) (Below.trod laidOut (by kernel_rfl) (of_decide_eq_true (by kernel_rfl)) h2 hb fun x hx => hlt x (by simp [hx]))
  · simpa using hb.frame _

/-- The given statement. -/
theorem keeps_all_proved : Rows.WalKeepsSaid :=
  OpenClaim.holds_of_wide 6 Try.f6 rfl rfl rfl rfl rfl rfl rfl ⟨rfl, rfl, rfl, rfl, rfl⟩ rfl rfl rfl rfl rfl (by kernel_rfl) Try.func6 (by kernel_rfl)
    (of_decide_eq_true (by kernel_rfl)) (by unfold Func.isWrapper; first | (rw [if_pos (by decide +kernel)]; kernel_rfl) | (rw [if_neg (by decide +kernel)]; exact ⟨rfl, rfl⟩))
    (fun os started H enc _ => keeps_all_lifted os started H enc)
end Go.Proofs.Ytkecjopojnllnaa
