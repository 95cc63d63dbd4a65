/- WalGoesOn, for all arguments: what is appended behind a crash, once the log is mended, stands behind what had survived, and there is nothing to mend then. -/
import Derived.Test.YtkecjopojnllnaaXA
import Derived.Test.YtkecjopojnllnaaWJ
namespace Go.Proofs.Ytkecjopojnllnaa
open Go.RowKit Go.Deep Go.Joins Go.WideShapes Go.ChangeShapes Go.ChangeAt
open Go.ChangeMaps (open_string shut_string)
theorem reads_small2 {W : World} {v : Value} {n size : Nat} {cells : List Value} (h : Reads W v size n cells) : n ≤ 9223372036854775807 := by
  rcases h.2 with ⟨_, h2⟩ | ⟨_, cap, _, h2, h3, _⟩
  · omega
  · unfold maxLen at h3; omega
set_option maxRecDepth 100000 in
set_option maxHeartbeats 8000000 in
theorem law_goes_all (P M : List ByteArray) (rv mv : Value) (ft : List Ft) (fv : Value) (w : World) (hr : Reads w rv 1 P.length (strs P)) (hP : P.length ≤ 9223372036854775807) (hmr : Reads w mv 1 M.length (strs M)) (hM : M.length ≤ 9223372036854775807)
    (hf : Reads w fv 3 ft.length (ftCells ft)) (hw : Wholes w ft) (hm : ft.length ≤ 9223372036854775807) :
    Calls Try.prog 8 #[rv, fv, mv] w fun e w' => e = .returned (.bool true) ∧ Below w.heap.size w w' := by
  have HFEW := Lib.hid (fun (W : World) (hb : Below w.heap.size w W) => few_all P rv W (hr.below hb) hP)
  have HFEM := Lib.hid (fun (W : World) (hb : Below w.heap.size w W) => few_all M mv W (hmr.below hb) hM)
  have HFT := Lib.hid (fun (W : World) (hb : Below w.heap.size w W) => show Reads W fv 3 ft.length (ftCells ft) ∧ Wholes W ft from ⟨hf.below hb, fun r h => (hw r h).below hb⟩)
  obtain ⟨q, cap, rfl⟩ := hr.is
  obtain ⟨qm, capm, rfl⟩ := hmr.is
  obtain ⟨qf, capf, rfl⟩ := hf.is
  clear hr hf hw hmr
  obtain ⟨F, hF⟩ : ∃ F, (fewL P).take 14 = F := ⟨_, rfl⟩
  have hF1 : F.length ≤ 14 := by rw [← hF, List.length_take]; omega
  have HF2 := Lib.hid (show ∀ r ∈ F, r.size ≤ 40000 from fun r h => fewL_size P r (List.mem_of_mem_take (hF ▸ h)))
  obtain ⟨G, hG⟩ : ∃ G, (fewL M).take 14 = G := ⟨_, rfl⟩
  have hG1 : G.length ≤ 14 := by rw [← hG, List.length_take]; omega
  have HG2 := Lib.hid (show ∀ r ∈ G, r.size ≤ 40000 from fun r h => fewL_size M r (List.mem_of_mem_take (hG ▸ h)))
  have HHF := Lib.hid (fun (u : Value) (W : World) (hu : Reads W u 1 (fewL P).length (strs (fewL P))) => show Calls Try.prog 29 #[u] W fun e w' => ∃ u, e = .returned u ∧ Reads w' u 1 F.length (strs F) ∧ Below W.heap.size W w' from hF ▸ half_any (fewL P) u W hu)
  have HHG := Lib.hid (fun (u : Value) (W : World) (hu : Reads W u 1 (fewL M).length (strs (fewL M))) => show Calls Try.prog 29 #[u] W fun e w' => ∃ u, e = .returned u ∧ Reads w' u 1 G.length (strs G) ∧ Below W.heap.size W w' from hG ▸ half_any (fewL M) u W hu)
  clear hF hG
  go_enter Try.func8, Try.ntmps8
  go_upto_region 4 with (first
    | (go_at_call 9; (with_reducible refine (awake_any _).mono ?_); rintro e w1 ⟨rfl, hb1⟩; have HB1 := Lib.hid hb1; clear hb1)
    | (go_at_call 26; (with_reducible refine (HFEW.out _ HB1.out).mono ?_); rintro e w2 ⟨u, rfl, ho2, hb2⟩; obtain ⟨q2, c2, rfl⟩ := owns_shape ho2; have HO2 := Lib.hid (reads_of_owns ho2); have HB2 := Lib.hid (below_then HB1.out hb2); clear ho2 hb2)
    | (go_at_call 29; (with_reducible refine (HHF.out _ _ HO2.out).mono ?_); rintro e w3 ⟨u3, rfl, ho3, hb3⟩; obtain ⟨q3, c3, rfl⟩ := ho3.is; have HO3 := Lib.hid ho3; have HB3 := Lib.hid (below_then HB2.out hb3); clear ho3 hb3)
    | (go_at_call 27; (with_reducible refine (written_zero F _ _ HO3.out hF1 HF2.out).mono ?_); rintro e w4 ⟨v4, l4, rfl, hown4, hst4, hb4⟩; obtain ⟨q4, c4, rfl⟩ := owns_shape hown4.1; have HOWN4 := Lib.hid hown4; have HST4 := Lib.hid hst4; have HB4 := Lib.hid (below_then HB3.out hb4); clear hown4 hst4 hb4)
    | fail)
  have HD5 : Hid (VarAt (w4.alloc (.cells #[.slice q4 l4.length c4] 24)) w4.heap.size (.slice q4 l4.length c4)) := Lib.hid (VarAt.new _ _)
  have HB5 : Hid (Below w.heap.size w (w4.alloc (.cells #[.slice q4 l4.length c4] 24))) := Lib.hid (nb_alloc HB4.out _)
  have HOWN5 := Lib.hid (HOWN4.out.below (below1 w4 (.cells #[.slice q4 l4.length c4] 24)))
  generalize w4.alloc (.cells #[.slice q4 l4.length c4] 24) = w5 at HD5 HB5 HOWN5 ⊢
  generalize w4.heap.size = N5 at HD5 ⊢
  clear HOWN4 HB4 HO3 HB3 HO2 HB2 HB1 HFEW HHF
  have d5 := HD5.out.c
  go_upto_region 7 with (first
    | (go_at_call 28; (with_reducible refine (crash_w l4 _ _ _ F 0 15 ft _ HOWN5.out HST4.out (by omega) (HFT.out _ HB5.out).1 (HFT.out _ HB5.out).2 hm).mono ?_); rintro e w6 ⟨v6, l6, rfl, hc6, hown6, hb6⟩; obtain ⟨q6, c6, rfl⟩ := owns_shape hown6.1; have HC6 := Lib.hid hc6; have HCR := Lib.hid (crashed_of HST4.out hc6); have HOWN6 := Lib.hid hown6; have HB6 := Lib.hid (below_then HB5.out hb6); clear hc6 hown6 hb6)
    | fail)
  have HD7 : Hid (VarAt (w6.alloc (.cells #[.slice q6 l6.length c6] 24)) w6.heap.size (.slice q6 l6.length c6)) := Lib.hid (VarAt.new _ _)
  have HB7 : Hid (Below w.heap.size w (w6.alloc (.cells #[.slice q6 l6.length c6] 24))) := Lib.hid (nb_alloc HB6.out _)
  have HOWN7 := Lib.hid (HOWN6.out.below (below1 w6 (.cells #[.slice q6 l6.length c6] 24)))
  have HLE := Lib.hid (show w.heap.size ≤ w6.heap.size from HB6.out.size)
  generalize w6.alloc (.cells #[.slice q6 l6.length c6] 24) = w7 at HD7 HB7 HOWN7 ⊢
  generalize w6.heap.size = N7 at HD7 HLE ⊢
  clear HOWN6 HB6 HOWN5 HB5 HD5 d5
  have d6 := HD7.out.c
  go_upto_region 8 with (first
    | (go_at_call 11; (with_reducible refine (open_w l6 _ _ _ HOWN7.out (HCR.out.fine (by omega))).mono ?_); rintro e w8 ⟨r, pl, rv8, pv8, rfl, ho8, hr8, hp8, hb8⟩; obtain ⟨q8, c8, rfl⟩ := hr8.is; obtain ⟨q9, c9, rfl⟩ := hp8.is; have HOP := Lib.hid ho8; have HR8 := Lib.hid hr8; have HP8 := Lib.hid hp8; have HB8 := Lib.hid (below_then HB7.out hb8); have HD8 := Lib.hid (HD7.out.keep hb8); have HOWN8 := Lib.hid (HOWN7.out.below hb8); have d9 := HD8.out.c; have d10 := HD8.out.f; have d11 := HD8.out.lt; clear ho8 hr8 hp8 hb8)
    | fail)
  have t2 := (HCR.out.tells r pl HOP.out).2.1
  clear d6 HD7 HOWN7 HB7
  go_upto_region 9 with (first
    | (go_at_call 25; (with_reducible refine (mendlog_w l4 l6 _ _ _ F 0 15 ft r pl _ HOWN8.out HST4.out HC6.out (by omega) HOP.out HP8.out).mono ?_); rintro e w9 ⟨v9, l9, n9, s9, rfl, hown9, hst9, hb9⟩; obtain ⟨qa, ca, rfl⟩ := owns_shape hown9.1; have HOWN9 := Lib.hid hown9; have HST9 := Lib.hid hst9; have HB9 := Lib.hid (below_then HB8.out hb9); have HR9 := Lib.hid (HR8.out.below hb9); have HD9 := Lib.hid (HD8.out.keep hb9); have x1 := HD9.out.c; have x2 := HD9.out.f; have x3 := HD9.out.lt; clear hown9 hst9 hb9)
    | fail)
  have HDa := Lib.hid (HD9.out.same (.slice qa l9.length ca))
  have HBa : Hid (Below w.heap.size w (w9.setCell ⟨N7, 0, none⟩ (.slice qa l9.length ca))) := Lib.hid (nb_set HLE.out HB9.out 0 _)
  have HOWNa := Lib.hid (HOWN9.out.set HD9.out (.slice qa l9.length ca))
  have HRa : Hid (Reads (w9.setCell ⟨N7, 0, none⟩ (.slice qa l9.length ca)) (.slice q8 r.length c8) 1 r.length (strs r)) := Lib.hid (reads_store HR9.out HD9.out _)
  generalize w9.setCell ⟨N7, 0, none⟩ (.slice qa l9.length ca) = wa at HDa HBa HOWNa HRa ⊢
  clear d9 d10 d11 x1 x2 x3 HD8 HD9 HOWN8 HOWN9 HR8 HR9 HP8 HB9 HB8 HST4 HCR HC6 HOP
  go_upto_region 12 with (first
    | (go_at_call 26; (with_reducible refine (HFEM.out _ HBa.out).mono ?_); rintro e wb ⟨u, rfl, hob, hbb⟩; obtain ⟨qb, cb, rfl⟩ := owns_shape hob; have HOb := Lib.hid (reads_of_owns hob); have HBb := Lib.hid hbb; clear hob hbb)
    | (go_at_call 29; (with_reducible refine (HHG.out _ _ HOb.out).mono ?_); rintro e wc ⟨uc, rfl, hoc, hbc⟩; obtain ⟨qc, cc, rfl⟩ := hoc.is; have HOc := Lib.hid hoc; have HBc := Lib.hid (below_then HBb.out hbc); clear hoc hbc)
    | fail)
  have HBd := Lib.hid (below_then HBa.out HBc.out)
  have HDd := Lib.hid (HDa.out.keep HBc.out)
  have HOWNd := Lib.hid (HOWNa.out.below HBc.out)
  have HRd := Lib.hid (HRa.out.below HBc.out)
  clear HBa HDa HOWNa HRa HOb HBb HBc HFEM HHG
  have d6 := HDd.out.c
  have d7 := HDd.out.f
  have d8 := HDd.out.lt
  go_upto_region 13 with (first
    | (go_at_call 16; (with_reducible refine (appmany_w l9 _ _ _ r G 15 n9 s9 _ HOWNd.out HST9.out (by omega) (by omega) HG2.out HOc.out).mono ?_); rintro e we ⟨Pe, pve, gse, ne, se, rfl, hre, hne, hxe, hste, hbe⟩; have HRe := Lib.hid hre; have HNe := Lib.hid hne; have HXe := Lib.hid hxe; have HSTe := Lib.hid hste; have HBe := Lib.hid (below_then HBd.out hbe); have HDe := Lib.hid (HDd.out.keep hbe); have HOWNe := Lib.hid (HOWNd.out.below hbe); have HRr := Lib.hid (HRd.out.below hbe); have HOe := Lib.hid (HOc.out.below hbe); have y1 := HDe.out.c; have y2 := HDe.out.f; have y3 := HDe.out.lt; clear hre hne hxe hste hbe)
    | fail)
  clear d6 d7 d8 HBd HDd HOWNd HRd HOc
  go_upto_region 14 with (first
    | (go_at_call 25; (with_reducible refine (do_w l9 _ _ _ r 0 15 Pe _ gse HOWNe.out HST9.out.st (by omega) HRe.out (by have := HNe.out; omega) HXe.out).mono ?_); rintro e wf ⟨vf, lf, rfl, hcf, hownf, hbf⟩; obtain ⟨qg, cg, rfl⟩ := owns_shape hownf.1; have HSTf := Lib.hid (show WEnd pW (lf.map core) (r ++ G) (15 + G.length) ne se from hcf ▸ HSTe.out); have HOWNf := Lib.hid hownf; have HBf := Lib.hid (below_then HBe.out hbf); have HRf := Lib.hid (HRr.out.below hbf); have HOf := Lib.hid (HOe.out.below hbf); have HDf := Lib.hid (HDe.out.keep hbf); have x1 := HDf.out.c; have x2 := HDf.out.f; have x3 := HDf.out.lt; clear hcf hownf hbf)
    | fail)
  have HDg := Lib.hid (HDf.out.same (.slice qg lf.length cg))
  have HBg : Hid (Below w.heap.size w (wf.setCell ⟨N7, 0, none⟩ (.slice qg lf.length cg))) := Lib.hid (nb_set HLE.out HBf.out 0 _)
  have HOWNg := Lib.hid (HOWNf.out.set HDf.out (.slice qg lf.length cg))
  have HRg : Hid (Reads (wf.setCell ⟨N7, 0, none⟩ (.slice qg lf.length cg)) (.slice q8 r.length c8) 1 r.length (strs r)) := Lib.hid (reads_store HRf.out HDf.out _)
  have HOg : Hid (Reads (wf.setCell ⟨N7, 0, none⟩ (.slice qg lf.length cg)) (.slice qc G.length cc) 1 G.length (strs G)) := Lib.hid (reads_store HOf.out HDf.out _)
  generalize wf.setCell ⟨N7, 0, none⟩ (.slice qg lf.length cg) = wg at HDg HBg HOWNg HRg HOg ⊢
  clear x1 x2 x3 y1 y2 y3 HDe HDf HOWNe HOWNf HRr HRe HRf HOe HOf HBe HBf HNe HXe HSTe HST9
  have d6 := HDg.out.c
  have HFI := Lib.hid (HSTf.out.st.fine (by rw [List.length_append]; omega))
  go_upto_region 17 with (first
    | (go_at_call 11; (with_reducible refine (open_w lf _ _ _ HOWNg.out HFI.out).mono ?_); rintro e wh ⟨rh, ph, rvh, pvh, rfl, hoh, hrh, hph, hbh⟩; obtain ⟨rfl, rfl⟩ := open_end HSTf.out hoh; obtain ⟨qh, ch, rfl⟩ := hrh.is; obtain ⟨qi, ci, rfl⟩ := hph.is; have HRh := Lib.hid hrh; have HBh := Lib.hid (below_then HBg.out hbh); have HRm := Lib.hid (HRg.out.below hbh); have HOm := Lib.hid (HOg.out.below hbh); clear hoh hrh hph hbh)
    | fail)
  clear d6 HDg HOWNg HRg HOg HBg HFI
  obtain ⟨i0, hi, hz0, hz1, hz2⟩ := info_parts (show (Try.prog.info? 9).map (fun i => (i.zero, i.size, i.bytes)) = some (some (.string .empty), 1, 16) by kernel_rfl)
  have one : ∀ L : List ByteArray, ∀ u ∈ strs L, u.oneCell' = true := fun L u hu => by
    unfold strs at hu
    obtain ⟨s, _, rfl⟩ := List.mem_map.1 hu
    rfl
  have own0 : (wh.alloc (.cells #[] 9)).ownsRow wh.heap.size 9 1 (.slice (some ⟨wh.heap.size, 0, none⟩) 0 0) 0 [] := owns_empty (heap_alloc_new _ _) (Nat.le_refl _)
  obtain ⟨p1, k1, wi, hrun1, own1, gr1⟩ := run_append_any (P := Try.prog) 27 27 wh.heap.size 9 i0 (.string .empty) 1 16 Try.underlying27 hi hz0 hz1 hz2 rfl (by decide) _ 0 [] own0 _ r.length (strs r) (HRm.out.below (below1 wh (.cells #[] 9))) (one r) (by unfold maxLen; omega) (by omega) (by simp)
  have hbi : Below wh.heap.size wh wi := below_grown (below1 wh (.cells #[] 9)) own0 gr1
  rw [Nat.zero_add] at hrun1 own1
  rw [List.nil_append] at own1
  obtain ⟨p2, k2, wj, hrun2, own2, gr2⟩ := run_append_any (P := Try.prog) 27 27 wh.heap.size 9 i0 (.string .empty) 1 16 Try.underlying27 hi hz0 hz1 hz2 rfl (by decide) _ r.length (strs r) own1 _ G.length (strs G) (HOm.out.below hbi) (one G) (by unfold maxLen; omega) (by omega) hbi.size
  have hbj : Below wh.heap.size wh wj := below_grown hbi own1 gr2
  have hstr : strs r ++ strs G = strs (r ++ G) := by unfold strs; rw [List.map_append]
  rw [hstr] at own2
  have H13 := Lib.hid (fun (W : World) (hb : Below wj.heap.size wj W) => show Calls Try.prog 13 #[.slice qh (r.length + G.length) ch, .slice p2 (r.length + G.length) k2] W fun e w' => e = .returned (.bool true) ∧ Below W.heap.size W w' from by
    have h1 := HRh.out
    rw [List.length_append] at h1
    refine strs_true (r ++ G) _ _ W ?_ ?_ ?_
    · rw [List.length_append]; exact (h1.below hbj).below hb
    · rw [List.length_append]; exact (reads_of_owns own2).below hb
    · rw [List.length_append]; omega)
  have HRUN1 := Lib.hid hrun1
  have HRUN2 := Lib.hid hrun2
  have HBj := Lib.hid (below_then HBh.out hbj)
  clear hrun1 hrun2 own0 own1 own2 gr1 gr2 hbi hbj hstr one hi hz0 hz1 hz2 HRh HRm HOm HBh
  go_wp2_with (first
    | (at_builtin; refine Go.wpList_append_any (by rfl) (.tmp 89) (.tmp 90) 27 rfl (.slice (some ⟨wh.heap.size, 0, none⟩) 0 0) (.slice q8 r.length c8) (.slice p1 r.length k1) rfl rfl wi HRUN1.out ?_)
    | (at_builtin; refine Go.wpList_append_any (by rfl) (.tmp 91) (.tmp 92) 27 rfl (.slice p1 r.length k1) (.slice qc G.length cc) (.slice p2 (r.length + G.length) k2) rfl rfl wj HRUN2.out ?_)
    | (go_at_call 13; (with_reducible refine (H13.out _ (Below.refl _ _)).mono ?_); rintro e wk ⟨rfl, hbk⟩; have HBk := Lib.hid (below_then HBj.out hbk); clear hbk)
    | fail)
  go_ret
  exact ⟨rfl, HBk.out⟩
set_option maxRecDepth 100000 in
theorem goeson_all_lifted (os : Os) (started : os.Started) (H : Type) (enc : TypeId × Value → H) :
    ReturnsInHanded {} Try.checked os 8 .any (Rows.walGoesOnSpec.pre6 enc Try.prog Try.f8 Rows.walGoesOnRow.domain false) (Rows.walGoesOnSpec.post enc Try.prog Try.f8 false true false false) := by
  refine returnsInHanded_of_change_sized (C := Try.checked) own started (by kernel_rfl) Try.func8
    (ChangeSpec.witness6 (enc := enc) (C := Try.checked) false ⟨#[], #[.slice none 0 0, .slice none 0 0, .slice none 0 0], []⟩ 8 (by kernel_rfl) (by kernel_rfl) (by kernel_rfl) (by kernel_rfl)) ?_
  intro W base args ds gs before hval0 hW hcnd hsz _
  have hW' := hW
  obtain ⟨p, q, hA0, hV, rfl, hfz, hnd⟩ := hW
  have hval : ∀ (j : Nat) t v, Try.f8.params[j]? = some t → args[j]? = some v → Value.okWide Try.prog W .any base t v := hval0
  have hA : DataW.TrodAll enc Try.prog W 0 (fun _ => true) true Try.f8.params.toList args.toList ds p := hA0
  rw [Try.params8] at hA hval
  obtain ⟨v0, v1, v2, d0, d1, d2, p0, p1, p2, rfl, rfl, rfl, h0, h1, h2⟩ := trodAll_three hA
  obtain ⟨rfl, rfl⟩ := trodVars_none hV
  have hlt : ∀ x ∈ p0 ++ (p1 ++ p2), x.block < W.heap.size := fun x hx => hW'.lt x (by simpa using hx)
  obtain ⟨R, hR, _, _⟩ := open_recs (hval 0 27 v0 rfl rfl) h0
  obtain ⟨ft, hf, hw, _⟩ := open_fates (hval 1 46 v1 rfl rfl) h1
  obtain ⟨M, hM, _, _⟩ := open_recs (hval 2 27 v2 rfl rfl) h2
  simp only [List.append_nil] at hW'
  refine (law_goes_all R M v0 v2 ft v1 W hR (by have := reads_small2 hR; omega) hM (by have := reads_small2 hM; omega) hf hw (by have := reads_small2 hf; omega)).mono fun e W' ⟨he, hb⟩ => ?_
  subst he
  refine ⟨_, rfl, _, _, _, [], p0 ++ (p1 ++ p2), [], hW', trodAll_mk1 (shut_bool Try.underlying4 _), ?_, rfl, ?_, fun h => by cases h⟩
  · exact trodAll_mk3 (Below.trod laidOut (by kernel_rfl) (of_decide_eq_true (by kernel_rfl)) h0 hb fun x hx => hlt x (by simp [hx])) (Below.trod laidOut (by kernel_rfl) (of_decide_eq_true (by kernel_rfl)) h1 hb fun x hx => hlt x (by simp [hx])) (Below.trod laidOut (by kernel_rfl) (of_decide_eq_true (by kernel_rfl)) h2 hb fun x hx => hlt x (by simp [hx]))
  · simpa using hb.frame _

/-- The given statement. -/
theorem goeson_all_proved : Rows.WalGoesOnSaid :=
  OpenClaim.holds_of_wide 8 Try.f8 rfl rfl rfl rfl rfl rfl rfl ⟨rfl, rfl, rfl, rfl, rfl⟩ rfl rfl rfl rfl rfl (by kernel_rfl) Try.func8 (by kernel_rfl)
    (of_decide_eq_true (by kernel_rfl)) (by unfold Func.isWrapper; first | (rw [if_pos (by decide +kernel)]; kernel_rfl) | (rw [if_neg (by decide +kernel)]; exact ⟨rfl, rfl⟩))
    (fun os started H enc _ => goeson_all_lifted os started H enc)
end Go.Proofs.Ytkecjopojnllnaa
