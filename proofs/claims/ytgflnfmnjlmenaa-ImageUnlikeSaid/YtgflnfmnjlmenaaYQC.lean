/- Join's walk, further. -/
import Derived.Test.YtgflnfmnjlmenaaYQB
namespace Go.Proofs.Ytgflnfmnjlmenaa
open Go.RowKit Go.Deep Go.Joins
set_option maxRecDepth 100000
theorem str_ne {a b : ByteArray} (h : a ≠ b) : (a.toList == b.toList) = false := by
  rw [beq_eq_false_iff_ne, ByteArray.toList_eq, ByteArray.toList_eq]
  intro e
  exact h (by cases a; cases b; simp only [ByteArray.mk.injEq]; exact Array.toList_inj.1 e)
theorem str_eq (a : ByteArray) : (a.toList == a.toList) = true := by simp
theorem head_is (m : Mc) (p : Pt) : ∃ (s : ByteArray) (k : Int), headV m p = .tuple #[.string s, .int .i64 k] := by
  unfold headV
  split
  · split
    · exact ⟨_, _, rfl⟩
    · exact ⟨_, _, rfl⟩
  · exact ⟨_, _, rfl⟩
theorem unF_length : ∀ (n : Nat) (r : ByteArray) (L : List ByteArray), unF n r = some L → L.length = n
  | 0, r, L, h => by
    unfold unF at h
    split at h
    · cases h; rfl
    · cases h
  | n + 1, r, L, h => by
    unfold unF at h
    cases hf : firstF r with
    | none => rw [hf] at h; cases h
    | some f =>
      rw [hf] at h
      cases hu : unF n (r.extract (4 + f.size) r.size) with
      | none => simp [hu] at h
      | some L' =>
        simp [hu] at h
        subst h
        rw [List.length_cons, unF_length n _ _ hu]
theorem unpackF_le {s : ByteArray} {L : List ByteArray} (h : unpackF s = some L) : L.length ≤ 1024 := by
  unfold unpackF at h
  split at h
  · rename_i hh
    rw [unF_length _ _ _ h]; omega
  · cases h
theorem leafs_div (data : ByteArray) : ((data.size : Nat) : Int) / 256 = ((leafs data : Nat) : Int) := by unfold leafs; simp
set_option maxHeartbeats 4000000 in
theorem join_new (head data : ByteArray) (F : List ByteArray) (W : World) (hs : head.size ≤ 9223372036854775807) (hs2 : data.size ≤ 9223372036854775807) (hu : unpackF head = some F) (h73 : 73 ≤ F.length) (hn : ¬ newOk data) : Calls Try.prog 13 #[.string head, .string data] W (JoinR head data W) := by
  have HN := Lib.hid (show ∀ F h, ¬ JoinOk head data F h from fun F h73 x => hn x.2.1)
  have U := Lib.hid (fun w => unpack_any head w hs)
  unfold UnR at U
  rw [hu] at U
  have N := Lib.hid (fun w => mnew_no (leafs data : Nat) data w (fun x => hn ⟨by omega, by omega, by omega⟩))
  have hl2 : ¬ (F.length : Int) < 73 := by omega
  have hdv := leafs_div data
  generalize ((leafs data : Nat) : Int) = nl at hdv N
  clear hn hu
  go_enter Try.func13, Try.ntmps13
  go_upto_region 1 with (fail)
  have G1 := Lib.hid (show (W.alloc (.cells zc42 42)).heap[W.heap.size]? = some (.cells zc42 42 (0, 0)) from heap_alloc_last W _)
  have BA := Lib.hid (below1 W (.cells zc42 42))
  generalize W.alloc (.cells zc42 42) = wa at G1 BA ⊢
  go_upto_region 4 with (first | (go_at_call 12; (with_reducible refine (U.out _).mono ?_); rintro e wb ⟨q, c, rfl, ho, kk⟩; have G2 := Lib.hid ((kk.block _ (Array.getElem?_eq_some_iff.1 G1.out).1).trans G1.out); have B2 := Lib.hid (below_then BA.out kk); clear kk ho) | fail)
  obtain ⟨k, hk, C⟩ := N.out wb
  have C26 := Lib.hid C
  have hb : (k != 0) = true := by rw [bne_iff_ne]; exact hk
  clear C hk N
  go_upto_region 5 with (first | (go_at_call 26; (with_reducible refine C26.out.mono ?_); rintro e wc ⟨rfl, kk⟩; have G3 := Lib.hid ((kk.block _ (Array.getElem?_eq_some_iff.1 G2.out).1).trans G2.out); have B3 := Lib.hid (below_then B2.out kk); clear kk; have Z3 := Lib.hid (show (wc.alloc (.cells zc42 42)).heap[wc.heap.size]? = some (.cells zc42 42 (0, 0)) from heap_alloc_last wc _)) | (with_reducible refine wpList_store_by rfl rfl (MBox.store mcZ mcZ_one Z3.out (by kernel_rfl)) rfl rfl ?_) | fail)
  have G4 := Lib.hid ((setRow_other (wc.alloc (.cells zc42 42)) wc.heap.size W.heap.size (mcC mcZ) (fun e => by have := (Array.getElem?_eq_some_iff.1 G3.out).1; omega)).trans (((below1 wc (.cells zc42 42)).block _ (Array.getElem?_eq_some_iff.1 G3.out).1).trans G3.out))
  have B4 := Lib.hid (below_setRow (below_then B3.out (below1 wc (.cells zc42 42))) B3.out.size (mcC mcZ))
  clear Z3 G3 B3
  generalize wc.heap.size = z at *
  generalize (wc.alloc (.cells zc42 42)).setRow z (mcC mcZ) = wd at G4 B4 ⊢
  go_wp2_with (first | ((with_reducible show wpList _ _ _ (⟨some 34, Op.build 42 _, _, _, _, _⟩ :: _) _ _); refine wpList_exec (by kernel_rfl) (exec_build0 rfl built42z) ?_; simp only [Act.put, List.setIfInBounds_toArray, List.set_cons_zero, List.set_cons_succ]) | (with_reducible refine wpList_store_by rfl rfl (MBox.store mcZ mcZ_one G4.out (by kernel_rfl)) rfl rfl ?_) | fail)
  refine bodyPost_ret (v := .tuple #[mcV mcZ, .int .i64 170]) (results_mc Try.results13 _ _ W.heap.size _ _ rfl (setRow_heap wd W.heap.size _ _ 42 (0, 0) G4.out) rfl) rfl (join_bad HN.out rfl (below_setRow B4.out (Nat.le_refl _) _))
set_option maxHeartbeats 8000000 in
theorem join_rest (head data : ByteArray) (F : List ByteArray) (W : World) (hs : head.size ≤ 9223372036854775807) (hs2 : data.size ≤ 9223372036854775807) (hu : unpackF head = some F) (h73 : 73 ≤ F.length) (hn : newOk data) : Calls Try.prog 13 #[.string head, .string data] W (JoinR head data W) := by
  have U := Lib.hid (fun w => unpack_any head w hs)
  unfold UnR at U
  rw [hu] at U
  have HL := Lib.hid (unpackF_le hu)
  have HU := Lib.hid (And.intro hu hn)
  have C26 := Lib.hid (fun w => mnew_any (leafs data) data w hn.1 hn.2.1 hn.2.2)
  obtain ⟨hd, k, hv⟩ := head_is (joinM F h73 (.slice none 0 0) (.slice none 0 0) none 0) (joinP F data)
  have HV := Lib.hid (show joinV F h73 data = .tuple #[.string hd, .int .i64 k] from hv)
  have hl2 : ¬ (F.length : Int) < 73 := by omega
  have hdv := leafs_div data
  have hP := Lib.hid (show (joinP F data).D = spl (List.replicate (leafs data * 256) 0) 0 data ∧ (joinP F data).M = List.replicate (leafs data) 0 from ⟨rfl, rfl⟩)
  obtain ⟨D, eD⟩ : ∃ D, D = spl (List.replicate (leafs data * 256) (0 : UInt8)) 0 data := ⟨_, rfl⟩
  obtain ⟨M, eM⟩ : ∃ M, M = List.replicate (leafs data) (0 : Int) := ⟨_, rfl⟩
  rw [← eD, ← eM] at C26 hP
  generalize ((leafs data : Nat) : Int) = nl at hdv C26
  clear hn hu hv eD eM
  go_enter Try.func13, Try.ntmps13
  go_upto_region 1 with (fail)
  have G1 := Lib.hid (show (W.alloc (.cells zc42 42)).heap[W.heap.size]? = some (.cells zc42 42 (0, 0)) from heap_alloc_last W _)
  have BA := Lib.hid (below1 W (.cells zc42 42))
  generalize W.alloc (.cells zc42 42) = wa at G1 BA ⊢
  go_upto_region 4 with (first | (go_at_call 12; (with_reducible refine (U.out _).mono ?_); rintro e wb ⟨q, c, rfl, ho, kk⟩; have G2 := Lib.hid ((kk.block _ (Array.getElem?_eq_some_iff.1 G1.out).1).trans G1.out); have B2 := Lib.hid (below_then BA.out kk); have O2 := Lib.hid (owns_base ho BA.out.size); clear kk ho) | fail)
  obtain ⟨g0, rfl, _, hc0, hcm, _⟩ := own_ptr (show wb.ownsRow W.heap.size 9 1 (.slice q F.length c) F.length (sC F) from O2.out) (by omega)
  have HC0 := Lib.hid (And.intro hc0 hcm)
  clear hc0 hcm
  go_upto_region 5 with (first | (go_at_call 26; (with_reducible refine (C26.out _).mono ?_); rintro e wc ⟨dv, mv, rfl, hD, hM, kk⟩; obtain ⟨p1, c1, rfl⟩ := owns_shape hD; obtain ⟨p2, c2, rfl⟩ := owns_shape hM; have G3 := Lib.hid ((kk.block _ (Array.getElem?_eq_some_iff.1 G2.out).1).trans G2.out); have B3 := Lib.hid (below_then B2.out kk); have O3 := Lib.hid (owns_below O2.out kk); have D3 := Lib.hid hD; have M3 := Lib.hid hM; clear kk hD hM; have Z3 := Lib.hid (show (wc.alloc (.cells zc42 42)).heap[wc.heap.size]? = some (.cells zc42 42 (0, 0)) from heap_alloc_last wc _)) | (with_reducible refine wpList_store_by rfl rfl (MBox.store (newMc (.slice p1 D.length c1) (.slice p2 M.length c2)) (Mc1.mk rfl rfl rfl) Z3.out (by kernel_rfl)) rfl rfl ?_) | fail)
  have nz : W.heap.size ≠ wc.heap.size := fun e => by have := (Array.getElem?_eq_some_iff.1 G3.out).1; omega
  have NZ := Lib.hid nz
  have bz := below1 wc (.cells zc42 42)
  have X4 := Lib.hid (show MBox ((wc.alloc (.cells zc42 42)).setRow wc.heap.size (mcC (newMc (.slice p1 D.length c1) (.slice p2 M.length c2)))) wc.heap.size (newMc (.slice p1 D.length c1) (.slice p2 M.length c2)) from setRow_heap _ _ _ _ 42 (0, 0) Z3.out)
  have G4 := Lib.hid ((setRow_other (wc.alloc (.cells zc42 42)) wc.heap.size W.heap.size (mcC (newMc (.slice p1 D.length c1) (.slice p2 M.length c2))) nz).trans ((bz.block _ (Array.getElem?_eq_some_iff.1 G3.out).1).trans G3.out))
  have B4 := Lib.hid (below_setRow (below_then B3.out bz) B3.out.size (mcC (newMc (.slice p1 D.length c1) (.slice p2 M.length c2))))
  have O4 := Lib.hid (owns_over (owns_below O3.out bz) Z3.out (by decide) (mcC (newMc (.slice p1 D.length c1) (.slice p2 M.length c2))))
  have D4 := Lib.hid (owns_over (owns_below D3.out bz) Z3.out (by decide) (mcC (newMc (.slice p1 D.length c1) (.slice p2 M.length c2))))
  have M4 := Lib.hid (owns_over (owns_below M3.out bz) Z3.out (by decide) (mcC (newMc (.slice p1 D.length c1) (.slice p2 M.length c2))))
  have BZ := Lib.hid B3.out.size
  have BW := Lib.hid B2.out.size
  clear Z3 G3 B3 O3 D3 M3 bz nz O2 G2 B2 G1 BA U C26
  generalize wc.heap.size = z at *
  generalize (wc.alloc (.cells zc42 42)).setRow z (mcC (newMc (.slice p1 D.length c1) (.slice p2 M.length c2))) = wd at *
  have FL := Lib.hid (fill_any W.heap.size z g0 c _ F wd X4.out O4.out h73 (by have := HL.out; omega) HC0.out.1 HC0.out.2)
  go_upto_region 8 with (first | (go_at_call 27; (with_reducible refine FL.out.mono ?_); rintro e we ⟨rfl, q5, c5, K5, F5⟩) | fail)
  have D5 := Lib.hid (own_fs K5 X4.out D4.out (by decide))
  have M5 := Lib.hid (own_fs K5 X4.out M4.out (by decide))
  have O5 := Lib.hid (own_fs K5 X4.out O4.out (by decide))
  have F6 := Lib.hid F5
  have G5 := Lib.hid ((K5.t.block W.heap.size (Array.getElem?_eq_some_iff.1 G4.out).1 NZ.out).trans G4.out)
  have B5 := Lib.hid (Touch.below B4.out K5.t (fun _ hk => by rw [hk]; exact BZ.out) B4.out.size)
  have RM := Lib.hid (show MR we (joinM F h73 (.slice p1 D.length c1) (.slice p2 M.length c2) q5 c5) (joinP F data) from ⟨F5 we O5.out, by rw [hP.out.1]; exact OwnD.at D5.out, by rw [hP.out.2]; exact OwnM.at M5.out, ⟨rfl, .inl ⟨rfl, rfl⟩⟩⟩)
  have HD := Lib.hid (show Calls Try.prog 10 #[mcV (joinM F h73 (.slice p1 D.length c1) (.slice p2 M.length c2) q5 c5)] we (fun e W' => e = .returned (.tuple #[.string hd, .int .i64 k]) ∧ Below we.heap.size we W') from by
    have := head_any _ _ we RM.out (join_nok F h73 _ _ q5 c5)
    rw [join_head, HV.out] at this
    exact this)
  have KB := Lib.hid K5.box
  change RowKit.Hid (MBox we z (joinM F h73 (.slice p1 D.length c1) (.slice p2 M.length c2) q5 c5)) at KB
  have HP := Lib.hid hP.out
  clear FL K5 F5 X4 O4 D4 M4 B4 G4 hP
  obtain ⟨mm, emm⟩ : ∃ x, x = joinM F h73 (.slice p1 D.length c1) (.slice p2 M.length c2) q5 c5 := ⟨_, rfl⟩
  rw [← emm] at RM HD KB
  have EM := Lib.hid emm
  have H1 := Lib.hid (show Mc1 mm from by rw [emm]; exact ⟨rfl, rfl, rfl⟩)
  clear emm
  by_cases hk : k = 0
  · subst hk
    by_cases he : hd = head
    · subst he
      have HJ := Lib.hid (show JoinOk hd data F h73 from ⟨HU.out.1, HU.out.2, HV.out⟩)
      go_upto_region 11 with (first | (with_reducible refine wpList_load_by rfl rfl (MBox.load KB.out) rfl ?_) | (go_at_call 10; (with_reducible refine HD.out.mono ?_); rintro e wf ⟨rfl, kf⟩; have G6 := Lib.hid ((kf.block _ (Array.getElem?_eq_some_iff.1 G5.out).1).trans G5.out); have B6 := Lib.hid (below_then B5.out kf)) | fail)
      have XZ := Lib.hid (KB.out.next kf)
      have O6 := Lib.hid (owns_over (owns_below O5.out kf) G6.out (by decide) (mcC mm))
      have D6 := Lib.hid (owns_over (owns_below D5.out kf) G6.out (by decide) (mcC mm))
      have M6 := Lib.hid (owns_over (owns_below M5.out kf) G6.out (by decide) (mcC mm))
      clear kf O5 D5 M5 RM
      go_wp2_with (first | (with_reducible refine wpList_load_by rfl rfl (MBox.load XZ.out) rfl ?_) | (with_reducible refine wpList_store_by rfl rfl (MBox.store mm H1.out G6.out (by kernel_rfl)) rfl rfl ?_) | fail)
      have RF : ∀ w', (∀ k, W.heap.size ≤ k → k < (wf.setRow W.heap.size (mcC mm)).heap.size → w'.heap[k]? = (wf.setRow W.heap.size (mcC mm)).heap[k]?) → MR w' (joinM F h73 (.slice p1 D.length c1) (.slice p2 M.length c2) q5 c5) (joinP F data) := fun w' hw =>
        ⟨F6.out _ (owns_same O6.out fun g hg => hw g (owns_lt O6.out hg).1 (owns_lt O6.out hg).2), by rw [HP.out.1]; exact OwnD.at (owns_same D6.out fun g hg => hw g (Nat.le_trans BW.out (owns_lt D6.out hg).1) (owns_lt D6.out hg).2), by rw [HP.out.2]; exact OwnM.at (owns_same M6.out fun g hg => hw g (Nat.le_trans BW.out (owns_lt M6.out hg).1) (owns_lt M6.out hg).2), ⟨rfl, .inl ⟨rfl, rfl⟩⟩⟩
      refine bodyPost_ret (v := .tuple #[mcV mm, .int .i64 0]) (results_mc Try.results13 _ _ W.heap.size _ _ rfl (setRow_heap wf W.heap.size _ _ 42 (0, 0) G6.out) rfl) rfl ⟨below_setRow B6.out (Nat.le_refl _) _, .inl ⟨F, h73, _, _, q5, c5, HJ.out, by rw [EM.out], rfl, rfl, RF⟩⟩
    · have HN := Lib.hid (show ∀ F h, ¬ JoinOk head data F h from fun F' h' x => by
        obtain rfl : F' = F := by have := x.1; rw [HU.out.1] at this; exact (Option.some.inj this).symm
        have := x.2.2
        rw [HV.out] at this
        simp only [Value.tuple.injEq, Array.mk.injEq, List.cons.injEq, Value.string.injEq] at this
        exact he this.1)
      have hsn := str_ne he
      go_wp2_with (first | (with_reducible refine wpList_load_by rfl rfl (MBox.load KB.out) rfl ?_) | (go_at_call 10; (with_reducible refine HD.out.mono ?_); rintro e wf ⟨rfl, kf⟩; have G6 := Lib.hid ((kf.block _ (Array.getElem?_eq_some_iff.1 G5.out).1).trans G5.out); have B6 := Lib.hid (below_then B5.out kf)) | ((with_reducible show wpList _ _ _ (⟨some 49, Op.build 42 _, _, _, _, _⟩ :: _) _ _); refine wpList_exec (by kernel_rfl) (exec_build0 rfl built42z) ?_; simp only [Act.put, List.setIfInBounds_toArray, List.set_cons_zero, List.set_cons_succ]) | (with_reducible refine wpList_store_by rfl rfl (MBox.store mcZ mcZ_one G6.out (by kernel_rfl)) rfl rfl ?_) | fail)
      refine bodyPost_ret (v := .tuple #[mcV mcZ, .int .i64 170]) (results_mc Try.results13 _ _ W.heap.size _ _ rfl (setRow_heap wf W.heap.size _ _ 42 (0, 0) G6.out) rfl) rfl (join_bad HN.out rfl (below_setRow B6.out (Nat.le_refl _) _))
  · have HN := Lib.hid (show ∀ F h, ¬ JoinOk head data F h from fun F' h' x => by
      obtain rfl : F' = F := by have := x.1; rw [HU.out.1] at this; exact (Option.some.inj this).symm
      have := x.2.2
      rw [HV.out] at this
      simp only [Value.tuple.injEq, Array.mk.injEq, List.cons.injEq, Value.int.injEq, and_true, true_and] at this
      exact hk this.2)
    have hb : (k != 0) = true := by rw [bne_iff_ne]; exact hk
    go_wp2_with (first | (with_reducible refine wpList_load_by rfl rfl (MBox.load KB.out) rfl ?_) | (go_at_call 10; (with_reducible refine HD.out.mono ?_); rintro e wf ⟨rfl, kf⟩; have G6 := Lib.hid ((kf.block _ (Array.getElem?_eq_some_iff.1 G5.out).1).trans G5.out); have B6 := Lib.hid (below_then B5.out kf)) | ((with_reducible show wpList _ _ _ (⟨some 49, Op.build 42 _, _, _, _, _⟩ :: _) _ _); refine wpList_exec (by kernel_rfl) (exec_build0 rfl built42z) ?_; simp only [Act.put, List.setIfInBounds_toArray, List.set_cons_zero, List.set_cons_succ]) | (with_reducible refine wpList_store_by rfl rfl (MBox.store mcZ mcZ_one G6.out (by kernel_rfl)) rfl rfl ?_) | fail)
    refine bodyPost_ret (v := .tuple #[mcV mcZ, .int .i64 170]) (results_mc Try.results13 _ _ W.heap.size _ _ rfl (setRow_heap wf W.heap.size _ _ 42 (0, 0) G6.out) rfl) rfl (join_bad HN.out rfl (below_setRow B6.out (Nat.le_refl _) _))
theorem join_any (head data : ByteArray) (W : World) (hs : head.size ≤ 9223372036854775807) (hs2 : data.size ≤ 9223372036854775807) : Calls Try.prog 13 #[.string head, .string data] W (JoinR head data W) := by
  by_cases h : ∀ F, unpackF head = some F → F.length < 73
  · exact join_un head data W hs h
  · obtain ⟨F, h⟩ := Classical.not_forall.1 h
    obtain ⟨hu, h73⟩ := Classical.not_imp.1 h
    by_cases hn : newOk data
    · exact join_rest head data F W hs hs2 hu (by omega) hn
    · exact join_new head data F W hs hs2 hu (by omega) hn
end Go.Proofs.Ytgflnfmnjlmenaa
