/- Lay of the reference. -/
import Derived.Test.YtocphogddjcblaaBA
namespace Go.Proofs.Ytocphogddjcblaa
open Go.RowKit Go.Deep Go.Joins
theorem good_iff {n : Nat} {p : Pc} : goodB n p = true ↔ 0 ≤ p.leaf ∧ p.leaf < ((n / 256 : Nat) : Int) ∧ p.bytes.size = 256 := by
  unfold goodB leafB
  simp [and_assoc]
theorem good_there {n l : Nat} {bs : ByteArray} (h : l < n / 256) (hs : bs.size = 256) : thereB n (2147483648 + (l : Int) * 256) bs.size = true := by
  rw [there_iff, hs]; omega
theorem layOne_good (D : List UInt8) (l : Nat) (bs : ByteArray) (h : l < D.length / 256) (hs : bs.size = 256) : layOne D ⟨l, bs⟩ = spl D (256 * l) bs := by
  unfold layOne putD
  rw [if_pos ⟨show bs.size ≠ 0 by omega, good_there h hs⟩]
  congr 1
  show (2147483648 + (l : Int) * 256 - 2147483648).toNat = _
  omega
theorem markOne_good (n : Nat) (M : List Int) (E : Int) (l : Nat) (bs : ByteArray) (h : l < n / 256) (hs : bs.size = 256) : markOne n E M ⟨l, bs⟩ = mk M E l (l + 1) := by
  unfold markOne putM
  rw [if_pos ⟨show bs.size ≠ 0 by omega, good_there h hs⟩, hs]
  have e : (2147483648 + (l : Int) * 256 - 2147483648).toNat = 256 * l := by omega
  show mk M E ((2147483648 + (l : Int) * 256 - 2147483648).toNat / 256) _ = _
  rw [e]
  congr 1 <;> omega
theorem putM_length (n : Nat) (M : List Int) (E t : Int) (s : ByteArray) : (putM n M E t s).length = M.length := by
  unfold putM
  split
  · exact mk_length _ _ _ _
  · rfl
theorem layM_length (n : Nat) (M : List Int) (E : Int) (L : List Pc) : (layM n M E L).length = M.length := by
  unfold layM
  induction L generalizing M with
  | nil => rfl
  | cons p L ih => rw [List.foldl_cons, ih]; exact putM_length _ _ _ _ _
theorem mk_set (M : List Int) (E : Int) (l : Nat) : mk M E l (l + 1) = M.set l E := by rw [← mk_step _ _ _ _ (Nat.le_refl _), mk_none _ _ _ _ (Nat.le_refl _)]
theorem mk_out (M : List Int) (E : Int) (l : Nat) (h : M.length ≤ l) : mk M E l (l + 1) = M := by rw [mk_set, List.set_eq_of_length_le h]
set_option maxRecDepth 100000 in
set_option maxHeartbeats 4000000 in
theorem rlay_any (dv mv pv : Value) (E : Int) (D : List UInt8) (M : List Int) (L : List Pc) (w : World) (hd : DAt w dv D) (hm : MAt w mv M) (hp : PAt w pv L) (hD : D.length ≤ 140737488351232) (hM : M.length ≤ 17592186043904) :
    Calls Try.prog 27 #[.agg #[dv, mv, .int .u64 E], pv] w (LayRes w D M E L) := by
  obtain ⟨p, cap, rfl⟩ := hd.is
  obtain ⟨q, cap2, rfl⟩ := hm.is
  obtain ⟨pp, capp, rfl⟩ := hp.is
  have hLle := hp.le
  have hDle := hd.le
  have HD := Lib.hid hd
  have HM := Lib.hid hm
  have HP := Lib.hid hp
  clear hd hm hp
  have HBN := Lib.hid (boxR_new w (.slice p D.length cap) (.slice q M.length cap2) E)
  go_enter Try.func27, Try.ntmps27
  go_wp2_with fail
  refine (rcopy_any _ _ E D M _ (HD.out.below HBN.out.2.2) (HM.out.below HBN.out.2.2) hD hM).mono ?_
  rintro e w2 ⟨dv1, mv1, rfl, hd1, hm1, hb2⟩
  obtain ⟨p1, cap1, rfl⟩ := owns_shape hd1
  obtain ⟨q1, cap11, rfl⟩ := owns_shape hm1
  have hbn := below1 w2 (.cells #[.slice p1 D.length cap1, .slice q1 M.length cap11, .int .u64 E] 26)
  have hz : RamVar (w2.alloc (.cells #[.slice p1 D.length cap1, .slice q1 M.length cap11, .int .u64 E] 26)) w2.heap.size (.slice p1 D.length cap1) (.slice q1 M.length cap11) E := heap_alloc_new _ _
  have hz8 : w.heap.size + 1 < w2.heap.size := (HBN.out.below hb2).2.1.lt
  have HAT := Lib.hid (show LayAt w _ (w.heap.size + 2) w2.heap.size (.slice p D.length cap) (.slice q M.length cap2) (.slice p1 D.length cap1) (.slice q1 M.length cap11) E D M L 0 from ⟨(HBN.out.below hb2).below hbn, hz, owns_base (hd1.below hbn) (by simp), owns_base (hm1.below hbn) (by simp)⟩)
  clear hd1 hm1 hb2 hbn hz HBN
  go_wp2_with fail
  generalize w2.alloc (.cells #[.slice p1 D.length cap1, .slice q1 M.length cap11, .int .u64 E] 26) = w3 at *
  generalize w2.heap.size = z8 at *
  go_loopw [7] (fun i wr => ∃ j : Nat, j ≤ L.length ∧ i = .int .i64 j ∧ Hid (LayAt w wr (w.heap.size + 2) z8 (.slice p D.length cap) (.slice q M.length cap2) (.slice p1 D.length cap1) (.slice q1 M.length cap11) E D M L j) ∧ Hid (∀ k (hk : k < L.length), k < j → goodB D.length L[k] = true)) (fun i _ => L.length - (intOf i).toNat)
  case atStart => exact ⟨0, Nat.zero_le _, rfl, HAT, Lib.hid (fun k _ hk => absurd hk (Nat.not_lt_zero _))⟩
  case round =>
    obtain ⟨j, hj, rfl, hat, hall⟩ := hrel
    by_cases hlt : j < L.length
    · have HN := Lib.hid (fun h => lay_no (D := D) (L := L) (j := j) hlt h)
      have HS := Lib.hid (show goodB D.length L[j] = true → ∀ k (hk : k < L.length), k < j + 1 → goodB D.length L[k] = true from fun h k hk hkj => by
        by_cases e : k < j
        · exact hall.out k hk e
        · obtain rfl : k = j := by omega
          exact h)
      have hnD := layD_succ D L j hlt
      have hnM := layM_succ D.length M E L j hlt
      have hl0 := layD_length D (L.take j)
      obtain ⟨b, off, _, e1, hb, hc⟩ := (HP.out.below hat.out.box.2.2).cell (by omega)
      simp only [Value.slice.injEq, true_and] at e1
      obtain ⟨rfl, rfl⟩ := e1
      obtain ⟨c0, c1⟩ := hc j hlt
      clear hc
      generalize hPe : L[j] = P at *
      obtain ⟨lf, bs⟩ := P
      dsimp only at c0 c1
      have HND := Lib.hid hnD
      have HNM := Lib.hid hnM
      have HL0 := Lib.hid hl0
      have hbn := below1 wr (.cells #[.int .i64 lf, .string bs] 64)
      have HZ1 := Lib.hid (hat.out.z.below hbn)
      have HBX1 := Lib.hid (hat.out.box.below hbn)
      have HD1 := Lib.hid (hat.out.d.below hbn)
      have HM1 := Lib.hid (hat.out.m.below hbn)
      clear hnD hnM hl0 hbn hPe
      obtain ⟨z0, z1, z2⟩ := HZ1.out.cells
      have hr := HBX1.out.2.1
      have hfail : goodB D.length ⟨lf, bs⟩ = false → LayRes w D M E L (.returned (.tuple #[.agg #[.slice none 0 0, .slice none 0 0, .int .u64 0], .int .i64 50])) ((((wr.alloc (.cells #[.int .i64 lf, .string bs] 64)).setCell ⟨w.heap.size + 1, 0, none⟩ (.slice none 0 0)).setCell ⟨w.heap.size + 1, 1, none⟩ (.slice none 0 0)).setCell ⟨w.heap.size + 1, 2, none⟩ (.int .u64 0)) := fun h => by
        unfold LayRes
        rw [HN.out h]
        exact newMem_nil (((HBX1.out.2.2.setCell (Nat.le_succ _) _).setCell (Nat.le_succ _) _).setCell (Nat.le_succ _) _)
      have HFAIL := Lib.hid hfail
      have HFIN := Lib.hid (hr.store (.slice none 0 0) (.slice none 0 0) 0)
      clear hfail
      by_cases hg : goodB D.length ⟨lf, bs⟩ = true
      · obtain ⟨g0, g1, g2⟩ := good_iff.1 hg
        dsimp only at g0 g1 g2
        obtain ⟨l, rfl⟩ : ∃ l : Nat, lf = l := ⟨lf.toNat, by omega⟩
        have hl256 : l < D.length / 256 := by omega
        clear hr HFIN HFAIL
        have hDl : (layD D (L.take j)).length = D.length := HL0.out
        obtain ⟨g, rfl⟩ : ∃ g, p1 = some ⟨g, 0, none⟩ := by
          rcases hat.out.d.2 with ⟨_, e⟩ | ⟨g, _, _, e, _⟩
          · rw [hDl] at e; omega
          · simp only [Value.slice.injEq] at e; exact ⟨g, e.1⟩
        have hcap : D.length ≤ cap1 ∧ cap1 ≤ 9223372036854775807 := by
          rcases hat.out.d.2 with ⟨_, e⟩ | ⟨g', cap', _, e, _, _, h3, h4, _⟩
          · rw [hDl] at e; omega
          · simp only [Value.slice.injEq] at e
            rw [hDl] at h3
            rw [e.2.2]
            unfold maxLen at h4
            exact ⟨h3, by omega⟩
        have hbox : (wr.alloc (.cells #[.int .i64 l, .string bs] 64)).drew.heap[wr.heap.size]? = some (.cells #[.int .i64 l, .string bs] 64 (0, 0)) := heap_alloc_new wr _
        have hod : OwnD (wr.alloc (.cells #[.int .i64 l, .string bs] 64)).drew (w.heap.size + 2) (.slice (some ⟨g, 0, none⟩) D.length cap1) (layD D (L.take j)) := owns_same HD1.out fun _ _ => rfl
        obtain ⟨w5, hrun, hd5, ht5⟩ := run_copy_str (x := bs) (off := 256 * l) hod (by rw [hDl]; omega) (D.length - 256 * l) (cap1 - 256 * l) (by omega)
        have htd : Touch (wr.alloc (.cells #[.int .i64 l, .string bs] 64)) w5 (fun k => k = g) := ⟨ht5.os, ht5.tape, ht5.output, ht5.size, ht5.block⟩
        have hgB := (owns_lt HD1.out (g := g) rfl)
        have hbox5 : w5.heap[wr.heap.size]? = some (.cells #[.int .i64 l, .string bs] 64 (0, 0)) := (ht5.block _ (Array.getElem?_eq_some_iff.1 hbox).1 (fun e => not_at HD1.out hbox (by decide) (by rw [e]; rfl))).trans hbox
        have hz5 := HZ1.out.touch htd (fun e => not_at HD1.out HZ1.out (by decide) (by rw [e]; rfl))
        have hm5 : OwnM w5 (w.heap.size + 2) (.slice q1 M.length cap11) (layM D.length M E (L.take j)) := owns_touch HM1.out htd (fun x hx e => rows_apart HM1.out HD1.out (by decide) hx (by rw [e]; rfl))
        have hbx5 : BoxR w w5 (.slice p D.length cap) (.slice q M.length cap2) E := ⟨HBX1.out.1.touch htd (by omega), HBX1.out.2.1.touch htd (by omega), Touch.below HBX1.out.2.2 htd (fun k hk => by omega) HBX1.out.2.2.size⟩
        have p0 : w5.cell? ⟨wr.heap.size, 0, none⟩ = some (.int .i64 l) := by rw [cell_of_row w5 _ _ _ 64 (0, 0) hbox5]; rfl
        obtain ⟨y0, y1, y2⟩ := hz5.cells
        have hone := layOne_good (layD D (L.take j)) l bs (by rw [hDl]; exact hl256) g2
        have hmark := markOne_good D.length (layM D.length M E (L.take j)) E l bs hl256 g2
        have h6 : ((bs.size : Int) != 256) = false := by rw [bne_eq_false_iff_eq]; omega
        have h7 : ¬ ((D.length : Int) / 256 ≤ l) := by omega
        have h8 : (l : Int) ≤ 36028797018963967 := by omega
        have hwr : IntKind.i64.wrap (256 * (l : Int)) = 256 * (l : Int) := IntWalk.i64_in _ (by omega)
        have h9 : 256 * (l : Int) ≤ D.length := by omega
        have HG2 := Lib.hid g2
        have HONE := Lib.hid hone
        have HMARK := Lib.hid hmark
        have HD5 := Lib.hid hd5
        have HM5 := Lib.hid hm5
        have HZ5 := Lib.hid hz5
        have HBX5 := Lib.hid hbx5
        have HDL := Lib.hid hDl
        have HSG := Lib.hid (HS.out hg)
        clear g2 hone hmark hd5 hm5 hz5 hbx5 hbox hbox5 hod ht5 htd hDl hg g0 g1 hgB
        by_cases hml : l < M.length
        · have hmlen : (layM D.length M E (L.take j)).length = M.length := layM_length D.length M E (L.take j)
          obtain ⟨h, rfl⟩ : ∃ h, q1 = some ⟨h, 0, none⟩ := by
            rcases HM5.out.2 with ⟨_, e⟩ | ⟨g, _, _, e, _⟩
            · rw [hmlen] at e; omega
            · simp only [Value.slice.injEq] at e; exact ⟨g, e.1⟩
          have hmm := HM5.out
          unfold OwnM at hmm
          rw [hmlen] at hmm
          have c3 : w5.cell? ⟨h, l, none⟩ = some (.int .u64 ((layM D.length M E (L.take j))[l]'(by omega))) := by
            rw [hmm.cellAt l (by omega)]
            simp [mC, hmlen, hml]
          have c4 : w5.frozen? ⟨h, l, none⟩ = false := hmm.frozenAt l
          generalize (layM D.length M E (L.take j))[l]'(by omega) = X at c3
          have htm : Touch w5 (w5.setCell ⟨h, l, none⟩ (.int .u64 E)) (fun k => k = h) := (Touch.refl w5 (fun k => k = h)).setCell (.inl rfl) _
          have hset := HM5.out.set l E
          have hzh : z8 ≠ h := fun e => not_at HM5.out HZ5.out (by decide) (by rw [e]; rfl)
          have hhB := (owns_lt HM5.out (g := h) rfl)
          have HNX := Lib.hid (show LayAt w (w5.setCell ⟨h, l, none⟩ (.int .u64 E)) (w.heap.size + 2) z8 (.slice p D.length cap) (.slice q M.length cap2) (.slice (some ⟨g, 0, none⟩) D.length cap1) (.slice (some ⟨h, 0, none⟩) M.length cap11) E D M L (j + 1) from
            ⟨⟨HBX5.out.1.touch htm (by omega), HBX5.out.2.1.touch htm (by omega), Touch.below HBX5.out.2.2 htm (fun k hk => by omega) HBX5.out.2.2.size⟩, HZ5.out.touch htm hzh,
              by rw [HND.out, HONE.out]; exact owns_touch HD5.out htm (fun x hx e => rows_apart HD5.out HM5.out (by decide) hx (by rw [e]; rfl)), by rw [HNM.out, HMARK.out, mk_set]; exact hset⟩)
          clear htm hset hzh hhB hmm hmlen
          go_wp2_with fail
          go_region
          go_wp2_with fail
          exact ⟨⟨j + 1, by omega, by go_num, HNX, Lib.hid HSG.out⟩, by simp [intOf]; omega⟩
        · have HNX := Lib.hid (show LayAt w w5 (w.heap.size + 2) z8 (.slice p D.length cap) (.slice q M.length cap2) (.slice (some ⟨g, 0, none⟩) D.length cap1) (.slice q1 M.length cap11) E D M L (j + 1) from
            ⟨HBX5.out, HZ5.out, by rw [HND.out, HONE.out]; exact HD5.out, by rw [HNM.out, HMARK.out, mk_out _ _ _ (by rw [layM_length]; omega)]; exact HM5.out⟩)
          go_wp2_with fail
          go_region
          go_wp2_with fail
          exact ⟨⟨j + 1, by omega, by go_num, HNX, Lib.hid HSG.out⟩, by simp [intOf]; omega⟩
      · obtain ⟨r0, r1, r2⟩ := hr.cells
        have r3 := hr.free 0
        have r4 := hr.free 1
        have r5 := hr.free 2
        have HG := Lib.hid (show goodB D.length ⟨lf, bs⟩ = false by simpa using hg)
        have hng : ¬ (0 ≤ lf ∧ lf < ((D.length / 256 : Nat) : Int) ∧ bs.size = 256) := fun h => hg (good_iff.2 h)
        clear hg hr
        by_cases h1 : lf < 0
        · go_wp2_with fail
          obtain ⟨f0, f1, f2⟩ := HFIN.out.cells
          exact bodyPost_ret (v := .tuple #[.agg #[.slice none 0 0, .slice none 0 0, .int .u64 0], .int .i64 50]) (by simp [results, Try.results27, go_sem, f0, f1, f2]) rfl (HFAIL.out HG.out)
        by_cases h2 : (D.length : Int) / 256 ≤ lf
        · go_wp2_with fail
          obtain ⟨f0, f1, f2⟩ := HFIN.out.cells
          exact bodyPost_ret (v := .tuple #[.agg #[.slice none 0 0, .slice none 0 0, .int .u64 0], .int .i64 50]) (by simp [results, Try.results27, go_sem, f0, f1, f2]) rfl (HFAIL.out HG.out)
        · have h6 : ((bs.size : Int) != 256) = true := by rw [bne_iff_ne]; omega
          clear hng
          go_wp2_with fail
          obtain ⟨f0, f1, f2⟩ := HFIN.out.cells
          exact bodyPost_ret (v := .tuple #[.agg #[.slice none 0 0, .slice none 0 0, .int .u64 0], .int .i64 50]) (by simp [results, Try.results27, go_sem, f0, f1, f2]) rfl (HFAIL.out HG.out)
    · have hyes := lay_yes (D := D) (L := L) (fun k hk _ => hall.out k hk (by omega))
      have HYES := Lib.hid hyes
      clear hyes
      obtain ⟨z0, z1, z2⟩ := hat.out.z.cells
      have hr := hat.out.box.2.1
      obtain ⟨r0, r1, r2⟩ := hr.cells
      have r3 := hr.free 0
      have r4 := hr.free 1
      have r5 := hr.free 2
      have HFIN := Lib.hid (hr.store (.slice p1 D.length cap1) (.slice q1 M.length cap11) E)
      have hpost : LayRes w D M E L (.returned (.tuple #[.agg #[.slice p1 D.length cap1, .slice q1 M.length cap11, .int .u64 E], .int .i64 0])) (((wr.setCell ⟨w.heap.size + 1, 0, none⟩ (.slice p1 D.length cap1)).setCell ⟨w.heap.size + 1, 1, none⟩ (.slice q1 M.length cap11)).setCell ⟨w.heap.size + 1, 2, none⟩ (.int .u64 E)) := by
        have ht : Touch wr (((wr.setCell ⟨w.heap.size + 1, 0, none⟩ (.slice p1 D.length cap1)).setCell ⟨w.heap.size + 1, 1, none⟩ (.slice q1 M.length cap11)).setCell ⟨w.heap.size + 1, 2, none⟩ (.int .u64 E)) (fun k => k = w.heap.size + 1) :=
          (((Touch.refl wr (fun k => k = w.heap.size + 1)).setCell (.inl rfl) _).setCell (.inl rfl) _).setCell (.inl rfl) _
        have hd9 := hat.out.d
        have hm9 := hat.out.m
        rw [List.take_of_length_le (by omega)] at hd9 hm9
        unfold LayRes
        rw [HYES.out]
        refine ⟨_, _, rfl, ?_, ?_, ((hat.out.box.2.2.setCell (Nat.le_succ _) _).setCell (Nat.le_succ _) _).setCell (Nat.le_succ _) _⟩
        · exact owns_base (owns_touch hd9 ht (fun g hg e => by have := (owns_lt hd9 hg).1; omega)) (by omega)
        · exact owns_base (owns_touch hm9 ht (fun g hg e => by have := (owns_lt hm9 hg).1; omega)) (by omega)
      have HPOST := Lib.hid hpost
      clear hpost hr
      go_wp2_with fail
      obtain ⟨f0, f1, f2⟩ := HFIN.out.cells
      exact bodyPost_ret (v := .tuple #[.agg #[.slice p1 D.length cap1, .slice q1 M.length cap11, .int .u64 E], .int .i64 0]) (by simp [results, Try.results27, go_sem, f0, f1, f2]) rfl HPOST.out
end Go.Proofs.Ytocphogddjcblaa
