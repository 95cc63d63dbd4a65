/- Lay of the program. -/
import Derived.Test.YtocphogddjcblaaU
namespace Go.Proofs.Ytocphogddjcblaa
open Go.RowKit Go.Deep Go.Joins
structure Pc where
  leaf : Int
  bytes : ByteArray
def pC (l : List Pc) : List Value := l.flatMap fun r => [.int .i64 r.leaf, .string r.bytes]
theorem pC_length (l : List Pc) : (pC l).length = l.length * 2 := by
  induction l with
  | nil => rfl
  | cons x l ih => simp only [pC, List.flatMap_cons, List.length_append, List.length_cons, List.length_nil] at *; omega
theorem pC_get (l : List Pc) (k : Nat) (h : k < l.length) : (pC l)[k * 2]? = some (.int .i64 l[k].leaf) ∧ (pC l)[k * 2 + 1]? = some (.string l[k].bytes) := by
  induction l generalizing k with
  | nil => simp at h
  | cons x l ih =>
    have e : pC (x :: l) = .int .i64 x.leaf :: .string x.bytes :: pC l := rfl
    rw [e]
    cases k with
    | zero => simp
    | succ k =>
      have := ih k (by simpa using h)
      rw [show (k + 1) * 2 = k * 2 + 1 + 1 by omega]
      simpa using this
def PAt (w : World) (v : Value) (L : List Pc) : Prop := Reads w v 2 L.length (pC L)
theorem PAt.below {w w' : World} {v : Value} {L : List Pc} (h : PAt w v L) (hb : Below w.heap.size w w') : PAt w' v L := Reads.below h hb
theorem PAt.le {w : World} {v : Value} {D : List Pc} (h : PAt w v D) : D.length ≤ 9223372036854775807 := by
  rcases h.2 with ⟨_, h⟩ | ⟨a, cap, _, h1, h2, _⟩
  · omega
  · unfold maxLen at h2; omega
theorem PAt.cell {w : World} {v : Value} {L : List Pc} (h : PAt w v L) (h0 : 0 < L.length) :
    ∃ b off cap, v = .slice (some ⟨b, off, none⟩) L.length cap ∧ b < w.heap.size ∧ ∀ j (hj : j < L.length), w.cell? ⟨b, off + j * 2, none⟩ = some (.int .i64 L[j].leaf) ∧ w.cell? ⟨b, off + j * 2 + 1, none⟩ = some (.string L[j].bytes) := by
  obtain ⟨b, off, cap, h1, h2, h3, h4, h5⟩ := Reads.at h (by omega)
  exact ⟨b, off, cap, h1, h4, fun j hj => ⟨h5 _ _ (pC_get L j hj).1, h5 _ _ (pC_get L j hj).2⟩⟩
def goodB (n : Nat) (p : Pc) : Bool := leafB n p.leaf && decide (p.bytes.size = 256)
def layB (n : Nat) (L : List Pc) : Bool := L.all (goodB n)
def layOne (D : List UInt8) (p : Pc) : List UInt8 := putD D (2147483648 + p.leaf * 256) p.bytes
def markOne (n : Nat) (E : Int) (M : List Int) (p : Pc) : List Int := putM n M E (2147483648 + p.leaf * 256) p.bytes
def layD (D : List UInt8) (L : List Pc) : List UInt8 := L.foldl layOne D
def layM (n : Nat) (M : List Int) (E : Int) (L : List Pc) : List Int := L.foldl (markOne n E) M
theorem layD_succ (D : List UInt8) (L : List Pc) (j : Nat) (h : j < L.length) : layD D (L.take (j + 1)) = layOne (layD D (L.take j)) L[j] := by
  unfold layD; rw [List.take_succ_eq_append_getElem h, List.foldl_append]; rfl
theorem layM_succ (n : Nat) (M : List Int) (E : Int) (L : List Pc) (j : Nat) (h : j < L.length) : layM n M E (L.take (j + 1)) = markOne n E (layM n M E (L.take j)) L[j] := by
  unfold layM; rw [List.take_succ_eq_append_getElem h, List.foldl_append]; rfl
theorem putD_length (D : List UInt8) (t : Int) (s : ByteArray) : (putD D t s).length = D.length := by
  unfold putD
  split
  · rename_i h
    obtain ⟨h1, h2⟩ := h
    obtain ⟨h3, h4, h5⟩ := there_iff.1 h2
    exact spl_length _ _ _ (by omega)
  · rfl
theorem layD_length (D : List UInt8) (L : List Pc) : (layD D L).length = D.length := by
  unfold layD
  induction L generalizing D with
  | nil => rfl
  | cons p L ih => rw [List.foldl_cons, ih]; exact putD_length _ _ _
def LayRes (w : World) (D : List UInt8) (M : List Int) (E : Int) (L : List Pc) (e : Ending) (w' : World) : Prop :=
  NewMem w (if layB D.length L then layD D L else []) (if layB D.length L then layM D.length M E L else []) (if layB D.length L then E else 0) (if layB D.length L then 0 else 50) e w'
theorem lay_no {D : List UInt8} {L : List Pc} {j : Nat} (hj : j < L.length) (h : goodB D.length L[j] = false) : layB D.length L = false := by
  unfold layB
  rw [List.all_eq_false]
  exact ⟨L[j], List.getElem_mem _, by rw [h]; simp⟩
theorem lay_yes {D : List UInt8} {L : List Pc} (h : ∀ k (hk : k < L.length), k < L.length → goodB D.length L[k] = true) : layB D.length L = true := by
  unfold layB
  rw [List.all_eq_true]
  intro m hm
  obtain ⟨j, hj, rfl⟩ := List.getElem_of_mem hm
  exact h j hj hj
/-- The two boxes: the argument's, the result's. -/
def BoxR (w wx : World) (dv mv : Value) (E : Int) : Prop := RamVar wx w.heap.size dv mv E ∧ RamVar wx (w.heap.size + 1) (.slice none 0 0) (.slice none 0 0) 0 ∧ Below w.heap.size w wx
theorem boxR_new (w : World) (dv mv : Value) (E : Int) : BoxR w ((w.alloc (.cells #[dv, mv, .int .u64 E] 26)).alloc (.cells #[.slice none 0 0, .slice none 0 0, .int .u64 0] 26)) dv mv E :=
  ⟨first_box w _ _ _ _, two_boxes w _ _ _ _, below2 w _ _⟩
theorem BoxR.below {w wx wy : World} {dv mv : Value} {E : Int} (h : BoxR w wx dv mv E) (hb : Below wx.heap.size wx wy) : BoxR w wy dv mv E := ⟨h.1.below hb, h.2.1.below hb, below_then h.2.2 hb⟩
structure LayAt (w wr : World) (B z : Nat) (dv mv dv1 mv1 : Value) (E : Int) (D : List UInt8) (M : List Int) (L : List Pc) (j : Nat) : Prop where
  box : BoxR w wr dv mv E
  z : RamVar wr z dv1 mv1 E
  d : OwnD wr B dv1 (layD D (L.take j))
  m : OwnM wr B mv1 (layM D.length M E (L.take j))
set_option maxRecDepth 100000 in
set_option maxHeartbeats 4000000 in
theorem lay_any (dv mv pv : Value) (E : Int) (D : List UInt8) (M : List Int) (L : List Pc) (w : World) (hd : DAt w dv D) (hm : MAt w mv M) (hp : PAt w pv L) (hD : D.length ≤ 140737488351232) (hM : M.length ≤ 17592186043904) :
    Calls Try.prog 26 #[.agg #[dv, mv, .int .u64 E], pv] w (LayRes w D M E L) := by
  obtain ⟨p, cap, rfl⟩ := hd.is
  obtain ⟨q, cap2, rfl⟩ := hm.is
  obtain ⟨pp, capp, rfl⟩ := hp.is
  have hLle := hp.le
  have hDle := hd.le
  have HD := Lib.hid hd
  have HM := Lib.hid hm
  have HP := Lib.hid hp
  clear hd hm hp
  have HBN := Lib.hid (boxR_new w (.slice p D.length cap) (.slice q M.length cap2) E)
  go_enter Try.func26, Try.ntmps26
  go_wp2_with fail
  go_loopw [13] (fun i wr => ∃ j : Nat, j ≤ L.length ∧ i = .int .i64 j ∧ Hid (BoxR w wr (.slice p D.length cap) (.slice q M.length cap2) E) ∧ Hid (∀ k (hk : k < L.length), k < j → goodB D.length L[k] = true)) (fun i _ => L.length - (intOf i).toNat)
  case atStart => exact ⟨0, Nat.zero_le _, rfl, HBN, Lib.hid (fun k _ hk => absurd hk (Nat.not_lt_zero _))⟩
  case round =>
    obtain ⟨j, hj, rfl, hbx, hall⟩ := hrel
    by_cases hlt : j < L.length
    · have HN := Lib.hid (fun h => lay_no (D := D) (L := L) (j := j) hlt h)
      have HS := Lib.hid (show goodB D.length L[j] = true → ∀ k (hk : k < L.length), k < j + 1 → goodB D.length L[k] = true from fun h k hk hkj => by
        by_cases e : k < j
        · exact hall.out k hk e
        · obtain rfl : k = j := by omega
          exact h)
      obtain ⟨b, off, _, e1, hb, hc⟩ := (HP.out.below hbx.out.2.2).cell (by omega)
      simp only [Value.slice.injEq, true_and] at e1
      obtain ⟨rfl, rfl⟩ := e1
      obtain ⟨c0, c1⟩ := hc j hlt
      clear hc
      generalize L[j] = P at *
      obtain ⟨lf, bs⟩ := P
      dsimp only at c0 c1
      have hbn := below1 wr (.cells #[.int .i64 lf, .string bs] 64)
      have HB1 := Lib.hid (hbx.out.below hbn)
      obtain ⟨x0, x1, x2⟩ := HB1.out.1.cells
      clear hbn
      go_wp2_with fail
      refine (leaf_any _ _ _ _ _ _ _ hDle).mono ?_
      rintro e w2 ⟨rfl, hb2⟩
      have HB2 := Lib.hid (HB1.out.below hb2)
      have d1 := hb2.cell (p := ⟨wr.heap.size, 1, none⟩) (by simp)
      rw [World.cell?_alloc_new] at d1
      have hr := HB2.out.2.1
      obtain ⟨r0, r1, r2⟩ := hr.cells
      have r3 := hr.free 0
      have r4 := hr.free 1
      have r5 := hr.free 2
      have HFIN := Lib.hid (hr.store (.slice none 0 0) (.slice none 0 0) 0)
      have hfail : goodB D.length ⟨lf, bs⟩ = false → LayRes w D M E L (.returned (.tuple #[.agg #[.slice none 0 0, .slice none 0 0, .int .u64 0], .int .i64 50])) (((w2.setCell ⟨w.heap.size + 1, 0, none⟩ (.slice none 0 0)).setCell ⟨w.heap.size + 1, 1, none⟩ (.slice none 0 0)).setCell ⟨w.heap.size + 1, 2, none⟩ (.int .u64 0)) := fun h => by
        unfold LayRes
        rw [HN.out h]
        exact newMem_nil (((HB2.out.2.2.setCell (Nat.le_succ _) _).setCell (Nat.le_succ _) _).setCell (Nat.le_succ _) _)
      have HFAIL := Lib.hid hfail
      clear hfail hr x0 x1 x2 c0 c1 hb2
      rcases Bool.eq_false_or_eq_true (leafB D.length lf) with hl | hl
      · by_cases hz : bs.size = 256
        · have h6 : ((bs.size : Int) != 256) = false := by rw [bne_eq_false_iff_eq]; omega
          have HG := Lib.hid (show goodB D.length ⟨lf, bs⟩ = true by unfold goodB; simp [hl, hz])
          have HZ := Lib.hid hz
          clear hz
          rw [hl]
          clear hl
          go_wp2_with fail
          exact ⟨⟨j + 1, by omega, by go_num, HB2, Lib.hid (HS.out HG.out)⟩, by simp [intOf]; omega⟩
        · have h6 : ((bs.size : Int) != 256) = true := by rw [bne_iff_ne]; omega
          have HG := Lib.hid (show goodB D.length ⟨lf, bs⟩ = false by unfold goodB; simp [hz])
          clear hz
          rw [hl]
          clear hl
          go_wp2_with fail
          obtain ⟨f0, f1, f2⟩ := HFIN.out.cells
          exact bodyPost_ret (v := .tuple #[.agg #[.slice none 0 0, .slice none 0 0, .int .u64 0], .int .i64 50]) (by simp [results, Try.results26, go_sem, f0, f1, f2]) rfl (HFAIL.out HG.out)
      · have HG := Lib.hid (show goodB D.length ⟨lf, bs⟩ = false by unfold goodB; simp [hl])
        rw [hl]
        clear hl
        go_wp2_with fail
        obtain ⟨f0, f1, f2⟩ := HFIN.out.cells
        exact bodyPost_ret (v := .tuple #[.agg #[.slice none 0 0, .slice none 0 0, .int .u64 0], .int .i64 50]) (by simp [results, Try.results26, go_sem, f0, f1, f2]) rfl (HFAIL.out HG.out)
    · have hyes := lay_yes (D := D) (L := L) (fun k hk _ => hall.out k hk (by omega))
      have HYES := Lib.hid hyes
      obtain ⟨x0, x1, x2⟩ := hbx.out.1.cells
      clear hyes
      go_wp2_with fail
      refine (copy_any _ _ E D M _ (HD.out.below hbx.out.2.2) (HM.out.below hbx.out.2.2) hD hM).mono ?_
      rintro e w2 ⟨dv1, mv1, rfl, hd1, hm1, hb2⟩
      obtain ⟨p1, cap1, rfl⟩ := owns_shape hd1
      obtain ⟨q1, cap11, rfl⟩ := owns_shape hm1
      obtain ⟨B, hB⟩ : ∃ B, B = wr.heap.size := ⟨_, rfl⟩
      rw [← hB] at hd1 hm1
      have hBge : w.heap.size + 2 ≤ B := by rw [hB]; exact hbx.out.2.1.lt
      clear hB
      have hbn := below1 w2 (.cells #[.slice p1 D.length cap1, .slice q1 M.length cap11, .int .u64 E] 26)
      have hz : RamVar (w2.alloc (.cells #[.slice p1 D.length cap1, .slice q1 M.length cap11, .int .u64 E] 26)) w2.heap.size (.slice p1 D.length cap1) (.slice q1 M.length cap11) E := heap_alloc_new _ _
      have hz8 : w.heap.size + 1 < w2.heap.size := (hbx.out.below hb2).2.1.lt
      have HAT := Lib.hid (show LayAt w _ B w2.heap.size (.slice p D.length cap) (.slice q M.length cap2) (.slice p1 D.length cap1) (.slice q1 M.length cap11) E D M L 0 from ⟨(hbx.out.below hb2).below hbn, hz, hd1.below hbn, hm1.below hbn⟩)
      clear x0 x1 x2 hbx hd1 hm1 hb2 hbn hz HBN
      go_wp2_with fail
      generalize w2.alloc (.cells #[.slice p1 D.length cap1, .slice q1 M.length cap11, .int .u64 E] 26) = w3 at *
      generalize w2.heap.size = z8 at *
      go_loopw [34] (fun i wr => ∃ j : Nat, j ≤ L.length ∧ i = .int .i64 j ∧ Hid (LayAt w wr B z8 (.slice p D.length cap) (.slice q M.length cap2) (.slice p1 D.length cap1) (.slice q1 M.length cap11) E D M L j)) (fun i _ => L.length - (intOf i).toNat)
      case atStart => exact ⟨0, Nat.zero_le _, rfl, HAT⟩
      case round =>
        obtain ⟨j, hj, rfl, hat⟩ := hrel
        clear hall
        by_cases hlt : j < L.length
        · have hgood : goodB D.length L[j] = true := by
            have h := HYES.out
            unfold layB at h
            exact List.all_eq_true.1 h _ (List.getElem_mem _)
          obtain ⟨hg1, hg2⟩ : leafB D.length L[j].leaf = true ∧ L[j].bytes.size = 256 := by
            unfold goodB at hgood
            simpa using hgood
          have hg3 : 0 ≤ L[j].leaf ∧ L[j].leaf < ((D.length / 256 : Nat) : Int) := by unfold leafB at hg1; exact of_decide_eq_true hg1
          have hnD := layD_succ D L j hlt
          have hnM := layM_succ D.length M E L j hlt
          have hl0 := layD_length D (L.take j)
          obtain ⟨b, off, _, e1, hb, hc⟩ := (HP.out.below hat.out.box.2.2).cell (by omega)
          simp only [Value.slice.injEq, true_and] at e1
          obtain ⟨rfl, rfl⟩ := e1
          obtain ⟨c0, c1⟩ := hc j hlt
          clear hc hgood hg1
          generalize hPe : L[j] = P at *
          obtain ⟨lf, bs⟩ := P
          dsimp only at c0 c1 hg2 hg3
          have HND := Lib.hid hnD
          have HNM := Lib.hid hnM
          have HL0 := Lib.hid hl0
          have HG2 := Lib.hid hg2
          have hlf : lf ≤ 36028797018963967 := by omega
          have hlf0 := hg3.1
          have hbn := below1 wr (.cells #[.int .i64 lf, .string bs] 64)
          have HZ1 := Lib.hid (hat.out.z.below hbn)
          have HBX1 := Lib.hid (hat.out.box.below hbn)
          have HD1 := Lib.hid (hat.out.d.below hbn)
          have HM1 := Lib.hid (hat.out.m.below hbn)
          clear hnD hnM hl0 hg2 hg3 hbn hPe
          go_wp2_with fail
          refine (put_any _ _ _ _ _ _ _ _ _ _ HZ1.out HD1.out HM1.out (by omega) (by omega) (by rw [HG2.out]; omega)).mono ?_
          rintro e w5 ⟨rfl, hp⟩
          rw [HL0.out] at hp
          have hS : ∀ k, PutS (.slice p1 D.length cap1) (.slice q1 M.length cap11) k → B ≤ k := fun k hk => by
            rcases hk with hk | hk
            · exact (owns_lt HD1.out hk.symm).1
            · exact (owns_lt HM1.out hk.symm).1
          have HNX := Lib.hid (show LayAt w w5 B z8 (.slice p D.length cap) (.slice q M.length cap2) (.slice p1 D.length cap1) (.slice q1 M.length cap11) E D M L (j + 1) from
            ⟨⟨HBX1.out.1.touch hp.t (fun hk => by have := hS _ hk; omega), HBX1.out.2.1.touch hp.t (fun hk => by have := hS _ hk; omega), Touch.below HBX1.out.2.2 hp.t (fun k hk => by have := hS _ hk; omega) HBX1.out.2.2.size⟩,
              hp.var, by rw [HND.out]; exact hp.d, by rw [HNM.out]; exact hp.m⟩)
          clear hp hS
          go_wp2_with fail
          exact ⟨⟨j + 1, by omega, by go_num, HNX⟩, by simp [intOf]; omega⟩
        · obtain ⟨z0, z1, z2⟩ := hat.out.z.cells
          have hr := hat.out.box.2.1
          obtain ⟨r0, r1, r2⟩ := hr.cells
          have r3 := hr.free 0
          have r4 := hr.free 1
          have r5 := hr.free 2
          have HFIN := Lib.hid (hr.store (.slice p1 D.length cap1) (.slice q1 M.length cap11) E)
          have hpost : LayRes w D M E L (.returned (.tuple #[.agg #[.slice p1 D.length cap1, .slice q1 M.length cap11, .int .u64 E], .int .i64 0])) (((wr.setCell ⟨w.heap.size + 1, 0, none⟩ (.slice p1 D.length cap1)).setCell ⟨w.heap.size + 1, 1, none⟩ (.slice q1 M.length cap11)).setCell ⟨w.heap.size + 1, 2, none⟩ (.int .u64 E)) := by
            have ht : Touch wr (((wr.setCell ⟨w.heap.size + 1, 0, none⟩ (.slice p1 D.length cap1)).setCell ⟨w.heap.size + 1, 1, none⟩ (.slice q1 M.length cap11)).setCell ⟨w.heap.size + 1, 2, none⟩ (.int .u64 E)) (fun k => k = w.heap.size + 1) :=
              (((Touch.refl wr (fun k => k = w.heap.size + 1)).setCell (.inl rfl) _).setCell (.inl rfl) _).setCell (.inl rfl) _
            have hd9 := hat.out.d
            have hm9 := hat.out.m
            rw [List.take_of_length_le (by omega)] at hd9 hm9
            unfold LayRes
            rw [HYES.out]
            refine ⟨_, _, rfl, ?_, ?_, ((hat.out.box.2.2.setCell (Nat.le_succ _) _).setCell (Nat.le_succ _) _).setCell (Nat.le_succ _) _⟩
            · exact owns_base (owns_touch hd9 ht (fun g hg e => by have := (owns_lt hd9 hg).1; omega)) (by omega)
            · exact owns_base (owns_touch hm9 ht (fun g hg e => by have := (owns_lt hm9 hg).1; omega)) (by omega)
          have HPOST := Lib.hid hpost
          clear hpost hr
          go_wp2_with fail
          obtain ⟨f0, f1, f2⟩ := HFIN.out.cells
          exact bodyPost_ret (v := .tuple #[.agg #[.slice p1 D.length cap1, .slice q1 M.length cap11, .int .u64 E], .int .i64 0]) (by simp [results, Try.results26, go_sem, f0, f1, f2]) rfl HPOST.out
end Go.Proofs.Ytocphogddjcblaa
