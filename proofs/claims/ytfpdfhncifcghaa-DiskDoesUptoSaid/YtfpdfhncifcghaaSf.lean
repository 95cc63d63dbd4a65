/- DiskCrashes: the walk. -/
import Derived.Test.YtfpdfhncifcghaaSe
namespace Go.Proofs.Ytfpdfhncifcghaa
open Go.RowKit Go.Deep Go.Joins

theorem idx_same {l l' : List Rw} (h : l'.map core = l.map core) (x : ByteArray) : idx (sameName x) l' = idx (sameName x) l := by
  have e : ∀ m : List Rw, m.findIdx? (sameName x) = (m.map core).findIdx? (fun f => sameN f.name x) := fun m => by rw [List.findIdx?_map]; rfl
  unfold idx
  rw [e l', e l, h]
theorem core_mem {l l' : List Rw} (h : l'.map core = l.map core) {r : Rw} (hr : r ∈ l') : ∃ r0 ∈ l, r0.name = r.name ∧ r0.safe = r.safe ∧ r0.opens = r.opens := by
  have h1 : core r ∈ l.map core := h ▸ List.mem_map_of_mem hr
  obtain ⟨r0, h2, h3⟩ := List.mem_map.1 h1
  unfold core at h3
  simp only [Fl.mk.injEq] at h3
  exact ⟨r0, h2, h3⟩
/-- Files that are small. -/
def Small (l : List Rw) : Prop := l.length ≤ 1048576 ∧ ∀ r ∈ l, r.opens.length ≤ 1048576 ∧ r.safe.size ≤ 1048576 ∧ ∀ x ∈ r.opens, x.bytes.size ≤ 1048576
theorem Small.core {l l' : List Rw} (hs : Small l) (h : l'.map core = l.map core) : Small l' := by
  have hl : l'.length = l.length := by simpa using congrArg List.length h
  refine ⟨by rw [hl]; exact hs.1, fun r hr => ?_⟩
  obtain ⟨r0, h0, _, h2, h3⟩ := core_mem h hr
  rw [← h2, ← h3]
  exact hs.2 r0 h0
theorem Small.okay {l : List Rw} (hs : Small l) : Okay l := fun r hr => by
  obtain ⟨h1, h2, h3⟩ := hs.2 r hr
  exact ⟨by omega, fun x hx => by have := h3 x hx; omega, by omega⟩
theorem Small.refs {l : List Rw} (hs : Small l) : ∀ r ∈ l, r.opens.length ≤ 1099511627776 ∧ r.safe.size ≤ 1099511627776 ∧ ∀ x ∈ r.opens, x.bytes.size ≤ 1099510579200 := fun r hr => by
  obtain ⟨h1, h2, h3⟩ := hs.2 r hr
  exact ⟨by omega, by omega, fun x hx => by have := h3 x hx; omega⟩
/-- All bytes of a file by its name: the program's answer and the reference's. -/
theorem bytes_both (l l1 : List Rw) (v v1 : Value) (x : ByteArray) (hc : l1.map core = l.map core) (hs : Small l) : ∃ (A : ByteArray) (E : Int),
    (∀ W : World, Reads W v1 3 l1.length (rowCells l1) → Opens W l1 → Calls Try.prog 19 #[.agg #[v1], .string x] W fun e w' => e = .returned (.tuple #[.string A, .int .i64 E]) ∧ Below W.heap.size W w') ∧
    (∀ W : World, Reads W v 3 l.length (rowCells l) → Opens W l → Calls Try.prog 20 #[.agg #[v], .string x] W fun e w' => e = .returned (.tuple #[.string A, .int .i64 E]) ∧ Below W.heap.size W w') := by
  have hs1 := hs.core hc
  have hl := hs.1
  have hl1 := hs1.1
  rcases idx_cases (sameName x) l with ⟨_, hi⟩ | ⟨k, hk, hi, _, _⟩
  · exact ⟨⟨#[]⟩, 20, fun W h _ => bytes_none l1 v1 x W h (by omega) (by rw [idx_same hc, hi]), fun W h _ => bytes2_none l v x W h (by omega) hi⟩
  · have hll : l1.length = l.length := by simpa using congrArg List.length hc
    have hk1 : k < l1.length := by omega
    obtain ⟨e0, e1, e2⟩ := core_at hc k hk1 hk
    refine ⟨layB l[k].safe l[k].opens, 0, fun W h ho => ?_, fun W h ho => ?_⟩
    · have := bytes_some l1 v1 x W k hk1 h ho hs1.okay (by omega) (by rw [idx_same hc, hi])
      rw [← e1, ← e2] at this
      exact this
    · obtain ⟨h1, h2, h3⟩ := hs.refs l[k] (List.getElem_mem _)
      exact bytes2_some l v x W k hk h ho (by omega) h2 h1 h3 hi

set_option maxRecDepth 100000 in
set_option maxHeartbeats 1000000 in
theorem crashes_any (l : List Rw) (v : Value) (fs : List Ft) (fv : Value) (x : ByteArray) (w : World) (hr : Reads w v 3 l.length (rowCells l)) (ho : Opens w l) (hf : Reads w fv 3 fs.length (ftCells fs)) (hwh : Wholes w fs)
    (hs : Small l) (hmf : fs.length ≤ 1048576) :
    Calls Try.prog 4 #[.agg #[v], fv, .string x] w fun e w' => e = .returned (.bool true) ∧ Below w.heap.size w w' := by
  obtain ⟨p, cap, rfl⟩ := hr.is
  obtain ⟨p2, cap2, rfl⟩ := hf.is
  have hl := hs.1
  go_enter Try.func4, Try.ntmps4
  go_wp2_with fail
  refine (awake_any _).mono ?_
  rintro e w1 ⟨rfl, hb1⟩
  have hbw1 := below_then (below1 w _) hb1
  have f0 : w1.cell? ⟨w.heap.size, 0, none⟩ = some (.slice p l.length cap) := (hb1.cell (p := ⟨w.heap.size, 0, none⟩) (by simp)).trans (by simp)
  have hlt1 : w.heap.size < w1.heap.size := lt_of_cell f0
  have HBW1 := Lib.hid hbw1
  clear hbw1 hb1
  go_wp2_with fail
  refine (copy2_any l _ _ (hr.below HBW1.out) (ho.below HBW1.out) (fun r hr => (hs.refs r hr).1) (by omega)).mono ?_
  rintro e w2 ⟨v1, l1, rfl, hc1, hd1, hb2⟩
  obtain ⟨q1, qc1, rfl⟩ := owns_shape hd1.1
  have f1 := below_cell hb2 f0
  have hs1 := hs.core hc1
  have hl1 : l1.length ≤ 1048576 := hs1.1
  obtain ⟨A, E, hA1, hA2⟩ := bytes_both l l1 (.slice p l.length cap) (.slice q1 l1.length qc1) x hc1 hs
  have HA1 := Lib.hid hA1
  have HA2 := Lib.hid hA2
  have HBW2 := Lib.hid (below_then HBW1.out hb2)
  have HD1 := Lib.hid hd1
  have HC1 := Lib.hid hc1
  have HS := Lib.hid hs
  have HS1 := Lib.hid hs1
  clear hd1 hc1 hb2 hA1 hA2 f0 hs hs1
  go_wp2_with fail
  generalize hwo : w2.alloc (Obj.cells #[.slice q1 l1.length qc1] 24) = wo
  have hbo : Below w2.heap.size w2 wo := hwo ▸ below1 w2 _
  have Z0 : VarAt wo w2.heap.size (.slice q1 l1.length qc1) := hwo ▸ VarAt.new w2 _
  have HBO := Lib.hid (below_then HBW2.out hbo)
  have HDO := Lib.hid (HD1.out.below hbo)
  have g0 := below_cell hbo f1
  have z0 := Z0.c
  have hlo0 : w.heap.size < wo.heap.size := lt_of_cell g0
  have hlo : w2.heap.size < wo.heap.size := Z0.lt
  clear hwo hbo HD1 HBW2 f1 Z0
  have h16 : ∀ W, Below wo.heap.size wo W → Calls Try.prog 16 #[.agg #[.slice q1 l1.length qc1], .slice p2 fs.length cap2] W fun e w' => ∃ q qc, e = .returned (.agg #[.slice q l1.length qc]) ∧ Hid (Reads w' (.slice q l1.length qc) 3 l1.length (rowCells (crashRows l1 fs))) ∧ Below wo.heap.size wo w' ∧ Below W.heap.size W w' := fun W hW => by
    have hd := HDO.out.below hW
    refine (crash_any l1 _ fs _ W (reads_of_owns hd.1) hd.opens ((hf.below HBO.out).below hW) (fun r h => ((hwh r h).below HBO.out).below hW) HS1.out.okay (by omega) (fun r hr => by obtain ⟨q, c, e⟩ := owns_shape (hd.2 r hr); rw [e]; rfl) (by omega)).mono ?_
    rintro e w' ⟨v', rfl, h1, h2⟩
    obtain ⟨q, qc, rfl⟩ := owns_shape h1
    exact ⟨q, qc, rfl, reads_of_owns h1, below_then hW h2, h2⟩
  have h17 : ∀ W, Below wo.heap.size wo W → Calls Try.prog 17 #[.agg #[.slice p l.length cap], .slice p2 fs.length cap2] W fun e w' => ∃ q qc l2, e = .returned (.agg #[.slice q (List.length l2) qc]) ∧ Hid (l2.map core = (crashRows l fs).map core) ∧ Hid (OwnR w' W.heap.size (.slice q l2.length qc) l2) ∧ Below wo.heap.size wo w' ∧ Below W.heap.size W w' := fun W hW => by
    refine (crash2_any l _ fs _ W ((hr.below HBO.out).below hW) ((ho.below HBO.out).below hW) ((hf.below HBO.out).below hW) (fun r h => ((hwh r h).below HBO.out).below hW) HS.out.refs (by omega) (by omega)).mono ?_
    rintro e w' ⟨v', l2, rfl, h1, h2, h3⟩
    obtain ⟨q, qc, rfl⟩ := owns_shape h2.1
    exact ⟨q, qc, l2, rfl, h1, h2, below_then hW h3, h3⟩
  have h18 : ∀ W, Below wo.heap.size wo W → Calls Try.prog 18 #[.agg #[.slice q1 l1.length qc1]] W fun e w' => ∃ q qc l3, e = .returned (.agg #[.slice q (List.length l3) qc]) ∧ Hid (l3.map core = l1.map core) ∧ Hid (Reads w' (.slice q l3.length qc) 3 l3.length (rowCells l3)) ∧ Hid (Opens w' l3) ∧ Below wo.heap.size wo w' ∧ Below W.heap.size W w' := fun W hW => by
    have hd := HDO.out.below hW
    refine (copy_any l1 _ W (reads_of_owns hd.1) hd.opens HS1.out.okay (by omega)).mono ?_
    rintro e w' ⟨v', l3, rfl, h1, h2, h3⟩
    obtain ⟨q, qc, rfl⟩ := owns_shape h2.1
    exact ⟨q, qc, l3, rfl, h1, reads_of_owns h2.1, fun r hr => reads_of_owns (h2.2.1 r hr), below_then hW h3, h3⟩
  have h15a : ∀ W q qc q2 qc2 (l2 : List Rw), Below wo.heap.size wo W → Reads W (.slice q l1.length qc) 3 l1.length (rowCells (crashRows l1 fs)) → Hid (l2.map core = (crashRows l fs).map core) → Reads W (.slice q2 l2.length qc2) 3 l2.length (rowCells l2) → Opens W l2 →
      Calls Try.prog 15 #[.agg #[.slice q l1.length qc], .agg #[.slice q2 l2.length qc2]] W fun e w' => e = .returned (.bool true) ∧ Below wo.heap.size wo w' ∧ Below W.heap.size W w' := fun W q qc q2 qc2 l2 hW h1 hc h2 h3 => by
    have hlc := crashRows_length l1 fs
    rw [← hlc] at h1 ⊢
    exact (same_true (crashRows l1 fs) l2 _ _ W h1 (crash_opens _ _ _) h2 h3 ((crashRows_core HC1.out fs).trans hc.out.symm) (by rw [hlc]; omega) (fun r hr => by
      obtain ⟨r0, _, f, rfl⟩ := crash_mem hr
      exact Nat.zero_le _)).mono fun e w' ⟨k1, k2⟩ => ⟨k1, below_then hW k2, k2⟩
  have h15b : ∀ W q3 qc3 (l3 : List Rw), Below wo.heap.size wo W → Hid (l3.map core = l1.map core) → Hid (Reads W (.slice q3 l3.length qc3) 3 l3.length (rowCells l3)) → Hid (Opens W l3) →
      Calls Try.prog 15 #[.agg #[.slice q3 l3.length qc3], .agg #[.slice p l.length cap]] W fun e w' => e = .returned (.bool true) ∧ Below wo.heap.size wo w' ∧ Below W.heap.size W w' := fun W q3 qc3 l3 hW hc h2 h3 => by
    have hs3 := HS1.out.core hc.out
    exact (same_true l3 l _ _ W h2.out h3.out ((hr.below HBO.out).below hW) ((ho.below HBO.out).below hW) (hc.out.trans HC1.out) (by have := hs3.1; omega) (fun r hr => by have := (hs3.2 r hr).1; omega)).mono fun e w' ⟨k1, k2⟩ => ⟨k1, below_then hW k2, k2⟩
  have h15c : ∀ W, Below wo.heap.size wo W → Calls Try.prog 15 #[.agg #[.slice q1 l1.length qc1], .agg #[.slice p l.length cap]] W fun e w' => e = .returned (.bool true) ∧ Below wo.heap.size wo w' ∧ Below W.heap.size W w' := fun W hW => by
    have hd := HDO.out.below hW
    exact (same_true l1 l _ _ W (reads_of_owns hd.1) hd.opens ((hr.below HBO.out).below hW) ((ho.below HBO.out).below hW) HC1.out (by omega) (fun r hr => by have := (HS1.out.2 r hr).1; omega)).mono fun e w' ⟨k1, k2⟩ => ⟨k1, below_then hW k2, k2⟩
  have h19 : ∀ W, Below wo.heap.size wo W → Calls Try.prog 19 #[.agg #[.slice q1 l1.length qc1], .string x] W fun e w' => e = .returned (.tuple #[.string A, .int .i64 E]) ∧ Below wo.heap.size wo w' := fun W hW =>
    (HA1.out W (reads_of_owns (HDO.out.below hW).1) (HDO.out.below hW).opens).mono fun e w' ⟨k1, k2⟩ => ⟨k1, below_then hW k2⟩
  have h20 : ∀ W, Below wo.heap.size wo W → Calls Try.prog 20 #[.agg #[.slice p l.length cap], .string x] W fun e w' => e = .returned (.tuple #[.string A, .int .i64 E]) ∧ Below wo.heap.size wo w' := fun W hW =>
    (HA2.out W ((hr.below HBO.out).below hW) ((ho.below HBO.out).below hW)).mono fun e w' ⟨k1, k2⟩ => ⟨k1, below_then hW k2⟩
  have H16 := Lib.hid h16
  have H17 := Lib.hid h17
  have H18 := Lib.hid h18
  have H15A := Lib.hid h15a
  have H15B := Lib.hid h15b
  have H15C := Lib.hid h15c
  have H19 := Lib.hid h19
  have H20 := Lib.hid h20
  clear h16 h17 h18 h15a h15b h15c h19 h20 HA1 HA2
  have hS : ∀ w' : World, Below wo.heap.size wo w' → w'.cell? ⟨w.heap.size, 0, none⟩ = some (.slice p l.length cap) ∧ w'.cell? ⟨w2.heap.size, 0, none⟩ = some (.slice q1 l1.length qc1) := fun w' h => ⟨below_cell h g0, below_cell h z0⟩
  have HSS := Lib.hid hS
  clear hS
  go_region_held3 (fun w' => w'.cell? ⟨w.heap.size, 0, none⟩ = some (.slice p l.length cap) ∧ w'.cell? ⟨w2.heap.size, 0, none⟩ = some (.slice q1 l1.length qc1))
    (first | exact HSS.out _ N9 | exact HSS.out _ N8 | exact HSS.out _ N7 | exact HSS.out _ N6 | exact HSS.out _ N5 | exact HSS.out _ (Below.refl _ _).drew)
    (first
      | (go_at_call 16; with_reducible refine (H16.out _ N6).mono ?_; rintro e w5 ⟨qa, ca, rfl, ra, N5, hb5⟩)
      | (go_at_call 16; refine (H16.out _ (Below.refl _ _).drew).mono ?_; rintro e w5 ⟨qa, ca, rfl, ra, N5, hb5⟩)
      | (go_at_call 17; with_reducible refine (H17.out _ N5).mono ?_; rintro e w6 ⟨qb, cb, l2, rfl, rc, rb, N6, hb6⟩)
      | (go_at_call 17; refine (H17.out _ (Below.refl _ _).drew).mono ?_; rintro e w6 ⟨qb, cb, l2, rfl, rc, rb, N6, hb6⟩)
      | (go_at_call 15; have hzz := H15A.out _ _ _ _ _ _ N6 (ra.out.below hb6) rc (reads_of_owns rb.out.1) rb.out.opens; with_reducible refine hzz.mono ?_; clear hzz; rintro e w7 ⟨rfl, N7, hb7⟩)
      | (go_at_call 18; refine (H18.out _ N7).mono ?_; rintro e w8 ⟨qd, cd, l3, rfl, sc, sr, so, N8, hb8⟩)
      | (go_at_call 15; have hzz := H15B.out _ _ _ _ N8 sc sr so; with_reducible refine hzz.mono ?_; clear hzz; rintro e w9 ⟨rfl, N9, hb9⟩)
      | fail)
  all_goals
    have r9 := HSS.out _ N9
    have r9a := r9.1
    have r9b := r9.2
    have lr1 := lt_of_cell r9a
    have lr2 := lt_of_cell r9b
    clear H15A H15B H16 H17 H18
    go_wp2_with (first
      | (go_at_call 19; refine (H19.out _ N9).mono ?_; rintro e w10 ⟨rfl, N10⟩; have ra10 := (HSS.out _ N10).1; have rb10 := (HSS.out _ N10).2)
      | (go_at_call 20; refine (H20.out _ N10).mono ?_; rintro e w11 ⟨rfl, N11⟩; have ra11 := (HSS.out _ N11).1; have rb11 := (HSS.out _ N11).2)
      | (go_at_call 15; refine (H15C.out _ N11).mono ?_; rintro e w12 ⟨rfl, N12, hb12⟩))
    go_ret
    exact ⟨ret_bool (by simp), below_then HBO.out N12⟩
end Go.Proofs.Ytfpdfhncifcghaa
