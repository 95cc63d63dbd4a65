/- The reference's one: a cut. -/
import Derived.Test.YtfpdfhncifcghaaTc
namespace Go.Proofs.Ytfpdfhncifcghaa
open Go.RowKit Go.Deep Go.Joins

set_option maxRecDepth 100000 in
set_option maxHeartbeats 1000000 in
theorem one_cut (l : List Rw) (v : Value) (B k : Nat) (nm : ByteArray) (t : Nat) (bs : ByteArray) (w : World) (hown : OwnR w B v l) (hnm : nameB nm = true) (hn : nm.size ≤ 1099511627776) (hm : l.length ≤ 1099511627776) (hk : k < l.length)
    (hi : idx (sameName nm) l = (k : Int)) (hs : l[k].safe.size ≤ 1099511627776) (hol : l[k].opens.length ≤ 1099511627776) (hbs : ∀ x ∈ l[k].opens, x.bytes.size ≤ 1099510579200) (hps : t ≤ (layB l[k].safe l[k].opens).size) :
    Calls Try.prog 24 #[.agg #[v], .agg #[.int .i64 3, .string nm, .int .i64 (t : Int), .string bs]] w (One w B v ((l.map core).set k ⟨l[k].name, (layB l[k].safe l[k].opens).extract 0 t, []⟩) 0) := by
  have HOWN := Lib.hid hown
  have hop := reads_of_owns (hown.2 l[k] (List.getElem_mem _))
  obtain ⟨q, cap, rfl⟩ := owns_shape hown.1
  obtain ⟨g, hq, hg1, hg2, c0, c1, c2, fzz⟩ := owns_file hown.1 k hk (by omega)
  subst hq
  obtain ⟨p3, cap3, hov⟩ := hop.is
  rw [hov] at c2 hop
  have HOP := Lib.hid hop
  have HBS := Lib.hid hbs
  clear hown hop hov hbs
  have hb0 : Below w.heap.size w (((w.alloc (.cells #[.slice (some ⟨g, 0, none⟩) l.length cap] 24)).alloc (opObj ⟨3, nm, (t : Int), bs⟩)).alloc (.cells #[.slice none 0 0] 24)) := (below2 w _ _).alloc (by simp; omega) _
  have HB0 := Lib.hid hb0
  have hfind := find2_any l (.slice (some ⟨g, 0, none⟩) l.length cap) nm _ ((reads_of_owns HOWN.out.1).below hb0) hm
  rw [hi] at hfind
  have HF := Lib.hid hfind
  clear hb0 hfind hi
  go_enter Try.func24, Try.ntmps24
  go_wp2_with (go_at_call 11; refine (name2_any nm _ hn).mono ?_; rintro e w1 ⟨rfl, rfl⟩; rw [hnm])
  refine HF.out.mono ?_
  rintro e w5 ⟨rfl, hb5⟩
  have hps2 : (t : Int) ≤ ((layB l[k].safe l[k].opens).size : Int) := by omega
  obtain ⟨D5, O5, R5⟩ := start_keep (o := ⟨3, nm, (t : Int), bs⟩) hb5
  have d5 := D5.c
  have o5 : w5.cell? ⟨w.heap.size + 1, 0, none⟩ = some (.int .i64 3) := by rw [cell_of_row _ _ _ _ 53 _ O5]; rfl
  have hb := below_then HB0.out hb5
  have HB := Lib.hid hb
  have HD5 := Lib.hid D5
  have HR5 := Lib.hid R5
  have HO5 := Lib.hid O5
  have l1 := D5.lt
  have l2 := (Array.getElem?_eq_some_iff.1 O5).1
  have e0 := below_cell hb c0
  have e1 := below_cell hb c1
  have e2 := below_cell hb c2
  have lg := lt_of_cell e0
  clear hb hb5 D5 R5 O5
  go_wp2_with fail
  refine (whole_any l[k].name l[k].safe l[k].opens _ _ (HOP.out.below HB.out) hol hs HBS.out).mono ?_
  rintro e w6 ⟨rfl, hb6⟩
  have N6 := Lib.hid (below_then HB.out hb6)
  have D6 := HD5.out.keep hb6
  have R6 := HR5.out.keep hb6
  have O6 : w6.heap[w.heap.size + 1]? = some (opObj ⟨3, nm, (t : Int), bs⟩) := (hb6.block _ l2).trans HO5.out
  have d6 := D6.c
  have dl6 := D6.lt
  have o6 : w6.cell? ⟨w.heap.size + 1, 0, none⟩ = some (.int .i64 3) := by rw [cell_of_row _ _ _ _ 53 _ O6]; rfl
  have ol6 := (Array.getElem?_eq_some_iff.1 O6).1
  have p6 : w6.cell? ⟨w.heap.size + 1, 2, none⟩ = some (.int .i64 (t : Int)) := by rw [cell_of_row _ _ _ _ 53 _ O6]; rfl
  have x0 := below_cell N6.out c0
  have x1 := below_cell N6.out c1
  have x2 := below_cell N6.out c2
  have y1 := (N6.out.frozen (p := ⟨g, k * 3 + 1, none⟩) hg2).trans (fzz _)
  have y2 := (N6.out.frozen (p := ⟨g, k * 3 + 2, none⟩) hg2).trans (fzz _)
  have hgw : g ≠ w.heap.size := by omega
  have hS1 : ∀ (w' : World) (j : Nat) (x : Value), w'.cell? ⟨w.heap.size, 0, none⟩ = some (.slice (some ⟨g, 0, none⟩) l.length cap) ∧ w'.cell? ⟨w.heap.size + 1, 2, none⟩ = some (.int .i64 (t : Int)) → (w'.setCell ⟨g, j, none⟩ x).cell? ⟨w.heap.size, 0, none⟩ = some (.slice (some ⟨g, 0, none⟩) l.length cap) ∧ (w'.setCell ⟨g, j, none⟩ x).cell? ⟨w.heap.size + 1, 2, none⟩ = some (.int .i64 (t : Int)) := fun w' j x h => ⟨(World.cell?_setCell_far _ _ _ _ hgw).trans h.1, (World.cell?_setCell_far _ _ _ _ (show g ≠ w.heap.size + 1 by omega)).trans h.2⟩
  have HS1 := Lib.hid hS1
  have m5 : w6.drew.cell? ⟨w.heap.size, 0, none⟩ = some (.slice (some ⟨g, 0, none⟩) l.length cap) ∧ w6.drew.cell? ⟨w.heap.size + 1, 2, none⟩ = some (.int .i64 (t : Int)) := ⟨d6, p6⟩
  have m6 := fun x => hS1 w6.drew (k * 3 + 1) x m5
  have m7 := fun x y => hS1 _ (k * 3 + 2) y (m6 x)
  have HD6 := Lib.hid D6
  have HR6 := Lib.hid R6
  clear hS1 hb6 D6 R6 O6 HF e0 e1 e2 d5 o5
  go_wp2_with fail
  go_region_held3 (fun w' => w'.cell? ⟨w.heap.size, 0, none⟩ = some (.slice (some ⟨g, 0, none⟩) l.length cap) ∧ w'.cell? ⟨w.heap.size + 1, 2, none⟩ = some (.int .i64 (t : Int))) (first | with_reducible exact m5 | with_reducible exact m6 _ | with_reducible exact m7 _ _ | exact HS1.out w6 _ _ m5 | exact HS1.out _ _ _ (HS1.out w6 (k * 3 + 1) _ m5) | go_keep) (fail)
  have hput := put_file (HOWN.out.below N6.out) rfl hk ((layB l[k].safe l[k].opens).extract 0 t)
  have hgr : w.grownBy ((w6.setCell ⟨g, k * 3 + 1, none⟩ (.string ((layB l[k].safe l[k].opens).extract 0 t))).setCell ⟨g, k * 3 + 2, none⟩ (.slice none 0 0)) (some g) := grown_set (grown_set (below_grownBy N6.out) (.inl rfl) _ _) (.inl rfl) _ _
  have hd7 := (HD6.out.far hgw (k * 3 + 1) (.string ((layB l[k].safe l[k].opens).extract 0 t))).far hgw (k * 3 + 2) (.slice none 0 0)
  have hr7 := (HR6.out.far (show g ≠ w.heap.size + 1 + 1 by omega) (k * 3 + 1) (.string ((layB l[k].safe l[k].opens).extract 0 t))).far (show g ≠ w.heap.size + 1 + 1 by omega) (k * 3 + 2) (.slice none 0 0)
  refine one_end (W := (w6.setCell ⟨g, k * 3 + 1, none⟩ (.string ((layB l[k].safe l[k].opens).extract 0 t))).setCell ⟨g, k * 3 + 2, none⟩ (.slice none 0 0)) hput hgr hd7 hr7 ?_
  clear hput hgr hd7 hr7 m5 m6 m7 HD6 HR6 N6 HOWN x0 x1 x2 y1 y2 d6 o6 p6 HB HD5 HR5 HO5 HOP HBS HB0 fzz c0 c1 c2
  intro W7 hput hgr hd7 hr7
  have d7 := hd7.c
  have r7 := hr7.c
  have z7 := hr7.f
  have l7 := hd7.lt
  have l8 := hr7.lt
  have HP := Lib.hid hput
  have HG := Lib.hid hgr
  have HR := Lib.hid hr7
  clear hput hgr hd7 hr7
  go_wp2_with fail
  have hgf : w.grownBy (W7.setCell ⟨w.heap.size + 1 + 1, 0, none⟩ (.slice (some ⟨g, 0, none⟩) l.length cap)) (some g) := grown_set HG.out (.inr (by omega)) 0 _
  refine bodyPost_ret (v := .tuple #[.agg #[.slice (some ⟨g, 0, none⟩) l.length cap], .int .i64 0]) (by simp [results, Try.results24, go_sem, r7]) rfl
    ⟨_, _, rfl, ?_, (HP.out.set HR.out _).drew, fun h => absurd rfl h, grown_drew hgf⟩
  rw [List.map_set]
  rfl

set_option maxRecDepth 100000 in
set_option maxHeartbeats 1000000 in
theorem one_nocut (l : List Rw) (v : Value) (B k : Nat) (nm : ByteArray) (ps : Int) (bs : ByteArray) (w : World) (hown : OwnR w B v l) (hnm : nameB nm = true) (hn : nm.size ≤ 1099511627776) (hm : l.length ≤ 1099511627776) (hk : k < l.length)
    (hi : idx (sameName nm) l = (k : Int)) (hs : l[k].safe.size ≤ 1099511627776) (hol : l[k].opens.length ≤ 1099511627776) (hbs : ∀ x ∈ l[k].opens, x.bytes.size ≤ 1099510579200) (hps : ps < 0 ∨ ((layB l[k].safe l[k].opens).size : Int) < ps) :
    Calls Try.prog 24 #[.agg #[v], .agg #[.int .i64 3, .string nm, .int .i64 ps, .string bs]] w (One w B v (l.map core) 1) := by
  have HOWN := Lib.hid hown
  have hop := reads_of_owns (hown.2 l[k] (List.getElem_mem _))
  obtain ⟨q, cap, rfl⟩ := owns_shape hown.1
  obtain ⟨g, hq, hg1, hg2, c0, c1, c2, fzz⟩ := owns_file hown.1 k hk (by omega)
  subst hq
  obtain ⟨p3, cap3, hov⟩ := hop.is
  rw [hov] at c2 hop
  have HOP := Lib.hid hop
  have HBS := Lib.hid hbs
  clear hown hop hov hbs
  have hb0 : Below w.heap.size w (((w.alloc (.cells #[.slice (some ⟨g, 0, none⟩) l.length cap] 24)).alloc (opObj ⟨3, nm, ps, bs⟩)).alloc (.cells #[.slice none 0 0] 24)) := (below2 w _ _).alloc (by simp; omega) _
  have HB0 := Lib.hid hb0
  have hfind := find2_any l (.slice (some ⟨g, 0, none⟩) l.length cap) nm _ ((reads_of_owns HOWN.out.1).below hb0) hm
  rw [hi] at hfind
  have HF := Lib.hid hfind
  clear hb0 hfind hi
  go_enter Try.func24, Try.ntmps24
  go_wp2_with (go_at_call 11; refine (name2_any nm _ hn).mono ?_; rintro e w1 ⟨rfl, rfl⟩; rw [hnm])
  refine HF.out.mono ?_
  rintro e w5 ⟨rfl, hb5⟩
  obtain ⟨D5, O5, R5⟩ := start_keep (o := ⟨3, nm, ps, bs⟩) hb5
  have d5 := D5.c
  have o5 : w5.cell? ⟨w.heap.size + 1, 0, none⟩ = some (.int .i64 3) := by rw [cell_of_row _ _ _ _ 53 _ O5]; rfl
  have hb := below_then HB0.out hb5
  have HB := Lib.hid hb
  have HD5 := Lib.hid D5
  have HR5 := Lib.hid R5
  have HO5 := Lib.hid O5
  have l1 := D5.lt
  have l2 := (Array.getElem?_eq_some_iff.1 O5).1
  have e0 := below_cell hb c0
  have e1 := below_cell hb c1
  have e2 := below_cell hb c2
  have lg := lt_of_cell e0
  clear hb hb5 D5 R5 O5
  go_wp2_with fail
  refine (whole_any l[k].name l[k].safe l[k].opens _ _ (HOP.out.below HB.out) hol hs HBS.out).mono ?_
  rintro e w6 ⟨rfl, hb6⟩
  have N6 := Lib.hid (below_then HB.out hb6)
  have D6 := HD5.out.keep hb6
  have R6 := HR5.out.keep hb6
  have O6 : w6.heap[w.heap.size + 1]? = some (opObj ⟨3, nm, ps, bs⟩) := (hb6.block _ l2).trans HO5.out
  have d6 := D6.c
  have dl6 := D6.lt
  have o6 : w6.cell? ⟨w.heap.size + 1, 0, none⟩ = some (.int .i64 3) := by rw [cell_of_row _ _ _ _ 53 _ O6]; rfl
  have ol6 := (Array.getElem?_eq_some_iff.1 O6).1
  have p6 : w6.cell? ⟨w.heap.size + 1, 2, none⟩ = some (.int .i64 ps) := by rw [cell_of_row _ _ _ _ 53 _ O6]; rfl
  have r6 := R6.c
  have z6 := R6.f
  have rl6 := R6.lt
  clear hb6 D6 R6 O6 HF e0 e1 e2 d5 o5
  by_cases hneg : ps < 0
  · go_wp2_with fail
    refine bodyPost_ret (v := .tuple #[.agg #[.slice (some ⟨g, 0, none⟩) l.length cap], .int .i64 1]) (by simp [results, Try.results24, go_sem, r6]) rfl (one_same HOWN.out ?_)
    exact N6.out.setCell (by simp; omega) _
  · have hgt : ((layB l[k].safe l[k].opens).size : Int) < ps := hps.resolve_left hneg
    go_wp2_with fail
    refine bodyPost_ret (v := .tuple #[.agg #[.slice (some ⟨g, 0, none⟩) l.length cap], .int .i64 1]) (by simp [results, Try.results24, go_sem, r6]) rfl (one_same HOWN.out ?_)
    exact N6.out.setCell (by simp; omega) _
end Go.Proofs.Ytfpdfhncifcghaa
