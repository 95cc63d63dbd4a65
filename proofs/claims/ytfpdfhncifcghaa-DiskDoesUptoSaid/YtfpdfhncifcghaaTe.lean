/- The reference's one: a drop. -/
import Derived.Test.YtfpdfhncifcghaaTd
namespace Go.Proofs.Ytfpdfhncifcghaa
open Go.RowKit Go.Deep Go.Joins

/-- An empty row of files that is the call's own. -/
def EmpF (W : World) (B g : Nat) : Prop := W.ownsRow B 35 3 (.slice (some ⟨g, 0, none⟩) 0 0) 0 []
theorem empF_new {w : World} : EmpF (w.alloc (.cells #[] 35)) w.heap.size w.heap.size := owns_empty (heap_alloc_new _ _) (Nat.le_refl _)
theorem empF_drew {w : World} {B g : Nat} (h : EmpF w B g) : EmpF w.drew B g := owns_below h (nb_drew (nb_refl _))
theorem map_erase {α β : Type} (f : α → β) (l : List α) (k : Nat) : (l.eraseIdx k).map f = (l.map f).eraseIdx k := by
  rw [List.eraseIdx_eq_take_drop_succ, List.eraseIdx_eq_take_drop_succ, List.map_append, List.map_take, List.map_drop]
theorem empF_old {w : World} {B g : Nat} (h : EmpF w B g) (o : Obj) : EmpF (w.alloc o) B g := owns_below h (below1 w o)
theorem rowCells_split (l : List Rw) (k : Nat) : rowCells (l.take k) ++ rowCells (l.drop (k + 1)) = rowCells (l.eraseIdx k) := by
  unfold rowCells
  rw [← List.flatMap_append, List.eraseIdx_eq_take_drop_succ]
theorem rows_one_part {l m : List Rw} (h : ∀ u ∈ rowCells l, u.oneCell' = true) (hs : ∀ r ∈ m, r ∈ l) : ∀ u ∈ rowCells m, u.oneCell' = true := fun u hu => h u (by
  obtain ⟨r, hr, hu⟩ := List.mem_flatMap.1 hu
  exact List.mem_flatMap.2 ⟨r, hs r hr, hu⟩)
theorem rows_one {w : World} {B : Nat} {v : Value} {l : List Rw} (h : OwnR w B v l) : ∀ u ∈ rowCells l, u.oneCell' = true := by
  intro u hu
  obtain ⟨r, hr, hu⟩ := List.mem_flatMap.1 hu
  simp only [List.mem_cons, List.not_mem_nil, or_false] at hu
  rcases hu with rfl | rfl | rfl
  · rfl
  · rfl
  · obtain ⟨q, c, e⟩ := owns_shape (h.2 r hr)
    rw [e]; rfl

/-- The world behind the stores, as a letter. -/
theorem one_end2 {K : Act → World → Prop} {Q : Exit → Act → World → Prop} {n : Nat} {a : Act} {w W : World} {row : Option Nat} {B Z R : Nat} {v : Value} {l : List Rw} (h1 : OwnR W B v l) (h2 : w.grownBy W row) (h3 : VarAt W Z v) (h4 : VarAt W R (.slice none 0 0))
    (h : ∀ W, OwnR W B v l → w.grownBy W row → VarAt W Z v → VarAt W R (.slice none 0 0) → Exit.inBlock n (Exit.then K Q) .normal a W) : Exit.inBlock n (Exit.then K Q) .normal a W := h W h1 h2 h3 h4

set_option maxRecDepth 100000 in
set_option maxHeartbeats 1000000 in
theorem one_drop (l : List Rw) (v : Value) (B k : Nat) (nm : ByteArray) (ps : Int) (bs : ByteArray) (w : World) (hown : OwnR w B v l) (hnm : nameB nm = true) (hn : nm.size ≤ 1099511627776) (hm : l.length ≤ 1099511627776) (hk : k < l.length)
    (hi : idx (sameName nm) l = (k : Int)) (hs : l[k].safe.size ≤ 1099511627776) (hol : l[k].opens.length ≤ 1099511627776) (hbs : ∀ x ∈ l[k].opens, x.bytes.size ≤ 1099510579200) :
    Calls Try.prog 24 #[.agg #[v], .agg #[.int .i64 4, .string nm, .int .i64 ps, .string bs]] w (One w B v ((l.map core).eraseIdx k) 0) := by
  have HOWN := Lib.hid hown
  have HONE := Lib.hid (rows_one hown)
  have hop := reads_of_owns (hown.2 l[k] (List.getElem_mem _))
  obtain ⟨q, cap, rfl⟩ := owns_shape hown.1
  obtain ⟨g, hq, hg1, hg2, c0, c1, c2, fzz⟩ := owns_file hown.1 k hk (by omega)
  subst hq
  obtain ⟨p3, cap3, hov⟩ := hop.is
  rw [hov] at c2 hop
  have HOP := Lib.hid hop
  have HBS := Lib.hid hbs
  have hlc : l.length ≤ cap ∧ cap ≤ maxLen := by
    rcases hown.1.2 with ⟨h1, _⟩ | ⟨g', cap', cur, h1, _, _, h3, h4, _⟩
    · cases h1
    · simp only [Value.slice.injEq, true_and] at h1
      obtain ⟨_, rfl⟩ := h1
      exact ⟨h3, h4⟩
  have hcm : cap ≤ 9223372036854775807 := by have := hlc.2; unfold maxLen at this; omega
  have hlc := hlc.1
  obtain ⟨i0, hi0, hz0, hz1, hz2⟩ := info_parts (show (Try.prog.info? 35).map (fun i => (i.zero, i.size, i.bytes)) = some (some (.agg #[.string .empty, .string .empty, .slice none 0 0]), 3, 56) by kernel_rfl)
  clear hown hop hov hbs
  have hb0 : Below w.heap.size w (((w.alloc (.cells #[.slice (some ⟨g, 0, none⟩) l.length cap] 24)).alloc (opObj ⟨4, nm, ps, bs⟩)).alloc (.cells #[.slice none 0 0] 24)) := (below2 w _ _).alloc (by simp; omega) _
  have HB0 := Lib.hid hb0
  have hfind := find2_any l (.slice (some ⟨g, 0, none⟩) l.length cap) nm _ ((reads_of_owns HOWN.out.1).below hb0) hm
  rw [hi] at hfind
  have HF := Lib.hid hfind
  clear hb0 hfind hi
  go_enter Try.func24, Try.ntmps24
  go_wp2_with (go_at_call 11; refine (name2_any nm _ hn).mono ?_; rintro e w1 ⟨rfl, rfl⟩; rw [hnm])
  refine HF.out.mono ?_
  rintro e w5 ⟨rfl, hb5⟩
  obtain ⟨D5, O5, R5⟩ := start_keep (o := ⟨4, nm, ps, bs⟩) hb5
  have d5 := D5.c
  have o5 : w5.cell? ⟨w.heap.size + 1, 0, none⟩ = some (.int .i64 4) := by rw [cell_of_row _ _ _ _ 53 _ O5]; rfl
  have hb := below_then HB0.out hb5
  have HB := Lib.hid hb
  have HD5 := Lib.hid D5
  have HR5 := Lib.hid R5
  have HO5 := Lib.hid O5
  have l1 := D5.lt
  have l2 := (Array.getElem?_eq_some_iff.1 O5).1
  have e0 := below_cell hb c0
  have e1 := below_cell hb c1
  have e2 := below_cell hb c2
  have lg := lt_of_cell e0
  clear hb hb5 D5 R5 O5
  go_wp2_with fail
  refine (whole_any l[k].name l[k].safe l[k].opens _ _ (HOP.out.below HB.out) hol hs HBS.out).mono ?_
  rintro e w6 ⟨rfl, hb6⟩
  have N6 := Lib.hid (below_then HB.out hb6)
  have D6 := HD5.out.keep hb6
  have R6 := HR5.out.keep hb6
  have O6 : w6.heap[w.heap.size + 1]? = some (opObj ⟨4, nm, ps, bs⟩) := (hb6.block _ l2).trans HO5.out
  have d6 := D6.c
  have dl6 := D6.lt
  have o6 : w6.cell? ⟨w.heap.size + 1, 0, none⟩ = some (.int .i64 4) := by rw [cell_of_row _ _ _ _ 53 _ O6]; rfl
  have ol6 := (Array.getElem?_eq_some_iff.1 O6).1
  have HD6 := Lib.hid D6
  have HR6 := Lib.hid R6
  have hrl := R6.lt
  obtain ⟨hr1, _⟩ := reads_part (HOWN.out.below N6.out).1 rfl k (by omega)
  obtain ⟨_, hr2⟩ := reads_part (HOWN.out.below N6.out).1 rfl (k + 1) (by omega)
  have HR1 : Hid (∀ W, Below w6.heap.size w6 W → _) := Lib.hid fun W hW => hr1.below hW
  have HR2 : Hid (∀ W, Below w6.heap.size w6 W → _) := Lib.hid fun W hW => hr2.below hW
  have HONEA := Lib.hid (rows_one_part HONE.out fun r hr => List.mem_of_mem_take (i := k) hr)
  have HONEB := Lib.hid (rows_one_part HONE.out fun r hr => List.mem_of_mem_drop (i := k + 1) hr)
  clear hb6 D6 R6 O6 HF e0 e1 e2 d5 o5 hr1 hr2 c0 c1 c2 fzz
  go_wp2_with fail
  have hw1 : IntKind.i64.wrap ((k : Int) + 1) = (k : Int) + 1 := IntWalk.i64_in _ (by omega)
  have i1 : (0 : Int) ≤ (k : Int) := by omega
  have i2 : (k : Int) ≤ (cap : Int) := by omega
  have i3 : (0 : Int) ≤ (k : Int) + 1 := by omega
  have i4 : (k : Int) + 1 ≤ (l.length : Int) := by omega
  have i5 : (l.length : Int) ≤ (cap : Int) := by omega
  by_cases hkc : k + 1 = cap
  · obtain rfl : cap = k + 1 := hkc.symm
    have i6 : (k : Int) ≤ (k : Int) + 1 := by omega
    go_region_law
      (first
        | (refine step_append_first rfl _ _ 22 rfl w6.heap.size 35 i0 (.agg #[.string .empty, .string .empty, .slice none 0 0]) 3 56 Try.underlying22 hi0 hz0 hz1 hz2 rfl (by decide) _ rfl ?own _ k (rowCells (l.take k)) rfl ?rd HONEA.out ?m1 ?m2 ?m3 ?_; (case own => (show EmpF _ _ _; (repeat (first | with_reducible exact empF_new | with_reducible refine empF_drew ?_ | with_reducible refine empF_old ?_ _)))); (case rd => exact HR1.out _ (by (repeat (first | with_reducible exact N8 | with_reducible exact N7 | with_reducible exact nb_refl _ | with_reducible refine nb_drew ?_ | with_reducible refine nb_alloc ?_ _)))); (case m1 => unfold maxLen; omega); (case m2 => omega); (case m3 => exact Below.size (by (repeat (first | with_reducible exact N8 | with_reducible exact N7 | with_reducible exact nb_refl _ | with_reducible refine nb_drew ?_ | with_reducible refine nb_alloc ?_ _)))); intro p4 c4 w7 hO7 hg7; have N7 : Below w6.heap.size w6 w7 := below_grown (by (repeat (first | with_reducible exact N8 | with_reducible exact N7 | with_reducible exact nb_refl _ | with_reducible refine nb_drew ?_ | with_reducible refine nb_alloc ?_ _))) (show EmpF _ _ _ by (repeat (first | with_reducible exact empF_new | with_reducible refine empF_drew ?_ | with_reducible refine empF_old ?_ _))) hg7; have d7 := below_cell N7 d6)
        | (refine step_append_reads rfl _ _ 22 rfl w6.heap.size 35 i0 (.agg #[.string .empty, .string .empty, .slice none 0 0]) 3 56 Try.underlying22 hi0 hz0 hz1 hz2 rfl (by decide) _ k (rowCells (l.take k)) rfl ?own _ (l.length - (k + 1)) (rowCells (l.drop (k + 1))) rfl ?rd HONEB.out ?m1 ?m2 ?m3 ?_; (case own => exact hO7.out); (case rd => (have hz : l.length - (k + 1) = 0 := by omega); (have hdz : rowCells (l.drop (k + 1)) = [] := List.eq_nil_of_length_eq_zero (by rw [rowCells_length, List.length_drop, hz])); rw [hdz]; (try rw [hz]); exact ⟨rfl, .inr ⟨_, _, rfl, Nat.zero_le _, by unfold maxLen; omega, fun j u hu => by simp at hu⟩⟩); (case m1 => unfold maxLen; omega); (case m2 => omega); (case m3 => exact Below.size (by (repeat (first | with_reducible exact N8 | with_reducible exact N7 | with_reducible exact nb_refl _ | with_reducible refine nb_drew ?_ | with_reducible refine nb_alloc ?_ _)))); intro p5 c5 w8 hO8 hg8; have N8 : Below w6.heap.size w6 w8 := below_grown (by (repeat (first | with_reducible exact N8 | with_reducible exact N7 | with_reducible exact nb_refl _ | with_reducible refine nb_drew ?_ | with_reducible refine nb_alloc ?_ _))) hO7.out hg8; have d8 := below_cell N8 d6; have D8 := HD6.out.keep N8; have z8 := D8.f; have l8 := D8.lt)
        | fail)
    all_goals
      clear hg7 hg8
      have hfin : w8.ownsRow w6.heap.size 35 3 (.slice p5 k c5) (l.eraseIdx k).length (rowCells (l.eraseIdx k)) := by
        have h0 := hO8.out
        rw [rowCells_split, show k + (l.length - (k + 1)) = k by omega] at h0
        rw [List.length_eraseIdx, if_pos hk, show l.length - 1 = k by omega]
        exact h0
      have hB : B ≤ w6.heap.size := by have := N6.out.size; omega
      have hbz := below_then N6.out N8
      have h1 : OwnR (w8.setCell ⟨w.heap.size, 0, none⟩ (.slice p5 k c5)) B (.slice p5 k c5) (l.eraseIdx k) :=
        OwnR.set ⟨owns_mono hfin hB, fun r hr => owns_below (HOWN.out.2 r (List.mem_of_mem_eraseIdx hr)) hbz⟩ D8 _
      have h2 : w.grownBy (w8.setCell ⟨w.heap.size, 0, none⟩ (.slice p5 k c5)) (some g) := below_grownBy (hbz.setCell (Nat.le_refl _) _)
      have h3 := D8.same (.slice p5 k c5)
      have h4 := (HR6.out.keep N8).other (show w.heap.size ≠ w.heap.size + 1 + 1 by omega) (.slice p5 k c5)
      refine one_end2 (row := some g) h1 h2 h3 h4 ?_
      clear h1 h2 h3 h4 hfin hbz hO8 hO7 N8 N7 D8 d8 d7 z8 l8 d6 o6 HR1 HR2 HD6 HR6 N6
      intro W7 hput hgr hd7 hr7
      have d7 := hd7.c
      have r7 := hr7.c
      have z7 := hr7.f
      have l7 := hd7.lt
      have l8 := hr7.lt
      have HP := Lib.hid hput
      have HG := Lib.hid hgr
      have HR := Lib.hid hr7
      clear hput hgr hd7 hr7
      go_wp2_with fail
      have hgf : w.grownBy (W7.setCell ⟨w.heap.size + 1 + 1, 0, none⟩ (.slice p5 k c5)) (some g) := grown_set HG.out (.inr (by omega)) 0 _
      refine bodyPost_ret (v := .tuple #[.agg #[.slice p5 k c5], .int .i64 0]) (by simp [results, Try.results24, go_sem, r7]) rfl
        ⟨_, _, rfl, ?_, HP.out.set HR.out _, fun h => absurd rfl h, hgf⟩
      exact map_erase _ _ _
  · have hkd : ¬ cap = k + 1 := by omega
    go_region_law
      (first
        | (refine step_append_first rfl _ _ 22 rfl w6.heap.size 35 i0 (.agg #[.string .empty, .string .empty, .slice none 0 0]) 3 56 Try.underlying22 hi0 hz0 hz1 hz2 rfl (by decide) _ rfl ?own _ k (rowCells (l.take k)) rfl ?rd HONEA.out ?m1 ?m2 ?m3 ?_; (case own => (show EmpF _ _ _; (repeat (first | with_reducible exact empF_new | with_reducible refine empF_drew ?_ | with_reducible refine empF_old ?_ _)))); (case rd => exact HR1.out _ (by (repeat (first | with_reducible exact N8 | with_reducible exact N7 | with_reducible exact nb_refl _ | with_reducible refine nb_drew ?_ | with_reducible refine nb_alloc ?_ _)))); (case m1 => unfold maxLen; omega); (case m2 => omega); (case m3 => exact Below.size (by (repeat (first | with_reducible exact N8 | with_reducible exact N7 | with_reducible exact nb_refl _ | with_reducible refine nb_drew ?_ | with_reducible refine nb_alloc ?_ _)))); intro p4 c4 w7 hO7 hg7; have N7 : Below w6.heap.size w6 w7 := below_grown (by (repeat (first | with_reducible exact N8 | with_reducible exact N7 | with_reducible exact nb_refl _ | with_reducible refine nb_drew ?_ | with_reducible refine nb_alloc ?_ _))) (show EmpF _ _ _ by (repeat (first | with_reducible exact empF_new | with_reducible refine empF_drew ?_ | with_reducible refine empF_old ?_ _))) hg7; have d7 := below_cell N7 d6)
        | (refine step_append_reads rfl _ _ 22 rfl w6.heap.size 35 i0 (.agg #[.string .empty, .string .empty, .slice none 0 0]) 3 56 Try.underlying22 hi0 hz0 hz1 hz2 rfl (by decide) _ k (rowCells (l.take k)) rfl ?own _ (l.length - (k + 1)) (rowCells (l.drop (k + 1))) rfl ?rd HONEB.out ?m1 ?m2 ?m3 ?_; (case own => exact hO7.out); (case rd => first | exact HR2.out _ (by (repeat (first | with_reducible exact N8 | with_reducible exact N7 | with_reducible exact nb_refl _ | with_reducible refine nb_drew ?_ | with_reducible refine nb_alloc ?_ _))) | (dsimp [Act.eval]; trace_state; fail)); (case m1 => unfold maxLen; omega); (case m2 => omega); (case m3 => exact Below.size (by (repeat (first | with_reducible exact N8 | with_reducible exact N7 | with_reducible exact nb_refl _ | with_reducible refine nb_drew ?_ | with_reducible refine nb_alloc ?_ _)))); intro p5 c5 w8 hO8 hg8; have N8 : Below w6.heap.size w6 w8 := below_grown (by (repeat (first | with_reducible exact N8 | with_reducible exact N7 | with_reducible exact nb_refl _ | with_reducible refine nb_drew ?_ | with_reducible refine nb_alloc ?_ _))) hO7.out hg8; have d8 := below_cell N8 d6; have D8 := HD6.out.keep N8; have z8 := D8.f; have l8 := D8.lt)
        | fail)
    all_goals
      clear hg7 hg8
      have hfin : w8.ownsRow w6.heap.size 35 3 (.slice p5 (k + (l.length - (k + 1))) c5) (l.eraseIdx k).length (rowCells (l.eraseIdx k)) := by
        have h0 := hO8.out
        rw [rowCells_split, show k + (l.length - (k + 1)) = (k + (l.length - (k + 1))) by omega] at h0
        rw [List.length_eraseIdx, if_pos hk, show l.length - 1 = (k + (l.length - (k + 1))) by omega]
        exact h0
      have hB : B ≤ w6.heap.size := by have := N6.out.size; omega
      have hbz := below_then N6.out N8
      have h1 : OwnR (w8.setCell ⟨w.heap.size, 0, none⟩ (.slice p5 (k + (l.length - (k + 1))) c5)) B (.slice p5 (k + (l.length - (k + 1))) c5) (l.eraseIdx k) :=
        OwnR.set ⟨owns_mono hfin hB, fun r hr => owns_below (HOWN.out.2 r (List.mem_of_mem_eraseIdx hr)) hbz⟩ D8 _
      have h2 : w.grownBy (w8.setCell ⟨w.heap.size, 0, none⟩ (.slice p5 (k + (l.length - (k + 1))) c5)) (some g) := below_grownBy (hbz.setCell (Nat.le_refl _) _)
      have h3 := D8.same (.slice p5 (k + (l.length - (k + 1))) c5)
      have h4 := (HR6.out.keep N8).other (show w.heap.size ≠ w.heap.size + 1 + 1 by omega) (.slice p5 (k + (l.length - (k + 1))) c5)
      refine one_end2 (row := some g) h1 h2 h3 h4 ?_
      clear h1 h2 h3 h4 hfin hbz hO8 hO7 N8 N7 D8 d8 d7 z8 l8 d6 o6 HR1 HR2 HD6 HR6 N6
      intro W7 hput hgr hd7 hr7
      have d7 := hd7.c
      have r7 := hr7.c
      have z7 := hr7.f
      have l7 := hd7.lt
      have l8 := hr7.lt
      have HP := Lib.hid hput
      have HG := Lib.hid hgr
      have HR := Lib.hid hr7
      clear hput hgr hd7 hr7
      go_wp2_with fail
      have hgf : w.grownBy (W7.setCell ⟨w.heap.size + 1 + 1, 0, none⟩ (.slice p5 (k + (l.length - (k + 1))) c5)) (some g) := grown_set HG.out (.inr (by omega)) 0 _
      refine bodyPost_ret (v := .tuple #[.agg #[.slice p5 (k + (l.length - (k + 1))) c5], .int .i64 0]) (by simp [results, Try.results24, go_sem, r7]) rfl
        ⟨_, _, rfl, ?_, HP.out.set HR.out _, fun h => absurd rfl h, hgf⟩
      exact map_erase _ _ _
end Go.Proofs.Ytfpdfhncifcghaa
