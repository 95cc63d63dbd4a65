/- The disk of the reference, and what of the disk the log calls (my own, from the seat of the disk): Tk. -/
import Derived.Test.YtkecjopojnllnaaM10
namespace Go.Proofs.Ytkecjopojnllnaa
open Go.RowKit Go.Deep Go.Joins
theorem put_new_core {l nl : List Rw} {nm : ByteArray} {k : Nat} {x : Wr} {V : Value} (hnl : nl = l.take k ++ ⟨nm, .empty, .slice none 0 0, []⟩ :: l.drop k) (hpl : placeOf nm l = (k : Int)) (hk : k < nl.length) :
    (nl.set k ⟨nl[k].name, nl[k].safe, V, nl[k].opens ++ [x]⟩).map core = (insertAt (l.map core) (placeF nm (l.map core)) (newFile nm)).modify (placeF nm (l.map core)) (fun f => ⟨f.name, f.safe, f.opens ++ [x]⟩) := by
  have hp : placeF nm (l.map core) = k := by rw [← place_core, hpl]; omega
  have he : insertAt (l.map core) k (newFile nm) = nl.map core := by
    rw [hnl]
    unfold insertAt newFile
    rw [List.map_append, List.map_cons, List.map_take, List.map_drop]
    rfl
  rw [hp, he]
  apply List.ext_getElem?
  intro j
  rw [List.getElem?_map, List.getElem?_set, List.getElem?_modify, List.getElem?_map]
  by_cases e : k = j
  · subst e
    simp [hk, core]
  · simp [e]
theorem new_opens {l nl : List Rw} {nm : ByteArray} {k : Nat} (hnl : nl = l.take k ++ ⟨nm, .empty, .slice none 0 0, []⟩ :: l.drop k) (hkl : k ≤ l.length) : ∃ hk : k < nl.length, nl[k].opens = [] := by
  subst hnl
  have hlt : (l.take k).length = k := by rw [List.length_take]; omega
  refine ⟨by rw [List.length_append, hlt, List.length_cons]; omega, ?_⟩
  rw [List.getElem_append_right (by omega)]
  simp [hlt]
theorem new_own {w : World} {B C : Nat} {v v' : Value} {l nl : List Rw} {nm : ByteArray} {k : Nat} (h : OwnR w B v l) (hnl : nl = l.take k ++ ⟨nm, .empty, .slice none 0 0, []⟩ :: l.drop k) (ho : w.ownsRow C 58 3 v' nl.length (rowCells nl)) (hB : B ≤ C) : OwnR w B v' nl :=
  ⟨owns_mono ho hB, fun r hr => by
    rw [hnl] at hr
    rcases List.mem_append.1 hr with hr | hr
    · exact h.2 r (List.mem_of_mem_take hr)
    · rcases List.mem_cons.1 hr with rfl | hr
      · exact World.ownsRow_nil _ _ _ _
      · exact h.2 r (List.mem_of_mem_drop hr)⟩
set_option maxRecDepth 100000 in
set_option maxHeartbeats 1000000 in
theorem one_putnew (l : List Rw) (v : Value) (B : Nat) (nm : ByteArray) (ps : Int) (bs : ByteArray) (w : World) (hown : OwnR w B v l) (hnm : nameB nm = true) (hn : nm.size ≤ 1099511627776) (hm : l.length ≤ 1099511627776) (hBw : B ≤ w.heap.size) (hi : idx (sameName nm) l = -1) (h0 : 0 ≤ ps) (h1 : ps ≤ 1048576) (h2 : (bs.size : Int) ≤ 1048576 - ps) (hlen : l.length < 32) :
    Calls Try.prog 47 #[.agg #[v], .agg #[.int .i64 1, .string nm, .int .i64 ps, .string bs]] w (One w B v ((insertAt (l.map core) (placeF nm (l.map core)) (newFile nm)).modify (placeF nm (l.map core)) (fun f => ⟨f.name, f.safe, f.opens ++ [⟨ps, bs⟩]⟩)) 0) := by
  obtain ⟨i1, hj, hy0, hy1, hy2⟩ := info_parts (show (Try.prog.info? 76).map (fun i => (i.zero, i.size, i.bytes)) = some (some (.agg #[.int .i64 0, .string .empty]), 2, 24) by kernel_rfl)
  have hlen2 : (l.length : Int) < 32 := by omega
  have HOWN := Lib.hid hown
  obtain ⟨q, cap, rfl⟩ := owns_shape hown.1
  clear hown
  have hb0 : Below w.heap.size w (((w.alloc (.cells #[.slice q l.length cap] 24)).alloc (opObj ⟨1, nm, ps, bs⟩)).alloc (.cells #[.slice none 0 0] 24)) := (below2 w _ _).alloc (by simp; omega) _
  have HB0 := Lib.hid hb0
  have hfind := find2_any l (.slice q l.length cap) nm _ ((reads_of_owns HOWN.out.1).below hb0) hm
  have HF := Lib.hid hfind
  have HI := Lib.hid hi
  clear hb0 hfind hi
  go_enter Try.func47, Try.ntmps47
  go_wp2_with (go_at_call 66; refine (name2_any nm _ hn).mono ?_; rintro e w1 ⟨rfl, rfl⟩; rw [hnm])
  refine HF.out.mono ?_
  rw [HI.out]
  rintro e w5 ⟨rfl, hb5⟩
  obtain ⟨D5, O5, R5⟩ := start_keep (o := ⟨1, nm, ps, bs⟩) hb5
  have d5 := D5.c
  have l1 := D5.lt
  have r5 := R5.c
  have z5 := R5.f
  have l3 := R5.lt
  have o5 : w5.cell? ⟨w.heap.size + 1, 0, none⟩ = some (.int .i64 1) := by rw [cell_of_row _ _ _ _ 55 _ O5]; rfl
  have p5 : w5.cell? ⟨w.heap.size + 1, 2, none⟩ = some (.int .i64 ps) := by rw [cell_of_row _ _ _ _ 55 _ O5]; rfl
  have b5 : w5.cell? ⟨w.heap.size + 1, 3, none⟩ = some (.string bs) := by rw [cell_of_row _ _ _ _ 55 _ O5]; rfl
  have l2 := (Array.getElem?_eq_some_iff.1 O5).1
  have HB := Lib.hid (below_then HB0.out hb5)
  have HD5 := Lib.hid D5
  have HR5 := Lib.hid R5
  have HO5 := Lib.hid O5
  clear hb5 D5 R5 O5
  have n5 : w5.cell? ⟨w.heap.size + 1, 1, none⟩ = some (.string nm) := by rw [cell_of_row _ _ _ _ 55 _ HO5.out]; rfl
  have hadd : Calls Try.prog 67 #[.agg #[.slice q l.length cap], .string nm] w5 fun e w' => ∃ (k : Nat) (nl : List Rw) (q6 : Option Addr) (cap6 : Nat), e = .returned (.tuple #[.agg #[.slice q6 (List.length nl) cap6], .int .i64 (k : Int)]) ∧ Hid (nl = l.take k ++ ⟨nm, .empty, .slice none 0 0, []⟩ :: l.drop k) ∧ Hid (k ≤ l.length) ∧ Hid (placeOf nm l = (k : Int)) ∧
      Hid (w'.ownsRow w5.heap.size 58 3 (.slice q6 nl.length cap6) nl.length (rowCells nl)) ∧ Below w5.heap.size w5 w' := by
    refine (add_any l _ nm B w5 (HOWN.out.below HB.out).1 (rows_one HOWN.out) HI.out hm).mono ?_
    rintro e w' ⟨k, v6, rfl, a1, a2, a3, a4⟩
    obtain ⟨q6, cap6, rfl⟩ := owns_shape a3
    have hnl : (l.take k ++ (⟨nm, .empty, .slice none 0 0, []⟩ : Rw) :: l.drop k).length = l.length + 1 := by
      rw [List.length_append, List.length_cons, List.length_take, List.length_drop]; omega
    refine ⟨k, l.take k ++ ⟨nm, .empty, .slice none 0 0, []⟩ :: l.drop k, q6, cap6, ?_, rfl, a1, a2, ?_, a4⟩
    · rw [hnl]
    · rw [hnl]; exact a3
  have HADD := Lib.hid hadd
  clear hadd HF
  go_wp2_with (go_at_call 67; refine HADD.out.mono ?_; rintro e w6 ⟨k, nl, q6, cap6, rfl, hnl, hkl, hpl, ho6, hb6⟩; have D6 := HD5.out.keep hb6; have d6 := D6.c; have z6 := D6.f; have dl6 := D6.lt; have HD6 := Lib.hid D6; clear D6)
  obtain ⟨hk, hop0⟩ := new_opens hnl.out hkl.out
  have hol : nl[k].opens.length + 1 ≤ 1099511627776 := by rw [hop0]; decide
  have hnlen : nl.length ≤ 1099511627776 := by
    have : nl.length = l.length + 1 := by rw [hnl.out, List.length_append, List.length_cons, List.length_take, List.length_drop]; have := hkl.out; omega
    omega
  have hown7 := (new_own (HOWN.out.below (below_then HB.out hb6)) hnl.out ho6.out (show B ≤ w5.heap.size by have := HB.out.size; omega)).set HD6.out (.slice q6 nl.length cap6)
  have hD7 := HD6.out.same (.slice q6 nl.length cap6)
  have hR7 := (HR5.out.keep hb6).other (show w.heap.size ≠ w.heap.size + 1 + 1 by omega) (.slice q6 nl.length cap6)
  have hO7 : (w6.setCell ⟨w.heap.size, 0, none⟩ (.slice q6 nl.length cap6)).heap[w.heap.size + 1]? = some (opObj ⟨1, nm, ps, bs⟩) := (heap_setCell_other w6 ⟨w.heap.size, 0, none⟩ (w.heap.size + 1) _ (by simp)).trans ((hb6.block _ l2).trans HO5.out)
  have hb7 : Below w.heap.size w (w6.setCell ⟨w.heap.size, 0, none⟩ (.slice q6 nl.length cap6)) := (below_then HB.out hb6).setCell (Nat.le_refl _) _
  have hgl : ∀ g, (q6 = some ⟨g, 0, none⟩) → w5.heap.size ≤ g := fun g hg => (ho6.out.lt g (by rw [hg]; rfl)).1
  clear d6 z6 dl6 HD6 ho6 hb6 HADD d5 r5 z5 o5 p5 b5 n5
  revert hown7 hD7 hR7 hO7 hb7
  generalize w6.setCell ⟨w.heap.size, 0, none⟩ (.slice q6 nl.length cap6) = w7
  intro hown7 hD7 hR7 hO7 hb7
  have HRW := Lib.hid (reads_of_owns (hown7.2 nl[k] (List.getElem_mem _)))
  obtain ⟨g, hq, hg1, hg2, c0, c1, c2, y5⟩ := owns_file hown7.1 k hk (by omega)
  have hg5 := hgl g hq
  subst hq
  obtain ⟨p3, cap3, hov⟩ := HRW.out.is
  rw [hov] at c2
  have HOP : Hid (Reads w7 (.slice p3 nl[k].opens.length cap3) 2 nl[k].opens.length (wrCells nl[k].opens)) := hov ▸ HRW.out
  have e2 := c2
  have d5 := hD7.c
  have lq := hD7.lt
  have lr := hR7.lt
  have lo7 := (Array.getElem?_eq_some_iff.1 hO7).1
  have p5 : w7.cell? ⟨w.heap.size + 1, 2, none⟩ = some (.int .i64 ps) := by rw [cell_of_row _ _ _ _ 55 _ hO7]; rfl
  have b5 : w7.cell? ⟨w.heap.size + 1, 3, none⟩ = some (.string bs) := by rw [cell_of_row _ _ _ _ 55 _ hO7]; rfl
  have lg := lt_of_cell e2
  have HOWN7 := Lib.hid hown7
  have HD7 := Lib.hid hD7
  have HR7 := Lib.hid hR7
  have HB7 := Lib.hid hb7
  have HFZ := Lib.hid y5
  have HNL := hnl
  have HPL := hpl
  have HHOV := Lib.hid hov
  have HG0 := Lib.hid hop0
  clear c0 c1 c2 y5 hown7 hD7 hR7 hO7 hb7 hgl HRW hnl hpl hov hop0
  have HSS : Hid (∀ W, Below w7.heap.size w7 W → (fun W => W.cell? ⟨w.heap.size, 0, none⟩ = some (.slice (some ⟨g, 0, none⟩) nl.length cap6) ∧ W.cell? ⟨w.heap.size + 1, 2, none⟩ = some (.int .i64 ps) ∧ W.cell? ⟨w.heap.size + 1, 3, none⟩ = some (.string bs)) W) :=
    Lib.hid fun W h => ⟨below_cell h d5, below_cell h p5, below_cell h b5⟩
  have HOP5 : Hid (∀ W, Below w7.heap.size w7 W → Reads W (.slice p3 nl[k].opens.length cap3) 2 nl[k].opens.length (wrCells nl[k].opens)) := Lib.hid fun W h => HOP.out.below h
  have hs0 := HSS.out _ (nb_refl _)
  have hs1 := HSS.out _ (nb_drew (nb_refl _))
  have hgw : g ≠ w.heap.size := by omega
  have hgo : g ≠ w.heap.size + 1 := by omega
  have hS1 : ∀ (w' : World) (j : Nat) (x : Value), (fun W => W.cell? ⟨w.heap.size, 0, none⟩ = some (.slice (some ⟨g, 0, none⟩) nl.length cap6) ∧ W.cell? ⟨w.heap.size + 1, 2, none⟩ = some (.int .i64 ps) ∧ W.cell? ⟨w.heap.size + 1, 3, none⟩ = some (.string bs)) w' → (fun W => W.cell? ⟨w.heap.size, 0, none⟩ = some (.slice (some ⟨g, 0, none⟩) nl.length cap6) ∧ W.cell? ⟨w.heap.size + 1, 2, none⟩ = some (.int .i64 ps) ∧ W.cell? ⟨w.heap.size + 1, 3, none⟩ = some (.string bs)) (w'.setCell ⟨g, j, none⟩ x) := fun w' j x h => by
    obtain ⟨h1, h2, h3⟩ := h
    exact ⟨(World.cell?_setCell_far _ _ _ _ hgw).trans h1, (World.cell?_setCell_far _ _ _ _ hgo).trans h2, (World.cell?_setCell_far _ _ _ _ hgo).trans h3⟩
  have HS1 := Lib.hid hS1
  clear hS1
  refine wp_region_noPanic ?_
  refine wp_region_held_drew (S := (fun W => W.cell? ⟨w.heap.size, 0, none⟩ = some (.slice (some ⟨g, 0, none⟩) nl.length cap6) ∧ W.cell? ⟨w.heap.size + 1, 2, none⟩ = some (.int .i64 ps) ∧ W.cell? ⟨w.heap.size + 1, 3, none⟩ = some (.string bs))) (by kernel_rfl) ?_ (fun hHeld => ?_)
  · exact HSS.out _ (nb_drew (nb_refl _))
  refine wpAnyH_take (i := 0) (oi := ⟨some 61, .fieldAddr 24 (.tmp 2) 0, _, _, _, none⟩) (v := ?_) rfl (by kernel_rfl) (by kernel_rfl) (by kernel_rfl) (fun _ _ _ h => h) (Or.inl ⟨by rfl, ?_⟩) (by assumption) ?_
  rotate_left
  · (intro w hSw; (try dsimp only at hSw); go_simp; try with_reducible rfl)
  try simp only [Act.put, List.setIfInBounds_toArray, List.set_cons_zero, List.set_cons_succ]
  refine wpAnyH_take (i := 1) (oi := ⟨some 62, .load 22 (.tmp 61), _, _, _, none⟩) (v := ?_) rfl (by kernel_rfl) (by kernel_rfl) (by kernel_rfl) (fun _ _ _ h => h) (Or.inl ⟨by rfl, ?_⟩) (by assumption) ?_
  rotate_left
  · (intro w hSw; (try dsimp only at hSw); go_simp; try with_reducible rfl)
  try simp only [Act.put, List.setIfInBounds_toArray, List.set_cons_zero, List.set_cons_succ]
  refine wpAnyH_take (i := 2) (oi := ⟨some 63, .move (.tmp 6), _, _, _, none⟩) (v := ?_) rfl (by kernel_rfl) (by kernel_rfl) (by kernel_rfl) (fun _ _ _ h => h) (Or.inl ⟨by rfl, ?_⟩) (by assumption) ?_
  rotate_left
  · (intro w hSw; (try dsimp only at hSw); go_simp; try with_reducible rfl)
  try simp only [Act.put, List.setIfInBounds_toArray, List.set_cons_zero, List.set_cons_succ]
  refine wpAnyH_take (i := 4) (oi := ⟨some 65, .fieldAddr 24 (.tmp 2) 0, _, _, _, none⟩) (v := ?_) rfl (by kernel_rfl) (by kernel_rfl) (by kernel_rfl) (fun _ _ _ h => h) (Or.inl ⟨by rfl, ?_⟩) (by assumption) ?_
  rotate_left
  · (intro w hSw; (try dsimp only at hSw); go_simp; try with_reducible rfl)
  try simp only [Act.put, List.setIfInBounds_toArray, List.set_cons_zero, List.set_cons_succ]
  refine wpAnyH_take (i := 5) (oi := ⟨some 66, .load 22 (.tmp 65), _, _, _, none⟩) (v := ?_) rfl (by kernel_rfl) (by kernel_rfl) (by kernel_rfl) (fun _ _ _ h => h) (Or.inl ⟨by rfl, ?_⟩) (by assumption) ?_
  rotate_left
  · (intro w hSw; (try dsimp only at hSw); go_simp; try with_reducible rfl)
  try simp only [Act.put, List.setIfInBounds_toArray, List.set_cons_zero, List.set_cons_succ]
  refine wpAnyH_take (i := 6) (oi := ⟨some 67, .move (.tmp 6), _, _, _, none⟩) (v := ?_) rfl (by kernel_rfl) (by kernel_rfl) (by kernel_rfl) (fun _ _ _ h => h) (Or.inl ⟨by rfl, ?_⟩) (by assumption) ?_
  rotate_left
  · (intro w hSw; (try dsimp only at hSw); go_simp; try with_reducible rfl)
  try simp only [Act.put, List.setIfInBounds_toArray, List.set_cons_zero, List.set_cons_succ]
  refine wpAnyH_take (i := 7) (oi := ⟨some 68, .indexAddr 22 (.tmp 66) (.tmp 67), _, _, _, none⟩) (v := ?_) rfl (by kernel_rfl) (by kernel_rfl) (by kernel_rfl) (fun _ _ _ h => h) (Or.inl ⟨by rfl, ?_⟩) (by assumption) ?_
  rotate_left
  · (intro w hSw; (try dsimp only at hSw); go_simp; try with_reducible rfl)
  try simp only [Act.put, List.setIfInBounds_toArray, List.set_cons_zero, List.set_cons_succ]
  refine wpAnyH_take (i := 8) (oi := ⟨some 69, .fieldAddr 58 (.tmp 68) 2, _, _, _, none⟩) (v := ?_) rfl (by kernel_rfl) (by kernel_rfl) (by kernel_rfl) (fun _ _ _ h => h) (Or.inl ⟨by rfl, ?_⟩) (by assumption) ?_
  rotate_left
  · (intro w hSw; (try dsimp only at hSw); go_simp; try with_reducible rfl)
  try simp only [Act.put, List.setIfInBounds_toArray, List.set_cons_zero, List.set_cons_succ]
  refine wpAnyH_take (i := 11) (oi := ⟨some 72, .fieldAddr 55 (.tmp 3) 2, _, _, _, none⟩) (v := ?_) rfl (by kernel_rfl) (by kernel_rfl) (by kernel_rfl) (fun _ _ _ h => h) (Or.inl ⟨by rfl, ?_⟩) (by assumption) ?_
  rotate_left
  · (intro w hSw; (try dsimp only at hSw); go_simp; try with_reducible rfl)
  try simp only [Act.put, List.setIfInBounds_toArray, List.set_cons_zero, List.set_cons_succ]
  refine wpAnyH_take (i := 12) (oi := ⟨some 73, .load 3 (.tmp 72), _, _, _, none⟩) (v := ?_) rfl (by kernel_rfl) (by kernel_rfl) (by kernel_rfl) (fun _ _ _ h => h) (Or.inl ⟨by rfl, ?_⟩) (by assumption) ?_
  rotate_left
  · (intro w hSw; (try dsimp only at hSw); go_simp; try with_reducible rfl)
  try simp only [Act.put, List.setIfInBounds_toArray, List.set_cons_zero, List.set_cons_succ]
  refine wpAnyH_take (i := 13) (oi := ⟨some 74, .fieldAddr 55 (.tmp 3) 3, _, _, _, none⟩) (v := ?_) rfl (by kernel_rfl) (by kernel_rfl) (by kernel_rfl) (fun _ _ _ h => h) (Or.inl ⟨by rfl, ?_⟩) (by assumption) ?_
  rotate_left
  · (intro w hSw; (try dsimp only at hSw); go_simp; try with_reducible rfl)
  try simp only [Act.put, List.setIfInBounds_toArray, List.set_cons_zero, List.set_cons_succ]
  refine wpAnyH_take (i := 14) (oi := ⟨some 75, .load 9 (.tmp 74), _, _, _, none⟩) (v := ?_) rfl (by kernel_rfl) (by kernel_rfl) (by kernel_rfl) (fun _ _ _ h => h) (Or.inl ⟨by rfl, ?_⟩) (by assumption) ?_
  rotate_left
  · (intro w hSw; (try dsimp only at hSw); go_simp; try with_reducible rfl)
  try simp only [Act.put, List.setIfInBounds_toArray, List.set_cons_zero, List.set_cons_succ]
  refine wpAnyH_take (i := 15) (oi := ⟨some 76, .build 76 #[(0, .tmp 73), (1, .tmp 75)], _, _, _, none⟩) (v := ?_) rfl (by kernel_rfl) (by kernel_rfl) (by kernel_rfl) (fun _ _ _ h => h) (Or.inl ⟨by rfl, ?_⟩) (by assumption) ?_
  rotate_left
  · (intro w hSw; (try dsimp only at hSw); go_simp; try with_reducible rfl)
  try simp only [Act.put, List.setIfInBounds_toArray, List.set_cons_zero, List.set_cons_succ]
  refine wpAnyH_ready (rs := [3, 9, 16]) (by kernel_rfl) (by simp) ?_
  refine AllReadyH.cons (o := ⟨some 64, .buildSlice 56 0 #[], _, _, _, none⟩) rfl (fun K hK => ?_) ?_
  · go_simp
    refine hK.out _ _ ?_ (fun hHeld => ?_)
    · first | (with_reducible refine HSS.out _ ?_; (repeat (first | with_reducible exact N6 | with_reducible exact N4 | with_reducible exact nb_refl _ | with_reducible refine nb_drew ?_ | with_reducible refine nb_alloc ?_ _))) | exact HSS.out _ (by (repeat (first | with_reducible exact N6 | with_reducible exact N4 | with_reducible exact nb_refl _ | with_reducible refine nb_drew ?_ | with_reducible refine nb_alloc ?_ _)))
    clear hK K
    try simp only [Act.put, List.setIfInBounds_toArray, List.set_cons_zero, List.set_cons_succ]
    refine wpAnyH_ready (rs := [9, 16]) (by kernel_rfl) (by simp) ?_
    refine AllReadyH.cons (o := ⟨some 70, .load 56 (.tmp 69), _, _, _, none⟩) rfl (fun K hK => ?_) ?_
    · have hG : ∀ W, Below w7.heap.size w7 W → W.cell? ⟨g, k * 3 + 2, none⟩ = some (.slice p3 nl[k].opens.length cap3) := fun W h => below_cell h e2
      have hG1 := hG _ (nb_drew (nb_refl w7))
      go_simp
      refine hK.out _ _ ?_ (fun hHeld => ?_)
      · first | (with_reducible refine HSS.out _ ?_; (repeat (first | with_reducible exact N6 | with_reducible exact N4 | with_reducible exact nb_refl _ | with_reducible refine nb_drew ?_ | with_reducible refine nb_alloc ?_ _))) | exact HSS.out _ (by (repeat (first | with_reducible exact N6 | with_reducible exact N4 | with_reducible exact nb_refl _ | with_reducible refine nb_drew ?_ | with_reducible refine nb_alloc ?_ _)))
      clear hK K
      try simp only [Act.put, List.setIfInBounds_toArray, List.set_cons_zero, List.set_cons_succ]
      refine wpAnyH_ready (rs := [10, 16]) (by kernel_rfl) (by simp) ?_
      refine AllReadyH.cons (o := ⟨some 71, .call { callee := .builtin .append, args := #[.tmp 64, .tmp 70], argTypes := #[56, 56] }, _, _, _, none⟩) rfl (fun K hK => ?_) ?_
      · refine step_append_fresh rfl _ _ 56 rfl w7.heap.size 76 i1 (.agg #[.int .i64 0, .string .empty]) 2 24 Try.underlying56 hj hy0 hy1 hy2 rfl (by decide) _ rfl ?own (.slice p3 nl[k].opens.length cap3) nl[k].opens.length (wrCells nl[k].opens) rfl ?rd (wr_one _) ?m1 ?m2 ?m3 ?_
        case own => (show Emp37 _ _ _; (repeat (first | with_reducible exact emp37_new | with_reducible exact emp37_new2 | with_reducible refine emp37_drew ?_ | with_reducible refine emp37_old ?_ _)))
        case rd => exact HOP5.out _ (by (repeat (first | with_reducible exact N6 | with_reducible exact N4 | with_reducible exact nb_refl _ | with_reducible refine nb_drew ?_ | with_reducible refine nb_alloc ?_ _)))
        case m1 => unfold maxLen; omega
        case m2 => omega
        case m3 => exact Below.size (by (repeat (first | with_reducible exact N6 | with_reducible exact N4 | with_reducible exact nb_refl _ | with_reducible refine nb_drew ?_ | with_reducible refine nb_alloc ?_ _)))
        intro p4 c4 w4 hO4 hg4
        have N4 : Below w7.heap.size w7 w4 := Below.grown (by (repeat (first | with_reducible exact N6 | with_reducible exact N4 | with_reducible exact nb_refl _ | with_reducible refine nb_drew ?_ | with_reducible refine nb_alloc ?_ _))) hg4 (Below.size (by (repeat (first | with_reducible exact N6 | with_reducible exact N4 | with_reducible exact nb_refl _ | with_reducible refine nb_drew ?_ | with_reducible refine nb_alloc ?_ _)))) (fun j hj => by have := Option.some.inj hj; (try simp only [World.size_alloc] at this); (first | omega | (simp [World.drew] at this; omega)))
        refine hK.out _ _ ?_ (fun hHeld => ?_)
        · exact HSS.out _ N4
        clear hK K
        try simp only [Act.put, List.setIfInBounds_toArray, List.set_cons_zero, List.set_cons_succ]
        refine wpAnyH_ready (rs := [16]) (by kernel_rfl) (by simp) ?_
        refine AllReadyH.cons (o := ⟨some 77, .buildSlice 56 1 #[(0, .tmp 76)], _, _, _, none⟩) rfl (fun K hK => ?_) ?_
        rotate_left
        · exact AllReadyH.nil
        go_simp
        refine hK.out _ _ ?_ (fun hHeld => ?_)
        · first | (with_reducible refine HSS.out _ ?_; (repeat (first | with_reducible exact N6 | with_reducible exact N4 | with_reducible exact nb_refl _ | with_reducible refine nb_drew ?_ | with_reducible refine nb_alloc ?_ _))) | exact HSS.out _ (by (repeat (first | with_reducible exact N6 | with_reducible exact N4 | with_reducible exact nb_refl _ | with_reducible refine nb_drew ?_ | with_reducible refine nb_alloc ?_ _)))
        clear hK K
        try simp only [Act.put, List.setIfInBounds_toArray, List.set_cons_zero, List.set_cons_succ]
        refine wpAnyH_ready (rs := [17]) (by kernel_rfl) (by simp) ?_
        refine AllReadyH.cons (o := ⟨some 78, .call { callee := .builtin .append, args := #[.tmp 71, .tmp 77], argTypes := #[56, 56] }, _, _, _, none⟩) rfl (fun K hK => ?_) ?_
        rotate_left
        · exact AllReadyH.nil
        refine step_append_reads rfl _ _ 56 rfl w7.heap.size 76 i1 (.agg #[.int .i64 0, .string .empty]) 2 24 Try.underlying56 hj hy0 hy1 hy2 rfl (by decide) (.slice p4 nl[k].opens.length c4) nl[k].opens.length (wrCells nl[k].opens) rfl ?own _ 1 [.int .i64 ps, .string bs] rfl ?rd (two_one _ _) ?m1 ?m2 ?m3 ?_
        case own => first | exact hO4.out | exact owns_below hO4.out (below1 _ _)
        case rd => first | exact Wr1.reads X1 | exact Wr1.reads Wr1.new | exact Wr1.reads (Wr1.drew Wr1.new)
        case m1 => unfold maxLen; omega
        case m2 => omega
        case m3 => exact Below.size (by (repeat (first | with_reducible exact N6 | with_reducible exact N4 | with_reducible exact nb_refl _ | with_reducible refine nb_drew ?_ | with_reducible refine nb_alloc ?_ _)))
        intro p5 c5 w6 hO6 hg6
        have N6 : Below w7.heap.size w7 w6 := below_grown (by (repeat (first | with_reducible exact N6 | with_reducible exact N4 | with_reducible exact nb_refl _ | with_reducible refine nb_drew ?_ | with_reducible refine nb_alloc ?_ _))) (by first | exact hO4.out | exact owns_below hO4.out (below1 _ _)) hg6
        have s6 := HSS.out _ N6
        have x6 := below_cell N6 e2
        have y6 := (N6.frozen (p := ⟨g, k * 3 + 2, none⟩) lg).trans (HFZ.out (k * 3 + 2))
        have g6 := lt_of_cell x6
        refine hK.out _ _ ?_ (fun hHeld => ?_)
        · exact s6
        clear hK K
        try simp only [Act.put, List.setIfInBounds_toArray, List.set_cons_zero, List.set_cons_succ]
        refine wpAnyH_take (i := 18) (oi := ⟨some 79, .indexAddr 22 (.tmp 62) (.tmp 63), _, _, _, none⟩) (v := ?_) rfl (by kernel_rfl) (by kernel_rfl) (by kernel_rfl) (fun _ _ _ h => h) (Or.inl ⟨by rfl, ?_⟩) (by assumption) ?_
        rotate_left
        · (intro w hSw; (try dsimp only at hSw); go_simp; try with_reducible rfl)
        try simp only [Act.put, List.setIfInBounds_toArray, List.set_cons_zero, List.set_cons_succ]
        refine wpAnyH_take (i := 19) (oi := ⟨some 80, .fieldAddr 58 (.tmp 79) 2, _, _, _, none⟩) (v := ?_) rfl (by kernel_rfl) (by kernel_rfl) (by kernel_rfl) (fun _ _ _ h => h) (Or.inl ⟨by rfl, ?_⟩) (by assumption) ?_
        rotate_left
        · (intro w hSw; (try dsimp only at hSw); go_simp; try with_reducible rfl)
        try simp only [Act.put, List.setIfInBounds_toArray, List.set_cons_zero, List.set_cons_succ]
        refine wpAnyH_ready (rs := [20]) (by kernel_rfl) (by simp) ?_
        refine AllReadyH.cons (o := ⟨none, .store 56 (.tmp 80) (.tmp 78), _, _, _, none⟩) rfl (fun K hK => ?_) ?_
        rotate_left
        · exact AllReadyH.nil
        go_simp
        refine hK.out _ _ ?_ (fun hHeld => ?_)
        · exact HS1.out _ _ _ s6
        clear hK K
        try simp only [Act.put, List.setIfInBounds_toArray, List.set_cons_zero, List.set_cons_succ]
        refine wpAnyH_done (by kernel_rfl) ?_ _
        refine NoPanic.normal ?_
        have hnew : w6.ownsRow w7.heap.size 76 2 (.slice p5 (nl[k].opens.length + 1) c5) (nl[k].opens ++ [(⟨ps, bs⟩ : Wr)]).length (wrCells (nl[k].opens ++ [(⟨ps, bs⟩ : Wr)])) := owns_snoc (x := ⟨ps, bs⟩) hO6.out
        have hB : B ≤ w7.heap.size := by have := HB7.out.size; omega
        have h1 := put_open (HOWN7.out.below N6) rfl hk ⟨nl[k].name, nl[k].safe, (.slice p5 (nl[k].opens.length + 1) c5), nl[k].opens ++ [⟨ps, bs⟩]⟩ rfl rfl (owns_mono hnew hB)
        have h2 : w.grownBy (w6.setCell ⟨g, k * 3 + 2, none⟩ (.slice p5 (nl[k].opens.length + 1) c5)) (Value.slice q l.length cap).ownBlock := below_grownBy ((below_then HB7.out N6).setCell (show w.heap.size ≤ g by omega) _)
        have h3 := (HD7.out.keep N6).far hgw (k * 3 + 2) (.slice p5 (nl[k].opens.length + 1) c5)
        have h4 := (HR7.out.keep N6).far (show g ≠ w.heap.size + 1 + 1 by omega) (k * 3 + 2) (.slice p5 (nl[k].opens.length + 1) c5)
        clear hnew hO6 hO4 hg4 hg6 s6 x6 y6 g6 hHeld HSS HS1 HFZ
        clear N6 N4
        revert h1 h2 h3 h4
        generalize w6.setCell ⟨g, k * 3 + 2, none⟩ (.slice p5 (nl[k].opens.length + 1) c5) = W7
        intro hput hgr hd7 hr7
        have d7 := hd7.c
        have r7 := hr7.c
        have z7 := hr7.f
        have l7 := hd7.lt
        have l8 := hr7.lt
        have HP := Lib.hid hput
        have HG := Lib.hid hgr
        have HR := Lib.hid hr7
        clear hput hgr hd7 hr7
        go_wp2_with fail
        have hgf : w.grownBy (W7.setCell ⟨w.heap.size + 1 + 1, 0, none⟩ (.slice (some ⟨g, 0, none⟩) nl.length cap6)) (Value.slice q l.length cap).ownBlock := grown_set HG.out (.inr (by omega)) 0 _
        refine bodyPost_ret (v := .tuple #[.agg #[.slice (some ⟨g, 0, none⟩) nl.length cap6], .int .i64 0]) (by simp [results, Try.results47, go_sem, r7]) rfl
          ⟨_, _, rfl, ?_, HP.out.set HR.out _, fun h => absurd rfl h, hgf⟩
        exact put_new_core HNL.out HPL.out hk
      refine AllReadyH.cons (o := ⟨some 77, .buildSlice 56 1 #[(0, .tmp 76)], _, _, _, none⟩) rfl (fun K hK => ?_) ?_
      · go_simp
        refine hK.out _ _ ?_ (fun hHeld => ?_)
        · first | (with_reducible refine HSS.out _ ?_; (repeat (first | with_reducible exact N6 | with_reducible exact N4 | with_reducible exact nb_refl _ | with_reducible refine nb_drew ?_ | with_reducible refine nb_alloc ?_ _))) | exact HSS.out _ (by (repeat (first | with_reducible exact N6 | with_reducible exact N4 | with_reducible exact nb_refl _ | with_reducible refine nb_drew ?_ | with_reducible refine nb_alloc ?_ _)))
        clear hK K
        try simp only [Act.put, List.setIfInBounds_toArray, List.set_cons_zero, List.set_cons_succ]
        refine wpAnyH_ready (rs := [10]) (by kernel_rfl) (by simp) ?_
        refine AllReadyH.cons (o := ⟨some 71, .call { callee := .builtin .append, args := #[.tmp 64, .tmp 70], argTypes := #[56, 56] }, _, _, _, none⟩) rfl (fun K hK => ?_) ?_
        rotate_left
        · exact AllReadyH.nil
        refine step_append_fresh rfl _ _ 56 rfl w7.heap.size 76 i1 (.agg #[.int .i64 0, .string .empty]) 2 24 Try.underlying56 hj hy0 hy1 hy2 rfl (by decide) _ rfl ?own (.slice p3 nl[k].opens.length cap3) nl[k].opens.length (wrCells nl[k].opens) rfl ?rd (wr_one _) ?m1 ?m2 ?m3 ?_
        case own => (show Emp37 _ _ _; (repeat (first | with_reducible exact emp37_new | with_reducible exact emp37_new2 | with_reducible refine emp37_drew ?_ | with_reducible refine emp37_old ?_ _)))
        case rd => exact HOP5.out _ (by (repeat (first | with_reducible exact N6 | with_reducible exact N4 | with_reducible exact nb_refl _ | with_reducible refine nb_drew ?_ | with_reducible refine nb_alloc ?_ _)))
        case m1 => unfold maxLen; omega
        case m2 => omega
        case m3 => exact Below.size (by (repeat (first | with_reducible exact N6 | with_reducible exact N4 | with_reducible exact nb_refl _ | with_reducible refine nb_drew ?_ | with_reducible refine nb_alloc ?_ _)))
        intro p4 c4 w4 hO4 hg4
        have N4 : Below w7.heap.size w7 w4 := Below.grown (by (repeat (first | with_reducible exact N6 | with_reducible exact N4 | with_reducible exact nb_refl _ | with_reducible refine nb_drew ?_ | with_reducible refine nb_alloc ?_ _))) hg4 (Below.size (by (repeat (first | with_reducible exact N6 | with_reducible exact N4 | with_reducible exact nb_refl _ | with_reducible refine nb_drew ?_ | with_reducible refine nb_alloc ?_ _)))) (fun j hj => by have := Option.some.inj hj; (try simp only [World.size_alloc] at this); (first | omega | (simp [World.drew] at this; omega)))
        have X1 : Wr1 w4 (w7.heap.size + 1) ps bs := Wr1.kept (by (repeat (first | with_reducible exact Wr1.new | with_reducible exact Wr1.new2 | with_reducible refine Wr1.drew ?_ | with_reducible refine Wr1.old ?_ _))) hg4 (by simp)
        refine hK.out _ _ ?_ (fun hHeld => ?_)
        · exact HSS.out _ N4
        clear hK K
        try simp only [Act.put, List.setIfInBounds_toArray, List.set_cons_zero, List.set_cons_succ]
        refine wpAnyH_ready (rs := [17]) (by kernel_rfl) (by simp) ?_
        refine AllReadyH.cons (o := ⟨some 78, .call { callee := .builtin .append, args := #[.tmp 71, .tmp 77], argTypes := #[56, 56] }, _, _, _, none⟩) rfl (fun K hK => ?_) ?_
        rotate_left
        · exact AllReadyH.nil
        refine step_append_reads rfl _ _ 56 rfl w7.heap.size 76 i1 (.agg #[.int .i64 0, .string .empty]) 2 24 Try.underlying56 hj hy0 hy1 hy2 rfl (by decide) (.slice p4 nl[k].opens.length c4) nl[k].opens.length (wrCells nl[k].opens) rfl ?own _ 1 [.int .i64 ps, .string bs] rfl ?rd (two_one _ _) ?m1 ?m2 ?m3 ?_
        case own => first | exact hO4.out | exact owns_below hO4.out (below1 _ _)
        case rd => first | exact Wr1.reads X1 | exact Wr1.reads Wr1.new | exact Wr1.reads (Wr1.drew Wr1.new)
        case m1 => unfold maxLen; omega
        case m2 => omega
        case m3 => exact Below.size (by (repeat (first | with_reducible exact N6 | with_reducible exact N4 | with_reducible exact nb_refl _ | with_reducible refine nb_drew ?_ | with_reducible refine nb_alloc ?_ _)))
        intro p5 c5 w6 hO6 hg6
        have N6 : Below w7.heap.size w7 w6 := below_grown (by (repeat (first | with_reducible exact N6 | with_reducible exact N4 | with_reducible exact nb_refl _ | with_reducible refine nb_drew ?_ | with_reducible refine nb_alloc ?_ _))) (by first | exact hO4.out | exact owns_below hO4.out (below1 _ _)) hg6
        have s6 := HSS.out _ N6
        have x6 := below_cell N6 e2
        have y6 := (N6.frozen (p := ⟨g, k * 3 + 2, none⟩) lg).trans (HFZ.out (k * 3 + 2))
        have g6 := lt_of_cell x6
        refine hK.out _ _ ?_ (fun hHeld => ?_)
        · exact s6
        clear hK K
        try simp only [Act.put, List.setIfInBounds_toArray, List.set_cons_zero, List.set_cons_succ]
        refine wpAnyH_take (i := 18) (oi := ⟨some 79, .indexAddr 22 (.tmp 62) (.tmp 63), _, _, _, none⟩) (v := ?_) rfl (by kernel_rfl) (by kernel_rfl) (by kernel_rfl) (fun _ _ _ h => h) (Or.inl ⟨by rfl, ?_⟩) (by assumption) ?_
        rotate_left
        · (intro w hSw; (try dsimp only at hSw); go_simp; try with_reducible rfl)
        try simp only [Act.put, List.setIfInBounds_toArray, List.set_cons_zero, List.set_cons_succ]
        refine wpAnyH_take (i := 19) (oi := ⟨some 80, .fieldAddr 58 (.tmp 79) 2, _, _, _, none⟩) (v := ?_) rfl (by kernel_rfl) (by kernel_rfl) (by kernel_rfl) (fun _ _ _ h => h) (Or.inl ⟨by rfl, ?_⟩) (by assumption) ?_
        rotate_left
        · (intro w hSw; (try dsimp only at hSw); go_simp; try with_reducible rfl)
        try simp only [Act.put, List.setIfInBounds_toArray, List.set_cons_zero, List.set_cons_succ]
        refine wpAnyH_ready (rs := [20]) (by kernel_rfl) (by simp) ?_
        refine AllReadyH.cons (o := ⟨none, .store 56 (.tmp 80) (.tmp 78), _, _, _, none⟩) rfl (fun K hK => ?_) ?_
        rotate_left
        · exact AllReadyH.nil
        go_simp
        refine hK.out _ _ ?_ (fun hHeld => ?_)
        · exact HS1.out _ _ _ s6
        clear hK K
        try simp only [Act.put, List.setIfInBounds_toArray, List.set_cons_zero, List.set_cons_succ]
        refine wpAnyH_done (by kernel_rfl) ?_ _
        refine NoPanic.normal ?_
        have hnew : w6.ownsRow w7.heap.size 76 2 (.slice p5 (nl[k].opens.length + 1) c5) (nl[k].opens ++ [(⟨ps, bs⟩ : Wr)]).length (wrCells (nl[k].opens ++ [(⟨ps, bs⟩ : Wr)])) := owns_snoc (x := ⟨ps, bs⟩) hO6.out
        have hB : B ≤ w7.heap.size := by have := HB7.out.size; omega
        have h1 := put_open (HOWN7.out.below N6) rfl hk ⟨nl[k].name, nl[k].safe, (.slice p5 (nl[k].opens.length + 1) c5), nl[k].opens ++ [⟨ps, bs⟩]⟩ rfl rfl (owns_mono hnew hB)
        have h2 : w.grownBy (w6.setCell ⟨g, k * 3 + 2, none⟩ (.slice p5 (nl[k].opens.length + 1) c5)) (Value.slice q l.length cap).ownBlock := below_grownBy ((below_then HB7.out N6).setCell (show w.heap.size ≤ g by omega) _)
        have h3 := (HD7.out.keep N6).far hgw (k * 3 + 2) (.slice p5 (nl[k].opens.length + 1) c5)
        have h4 := (HR7.out.keep N6).far (show g ≠ w.heap.size + 1 + 1 by omega) (k * 3 + 2) (.slice p5 (nl[k].opens.length + 1) c5)
        clear hnew hO6 hO4 hg4 hg6 s6 x6 y6 g6 hHeld HSS HS1 HFZ
        clear N6 N4
        revert h1 h2 h3 h4
        generalize w6.setCell ⟨g, k * 3 + 2, none⟩ (.slice p5 (nl[k].opens.length + 1) c5) = W7
        intro hput hgr hd7 hr7
        have d7 := hd7.c
        have r7 := hr7.c
        have z7 := hr7.f
        have l7 := hd7.lt
        have l8 := hr7.lt
        have HP := Lib.hid hput
        have HG := Lib.hid hgr
        have HR := Lib.hid hr7
        clear hput hgr hd7 hr7
        go_wp2_with fail
        have hgf : w.grownBy (W7.setCell ⟨w.heap.size + 1 + 1, 0, none⟩ (.slice (some ⟨g, 0, none⟩) nl.length cap6)) (Value.slice q l.length cap).ownBlock := grown_set HG.out (.inr (by omega)) 0 _
        refine bodyPost_ret (v := .tuple #[.agg #[.slice (some ⟨g, 0, none⟩) nl.length cap6], .int .i64 0]) (by simp [results, Try.results47, go_sem, r7]) rfl
          ⟨_, _, rfl, ?_, HP.out.set HR.out _, fun h => absurd rfl h, hgf⟩
        exact put_new_core HNL.out HPL.out hk
      exact AllReadyH.nil
    refine AllReadyH.cons (o := ⟨some 77, .buildSlice 56 1 #[(0, .tmp 76)], _, _, _, none⟩) rfl (fun K hK => ?_) ?_
    · go_simp
      refine hK.out _ _ ?_ (fun hHeld => ?_)
      · first | (with_reducible refine HSS.out _ ?_; (repeat (first | with_reducible exact N6 | with_reducible exact N4 | with_reducible exact nb_refl _ | with_reducible refine nb_drew ?_ | with_reducible refine nb_alloc ?_ _))) | exact HSS.out _ (by (repeat (first | with_reducible exact N6 | with_reducible exact N4 | with_reducible exact nb_refl _ | with_reducible refine nb_drew ?_ | with_reducible refine nb_alloc ?_ _)))
      clear hK K
      try simp only [Act.put, List.setIfInBounds_toArray, List.set_cons_zero, List.set_cons_succ]
      refine wpAnyH_ready (rs := [9]) (by kernel_rfl) (by simp) ?_
      refine AllReadyH.cons (o := ⟨some 70, .load 56 (.tmp 69), _, _, _, none⟩) rfl (fun K hK => ?_) ?_
      rotate_left
      · exact AllReadyH.nil
      have hG : ∀ W, Below w7.heap.size w7 W → W.cell? ⟨g, k * 3 + 2, none⟩ = some (.slice p3 nl[k].opens.length cap3) := fun W h => below_cell h e2
      have hG1 := hG _ (nb_drew (nb_refl w7))
      go_simp
      refine hK.out _ _ ?_ (fun hHeld => ?_)
      · first | (with_reducible refine HSS.out _ ?_; (repeat (first | with_reducible exact N6 | with_reducible exact N4 | with_reducible exact nb_refl _ | with_reducible refine nb_drew ?_ | with_reducible refine nb_alloc ?_ _))) | exact HSS.out _ (by (repeat (first | with_reducible exact N6 | with_reducible exact N4 | with_reducible exact nb_refl _ | with_reducible refine nb_drew ?_ | with_reducible refine nb_alloc ?_ _)))
      clear hK K
      try simp only [Act.put, List.setIfInBounds_toArray, List.set_cons_zero, List.set_cons_succ]
      refine wpAnyH_ready (rs := [10]) (by kernel_rfl) (by simp) ?_
      refine AllReadyH.cons (o := ⟨some 71, .call { callee := .builtin .append, args := #[.tmp 64, .tmp 70], argTypes := #[56, 56] }, _, _, _, none⟩) rfl (fun K hK => ?_) ?_
      rotate_left
      · exact AllReadyH.nil
      refine step_append_fresh rfl _ _ 56 rfl w7.heap.size 76 i1 (.agg #[.int .i64 0, .string .empty]) 2 24 Try.underlying56 hj hy0 hy1 hy2 rfl (by decide) _ rfl ?own (.slice p3 nl[k].opens.length cap3) nl[k].opens.length (wrCells nl[k].opens) rfl ?rd (wr_one _) ?m1 ?m2 ?m3 ?_
      case own => (show Emp37 _ _ _; (repeat (first | with_reducible exact emp37_new | with_reducible exact emp37_new2 | with_reducible refine emp37_drew ?_ | with_reducible refine emp37_old ?_ _)))
      case rd => exact HOP5.out _ (by (repeat (first | with_reducible exact N6 | with_reducible exact N4 | with_reducible exact nb_refl _ | with_reducible refine nb_drew ?_ | with_reducible refine nb_alloc ?_ _)))
      case m1 => unfold maxLen; omega
      case m2 => omega
      case m3 => exact Below.size (by (repeat (first | with_reducible exact N6 | with_reducible exact N4 | with_reducible exact nb_refl _ | with_reducible refine nb_drew ?_ | with_reducible refine nb_alloc ?_ _)))
      intro p4 c4 w4 hO4 hg4
      have N4 : Below w7.heap.size w7 w4 := Below.grown (by (repeat (first | with_reducible exact N6 | with_reducible exact N4 | with_reducible exact nb_refl _ | with_reducible refine nb_drew ?_ | with_reducible refine nb_alloc ?_ _))) hg4 (Below.size (by (repeat (first | with_reducible exact N6 | with_reducible exact N4 | with_reducible exact nb_refl _ | with_reducible refine nb_drew ?_ | with_reducible refine nb_alloc ?_ _)))) (fun j hj => by have := Option.some.inj hj; (try simp only [World.size_alloc] at this); (first | omega | (simp [World.drew] at this; omega)))
      have X1 : Wr1 w4 (w7.heap.size + 1) ps bs := Wr1.kept (by (repeat (first | with_reducible exact Wr1.new | with_reducible exact Wr1.new2 | with_reducible refine Wr1.drew ?_ | with_reducible refine Wr1.old ?_ _))) hg4 (by simp)
      refine hK.out _ _ ?_ (fun hHeld => ?_)
      · exact HSS.out _ N4
      clear hK K
      try simp only [Act.put, List.setIfInBounds_toArray, List.set_cons_zero, List.set_cons_succ]
      refine wpAnyH_ready (rs := [17]) (by kernel_rfl) (by simp) ?_
      refine AllReadyH.cons (o := ⟨some 78, .call { callee := .builtin .append, args := #[.tmp 71, .tmp 77], argTypes := #[56, 56] }, _, _, _, none⟩) rfl (fun K hK => ?_) ?_
      rotate_left
      · exact AllReadyH.nil
      refine step_append_reads rfl _ _ 56 rfl w7.heap.size 76 i1 (.agg #[.int .i64 0, .string .empty]) 2 24 Try.underlying56 hj hy0 hy1 hy2 rfl (by decide) (.slice p4 nl[k].opens.length c4) nl[k].opens.length (wrCells nl[k].opens) rfl ?own _ 1 [.int .i64 ps, .string bs] rfl ?rd (two_one _ _) ?m1 ?m2 ?m3 ?_
      case own => first | exact hO4.out | exact owns_below hO4.out (below1 _ _)
      case rd => first | exact Wr1.reads X1 | exact Wr1.reads Wr1.new | exact Wr1.reads (Wr1.drew Wr1.new)
      case m1 => unfold maxLen; omega
      case m2 => omega
      case m3 => exact Below.size (by (repeat (first | with_reducible exact N6 | with_reducible exact N4 | with_reducible exact nb_refl _ | with_reducible refine nb_drew ?_ | with_reducible refine nb_alloc ?_ _)))
      intro p5 c5 w6 hO6 hg6
      have N6 : Below w7.heap.size w7 w6 := below_grown (by (repeat (first | with_reducible exact N6 | with_reducible exact N4 | with_reducible exact nb_refl _ | with_reducible refine nb_drew ?_ | with_reducible refine nb_alloc ?_ _))) (by first | exact hO4.out | exact owns_below hO4.out (below1 _ _)) hg6
      have s6 := HSS.out _ N6
      have x6 := below_cell N6 e2
      have y6 := (N6.frozen (p := ⟨g, k * 3 + 2, none⟩) lg).trans (HFZ.out (k * 3 + 2))
      have g6 := lt_of_cell x6
      refine hK.out _ _ ?_ (fun hHeld => ?_)
      · exact s6
      clear hK K
      try simp only [Act.put, List.setIfInBounds_toArray, List.set_cons_zero, List.set_cons_succ]
      refine wpAnyH_take (i := 18) (oi := ⟨some 79, .indexAddr 22 (.tmp 62) (.tmp 63), _, _, _, none⟩) (v := ?_) rfl (by kernel_rfl) (by kernel_rfl) (by kernel_rfl) (fun _ _ _ h => h) (Or.inl ⟨by rfl, ?_⟩) (by assumption) ?_
      rotate_left
      · (intro w hSw; (try dsimp only at hSw); go_simp; try with_reducible rfl)
      try simp only [Act.put, List.setIfInBounds_toArray, List.set_cons_zero, List.set_cons_succ]
      refine wpAnyH_take (i := 19) (oi := ⟨some 80, .fieldAddr 58 (.tmp 79) 2, _, _, _, none⟩) (v := ?_) rfl (by kernel_rfl) (by kernel_rfl) (by kernel_rfl) (fun _ _ _ h => h) (Or.inl ⟨by rfl, ?_⟩) (by assumption) ?_
      rotate_left
      · (intro w hSw; (try dsimp only at hSw); go_simp; try with_reducible rfl)
      try simp only [Act.put, List.setIfInBounds_toArray, List.set_cons_zero, List.set_cons_succ]
      refine wpAnyH_ready (rs := [20]) (by kernel_rfl) (by simp) ?_
      refine AllReadyH.cons (o := ⟨none, .store 56 (.tmp 80) (.tmp 78), _, _, _, none⟩) rfl (fun K hK => ?_) ?_
      rotate_left
      · exact AllReadyH.nil
      go_simp
      refine hK.out _ _ ?_ (fun hHeld => ?_)
      · exact HS1.out _ _ _ s6
      clear hK K
      try simp only [Act.put, List.setIfInBounds_toArray, List.set_cons_zero, List.set_cons_succ]
      refine wpAnyH_done (by kernel_rfl) ?_ _
      refine NoPanic.normal ?_
      have hnew : w6.ownsRow w7.heap.size 76 2 (.slice p5 (nl[k].opens.length + 1) c5) (nl[k].opens ++ [(⟨ps, bs⟩ : Wr)]).length (wrCells (nl[k].opens ++ [(⟨ps, bs⟩ : Wr)])) := owns_snoc (x := ⟨ps, bs⟩) hO6.out
      have hB : B ≤ w7.heap.size := by have := HB7.out.size; omega
      have h1 := put_open (HOWN7.out.below N6) rfl hk ⟨nl[k].name, nl[k].safe, (.slice p5 (nl[k].opens.length + 1) c5), nl[k].opens ++ [⟨ps, bs⟩]⟩ rfl rfl (owns_mono hnew hB)
      have h2 : w.grownBy (w6.setCell ⟨g, k * 3 + 2, none⟩ (.slice p5 (nl[k].opens.length + 1) c5)) (Value.slice q l.length cap).ownBlock := below_grownBy ((below_then HB7.out N6).setCell (show w.heap.size ≤ g by omega) _)
      have h3 := (HD7.out.keep N6).far hgw (k * 3 + 2) (.slice p5 (nl[k].opens.length + 1) c5)
      have h4 := (HR7.out.keep N6).far (show g ≠ w.heap.size + 1 + 1 by omega) (k * 3 + 2) (.slice p5 (nl[k].opens.length + 1) c5)
      clear hnew hO6 hO4 hg4 hg6 s6 x6 y6 g6 hHeld HSS HS1 HFZ
      clear N6 N4
      revert h1 h2 h3 h4
      generalize w6.setCell ⟨g, k * 3 + 2, none⟩ (.slice p5 (nl[k].opens.length + 1) c5) = W7
      intro hput hgr hd7 hr7
      have d7 := hd7.c
      have r7 := hr7.c
      have z7 := hr7.f
      have l7 := hd7.lt
      have l8 := hr7.lt
      have HP := Lib.hid hput
      have HG := Lib.hid hgr
      have HR := Lib.hid hr7
      clear hput hgr hd7 hr7
      go_wp2_with fail
      have hgf : w.grownBy (W7.setCell ⟨w.heap.size + 1 + 1, 0, none⟩ (.slice (some ⟨g, 0, none⟩) nl.length cap6)) (Value.slice q l.length cap).ownBlock := grown_set HG.out (.inr (by omega)) 0 _
      refine bodyPost_ret (v := .tuple #[.agg #[.slice (some ⟨g, 0, none⟩) nl.length cap6], .int .i64 0]) (by simp [results, Try.results47, go_sem, r7]) rfl
        ⟨_, _, rfl, ?_, HP.out.set HR.out _, fun h => absurd rfl h, hgf⟩
      exact put_new_core HNL.out HPL.out hk
    exact AllReadyH.nil
  refine AllReadyH.cons (o := ⟨some 70, .load 56 (.tmp 69), _, _, _, none⟩) rfl (fun K hK => ?_) ?_
  · have hG : ∀ W, Below w7.heap.size w7 W → W.cell? ⟨g, k * 3 + 2, none⟩ = some (.slice p3 nl[k].opens.length cap3) := fun W h => below_cell h e2
    have hG1 := hG _ (nb_drew (nb_refl w7))
    go_simp
    refine hK.out _ _ ?_ (fun hHeld => ?_)
    · first | (with_reducible refine HSS.out _ ?_; (repeat (first | with_reducible exact N6 | with_reducible exact N4 | with_reducible exact nb_refl _ | with_reducible refine nb_drew ?_ | with_reducible refine nb_alloc ?_ _))) | exact HSS.out _ (by (repeat (first | with_reducible exact N6 | with_reducible exact N4 | with_reducible exact nb_refl _ | with_reducible refine nb_drew ?_ | with_reducible refine nb_alloc ?_ _)))
    clear hK K
    try simp only [Act.put, List.setIfInBounds_toArray, List.set_cons_zero, List.set_cons_succ]
    refine wpAnyH_ready (rs := [3, 16]) (by kernel_rfl) (by simp) ?_
    refine AllReadyH.cons (o := ⟨some 64, .buildSlice 56 0 #[], _, _, _, none⟩) rfl (fun K hK => ?_) ?_
    · go_simp
      refine hK.out _ _ ?_ (fun hHeld => ?_)
      · first | (with_reducible refine HSS.out _ ?_; (repeat (first | with_reducible exact N6 | with_reducible exact N4 | with_reducible exact nb_refl _ | with_reducible refine nb_drew ?_ | with_reducible refine nb_alloc ?_ _))) | exact HSS.out _ (by (repeat (first | with_reducible exact N6 | with_reducible exact N4 | with_reducible exact nb_refl _ | with_reducible refine nb_drew ?_ | with_reducible refine nb_alloc ?_ _)))
      clear hK K
      try simp only [Act.put, List.setIfInBounds_toArray, List.set_cons_zero, List.set_cons_succ]
      refine wpAnyH_ready (rs := [10, 16]) (by kernel_rfl) (by simp) ?_
      refine AllReadyH.cons (o := ⟨some 71, .call { callee := .builtin .append, args := #[.tmp 64, .tmp 70], argTypes := #[56, 56] }, _, _, _, none⟩) rfl (fun K hK => ?_) ?_
      · refine step_append_fresh rfl _ _ 56 rfl w7.heap.size 76 i1 (.agg #[.int .i64 0, .string .empty]) 2 24 Try.underlying56 hj hy0 hy1 hy2 rfl (by decide) _ rfl ?own (.slice p3 nl[k].opens.length cap3) nl[k].opens.length (wrCells nl[k].opens) rfl ?rd (wr_one _) ?m1 ?m2 ?m3 ?_
        case own => (show Emp37 _ _ _; (repeat (first | with_reducible exact emp37_new | with_reducible exact emp37_new2 | with_reducible refine emp37_drew ?_ | with_reducible refine emp37_old ?_ _)))
        case rd => exact HOP5.out _ (by (repeat (first | with_reducible exact N6 | with_reducible exact N4 | with_reducible exact nb_refl _ | with_reducible refine nb_drew ?_ | with_reducible refine nb_alloc ?_ _)))
        case m1 => unfold maxLen; omega
        case m2 => omega
        case m3 => exact Below.size (by (repeat (first | with_reducible exact N6 | with_reducible exact N4 | with_reducible exact nb_refl _ | with_reducible refine nb_drew ?_ | with_reducible refine nb_alloc ?_ _)))
        intro p4 c4 w4 hO4 hg4
        have N4 : Below w7.heap.size w7 w4 := Below.grown (by (repeat (first | with_reducible exact N6 | with_reducible exact N4 | with_reducible exact nb_refl _ | with_reducible refine nb_drew ?_ | with_reducible refine nb_alloc ?_ _))) hg4 (Below.size (by (repeat (first | with_reducible exact N6 | with_reducible exact N4 | with_reducible exact nb_refl _ | with_reducible refine nb_drew ?_ | with_reducible refine nb_alloc ?_ _)))) (fun j hj => by have := Option.some.inj hj; (try simp only [World.size_alloc] at this); (first | omega | (simp [World.drew] at this; omega)))
        refine hK.out _ _ ?_ (fun hHeld => ?_)
        · exact HSS.out _ N4
        clear hK K
        try simp only [Act.put, List.setIfInBounds_toArray, List.set_cons_zero, List.set_cons_succ]
        refine wpAnyH_ready (rs := [16]) (by kernel_rfl) (by simp) ?_
        refine AllReadyH.cons (o := ⟨some 77, .buildSlice 56 1 #[(0, .tmp 76)], _, _, _, none⟩) rfl (fun K hK => ?_) ?_
        rotate_left
        · exact AllReadyH.nil
        go_simp
        refine hK.out _ _ ?_ (fun hHeld => ?_)
        · first | (with_reducible refine HSS.out _ ?_; (repeat (first | with_reducible exact N6 | with_reducible exact N4 | with_reducible exact nb_refl _ | with_reducible refine nb_drew ?_ | with_reducible refine nb_alloc ?_ _))) | exact HSS.out _ (by (repeat (first | with_reducible exact N6 | with_reducible exact N4 | with_reducible exact nb_refl _ | with_reducible refine nb_drew ?_ | with_reducible refine nb_alloc ?_ _)))
        clear hK K
        try simp only [Act.put, List.setIfInBounds_toArray, List.set_cons_zero, List.set_cons_succ]
        refine wpAnyH_ready (rs := [17]) (by kernel_rfl) (by simp) ?_
        refine AllReadyH.cons (o := ⟨some 78, .call { callee := .builtin .append, args := #[.tmp 71, .tmp 77], argTypes := #[56, 56] }, _, _, _, none⟩) rfl (fun K hK => ?_) ?_
        rotate_left
        · exact AllReadyH.nil
        refine step_append_reads rfl _ _ 56 rfl w7.heap.size 76 i1 (.agg #[.int .i64 0, .string .empty]) 2 24 Try.underlying56 hj hy0 hy1 hy2 rfl (by decide) (.slice p4 nl[k].opens.length c4) nl[k].opens.length (wrCells nl[k].opens) rfl ?own _ 1 [.int .i64 ps, .string bs] rfl ?rd (two_one _ _) ?m1 ?m2 ?m3 ?_
        case own => first | exact hO4.out | exact owns_below hO4.out (below1 _ _)
        case rd => first | exact Wr1.reads X1 | exact Wr1.reads Wr1.new | exact Wr1.reads (Wr1.drew Wr1.new)
        case m1 => unfold maxLen; omega
        case m2 => omega
        case m3 => exact Below.size (by (repeat (first | with_reducible exact N6 | with_reducible exact N4 | with_reducible exact nb_refl _ | with_reducible refine nb_drew ?_ | with_reducible refine nb_alloc ?_ _)))
        intro p5 c5 w6 hO6 hg6
        have N6 : Below w7.heap.size w7 w6 := below_grown (by (repeat (first | with_reducible exact N6 | with_reducible exact N4 | with_reducible exact nb_refl _ | with_reducible refine nb_drew ?_ | with_reducible refine nb_alloc ?_ _))) (by first | exact hO4.out | exact owns_below hO4.out (below1 _ _)) hg6
        have s6 := HSS.out _ N6
        have x6 := below_cell N6 e2
        have y6 := (N6.frozen (p := ⟨g, k * 3 + 2, none⟩) lg).trans (HFZ.out (k * 3 + 2))
        have g6 := lt_of_cell x6
        refine hK.out _ _ ?_ (fun hHeld => ?_)
        · exact s6
        clear hK K
        try simp only [Act.put, List.setIfInBounds_toArray, List.set_cons_zero, List.set_cons_succ]
        refine wpAnyH_take (i := 18) (oi := ⟨some 79, .indexAddr 22 (.tmp 62) (.tmp 63), _, _, _, none⟩) (v := ?_) rfl (by kernel_rfl) (by kernel_rfl) (by kernel_rfl) (fun _ _ _ h => h) (Or.inl ⟨by rfl, ?_⟩) (by assumption) ?_
        rotate_left
        · (intro w hSw; (try dsimp only at hSw); go_simp; try with_reducible rfl)
        try simp only [Act.put, List.setIfInBounds_toArray, List.set_cons_zero, List.set_cons_succ]
        refine wpAnyH_take (i := 19) (oi := ⟨some 80, .fieldAddr 58 (.tmp 79) 2, _, _, _, none⟩) (v := ?_) rfl (by kernel_rfl) (by kernel_rfl) (by kernel_rfl) (fun _ _ _ h => h) (Or.inl ⟨by rfl, ?_⟩) (by assumption) ?_
        rotate_left
        · (intro w hSw; (try dsimp only at hSw); go_simp; try with_reducible rfl)
        try simp only [Act.put, List.setIfInBounds_toArray, List.set_cons_zero, List.set_cons_succ]
        refine wpAnyH_ready (rs := [20]) (by kernel_rfl) (by simp) ?_
        refine AllReadyH.cons (o := ⟨none, .store 56 (.tmp 80) (.tmp 78), _, _, _, none⟩) rfl (fun K hK => ?_) ?_
        rotate_left
        · exact AllReadyH.nil
        go_simp
        refine hK.out _ _ ?_ (fun hHeld => ?_)
        · exact HS1.out _ _ _ s6
        clear hK K
        try simp only [Act.put, List.setIfInBounds_toArray, List.set_cons_zero, List.set_cons_succ]
        refine wpAnyH_done (by kernel_rfl) ?_ _
        refine NoPanic.normal ?_
        have hnew : w6.ownsRow w7.heap.size 76 2 (.slice p5 (nl[k].opens.length + 1) c5) (nl[k].opens ++ [(⟨ps, bs⟩ : Wr)]).length (wrCells (nl[k].opens ++ [(⟨ps, bs⟩ : Wr)])) := owns_snoc (x := ⟨ps, bs⟩) hO6.out
        have hB : B ≤ w7.heap.size := by have := HB7.out.size; omega
        have h1 := put_open (HOWN7.out.below N6) rfl hk ⟨nl[k].name, nl[k].safe, (.slice p5 (nl[k].opens.length + 1) c5), nl[k].opens ++ [⟨ps, bs⟩]⟩ rfl rfl (owns_mono hnew hB)
        have h2 : w.grownBy (w6.setCell ⟨g, k * 3 + 2, none⟩ (.slice p5 (nl[k].opens.length + 1) c5)) (Value.slice q l.length cap).ownBlock := below_grownBy ((below_then HB7.out N6).setCell (show w.heap.size ≤ g by omega) _)
        have h3 := (HD7.out.keep N6).far hgw (k * 3 + 2) (.slice p5 (nl[k].opens.length + 1) c5)
        have h4 := (HR7.out.keep N6).far (show g ≠ w.heap.size + 1 + 1 by omega) (k * 3 + 2) (.slice p5 (nl[k].opens.length + 1) c5)
        clear hnew hO6 hO4 hg4 hg6 s6 x6 y6 g6 hHeld HSS HS1 HFZ
        clear N6 N4
        revert h1 h2 h3 h4
        generalize w6.setCell ⟨g, k * 3 + 2, none⟩ (.slice p5 (nl[k].opens.length + 1) c5) = W7
        intro hput hgr hd7 hr7
        have d7 := hd7.c
        have r7 := hr7.c
        have z7 := hr7.f
        have l7 := hd7.lt
        have l8 := hr7.lt
        have HP := Lib.hid hput
        have HG := Lib.hid hgr
        have HR := Lib.hid hr7
        clear hput hgr hd7 hr7
        go_wp2_with fail
        have hgf : w.grownBy (W7.setCell ⟨w.heap.size + 1 + 1, 0, none⟩ (.slice (some ⟨g, 0, none⟩) nl.length cap6)) (Value.slice q l.length cap).ownBlock := grown_set HG.out (.inr (by omega)) 0 _
        refine bodyPost_ret (v := .tuple #[.agg #[.slice (some ⟨g, 0, none⟩) nl.length cap6], .int .i64 0]) (by simp [results, Try.results47, go_sem, r7]) rfl
          ⟨_, _, rfl, ?_, HP.out.set HR.out _, fun h => absurd rfl h, hgf⟩
        exact put_new_core HNL.out HPL.out hk
      refine AllReadyH.cons (o := ⟨some 77, .buildSlice 56 1 #[(0, .tmp 76)], _, _, _, none⟩) rfl (fun K hK => ?_) ?_
      · go_simp
        refine hK.out _ _ ?_ (fun hHeld => ?_)
        · first | (with_reducible refine HSS.out _ ?_; (repeat (first | with_reducible exact N6 | with_reducible exact N4 | with_reducible exact nb_refl _ | with_reducible refine nb_drew ?_ | with_reducible refine nb_alloc ?_ _))) | exact HSS.out _ (by (repeat (first | with_reducible exact N6 | with_reducible exact N4 | with_reducible exact nb_refl _ | with_reducible refine nb_drew ?_ | with_reducible refine nb_alloc ?_ _)))
        clear hK K
        try simp only [Act.put, List.setIfInBounds_toArray, List.set_cons_zero, List.set_cons_succ]
        refine wpAnyH_ready (rs := [10]) (by kernel_rfl) (by simp) ?_
        refine AllReadyH.cons (o := ⟨some 71, .call { callee := .builtin .append, args := #[.tmp 64, .tmp 70], argTypes := #[56, 56] }, _, _, _, none⟩) rfl (fun K hK => ?_) ?_
        rotate_left
        · exact AllReadyH.nil
        refine step_append_fresh rfl _ _ 56 rfl w7.heap.size 76 i1 (.agg #[.int .i64 0, .string .empty]) 2 24 Try.underlying56 hj hy0 hy1 hy2 rfl (by decide) _ rfl ?own (.slice p3 nl[k].opens.length cap3) nl[k].opens.length (wrCells nl[k].opens) rfl ?rd (wr_one _) ?m1 ?m2 ?m3 ?_
        case own => (show Emp37 _ _ _; (repeat (first | with_reducible exact emp37_new | with_reducible exact emp37_new2 | with_reducible refine emp37_drew ?_ | with_reducible refine emp37_old ?_ _)))
        case rd => exact HOP5.out _ (by (repeat (first | with_reducible exact N6 | with_reducible exact N4 | with_reducible exact nb_refl _ | with_reducible refine nb_drew ?_ | with_reducible refine nb_alloc ?_ _)))
        case m1 => unfold maxLen; omega
        case m2 => omega
        case m3 => exact Below.size (by (repeat (first | with_reducible exact N6 | with_reducible exact N4 | with_reducible exact nb_refl _ | with_reducible refine nb_drew ?_ | with_reducible refine nb_alloc ?_ _)))
        intro p4 c4 w4 hO4 hg4
        have N4 : Below w7.heap.size w7 w4 := Below.grown (by (repeat (first | with_reducible exact N6 | with_reducible exact N4 | with_reducible exact nb_refl _ | with_reducible refine nb_drew ?_ | with_reducible refine nb_alloc ?_ _))) hg4 (Below.size (by (repeat (first | with_reducible exact N6 | with_reducible exact N4 | with_reducible exact nb_refl _ | with_reducible refine nb_drew ?_ | with_reducible refine nb_alloc ?_ _)))) (fun j hj => by have := Option.some.inj hj; (try simp only [World.size_alloc] at this); (first | omega | (simp [World.drew] at this; omega)))
        have X1 : Wr1 w4 (w7.heap.size + 1) ps bs := Wr1.kept (by (repeat (first | with_reducible exact Wr1.new | with_reducible exact Wr1.new2 | with_reducible refine Wr1.drew ?_ | with_reducible refine Wr1.old ?_ _))) hg4 (by simp)
        refine hK.out _ _ ?_ (fun hHeld => ?_)
        · exact HSS.out _ N4
        clear hK K
        try simp only [Act.put, List.setIfInBounds_toArray, List.set_cons_zero, List.set_cons_succ]
        refine wpAnyH_ready (rs := [17]) (by kernel_rfl) (by simp) ?_
        refine AllReadyH.cons (o := ⟨some 78, .call { callee := .builtin .append, args := #[.tmp 71, .tmp 77], argTypes := #[56, 56] }, _, _, _, none⟩) rfl (fun K hK => ?_) ?_
        rotate_left
        · exact AllReadyH.nil
        refine step_append_reads rfl _ _ 56 rfl w7.heap.size 76 i1 (.agg #[.int .i64 0, .string .empty]) 2 24 Try.underlying56 hj hy0 hy1 hy2 rfl (by decide) (.slice p4 nl[k].opens.length c4) nl[k].opens.length (wrCells nl[k].opens) rfl ?own _ 1 [.int .i64 ps, .string bs] rfl ?rd (two_one _ _) ?m1 ?m2 ?m3 ?_
        case own => first | exact hO4.out | exact owns_below hO4.out (below1 _ _)
        case rd => first | exact Wr1.reads X1 | exact Wr1.reads Wr1.new | exact Wr1.reads (Wr1.drew Wr1.new)
        case m1 => unfold maxLen; omega
        case m2 => omega
        case m3 => exact Below.size (by (repeat (first | with_reducible exact N6 | with_reducible exact N4 | with_reducible exact nb_refl _ | with_reducible refine nb_drew ?_ | with_reducible refine nb_alloc ?_ _)))
        intro p5 c5 w6 hO6 hg6
        have N6 : Below w7.heap.size w7 w6 := below_grown (by (repeat (first | with_reducible exact N6 | with_reducible exact N4 | with_reducible exact nb_refl _ | with_reducible refine nb_drew ?_ | with_reducible refine nb_alloc ?_ _))) (by first | exact hO4.out | exact owns_below hO4.out (below1 _ _)) hg6
        have s6 := HSS.out _ N6
        have x6 := below_cell N6 e2
        have y6 := (N6.frozen (p := ⟨g, k * 3 + 2, none⟩) lg).trans (HFZ.out (k * 3 + 2))
        have g6 := lt_of_cell x6
        refine hK.out _ _ ?_ (fun hHeld => ?_)
        · exact s6
        clear hK K
        try simp only [Act.put, List.setIfInBounds_toArray, List.set_cons_zero, List.set_cons_succ]
        refine wpAnyH_take (i := 18) (oi := ⟨some 79, .indexAddr 22 (.tmp 62) (.tmp 63), _, _, _, none⟩) (v := ?_) rfl (by kernel_rfl) (by kernel_rfl) (by kernel_rfl) (fun _ _ _ h => h) (Or.inl ⟨by rfl, ?_⟩) (by assumption) ?_
        rotate_left
        · (intro w hSw; (try dsimp only at hSw); go_simp; try with_reducible rfl)
        try simp only [Act.put, List.setIfInBounds_toArray, List.set_cons_zero, List.set_cons_succ]
        refine wpAnyH_take (i := 19) (oi := ⟨some 80, .fieldAddr 58 (.tmp 79) 2, _, _, _, none⟩) (v := ?_) rfl (by kernel_rfl) (by kernel_rfl) (by kernel_rfl) (fun _ _ _ h => h) (Or.inl ⟨by rfl, ?_⟩) (by assumption) ?_
        rotate_left
        · (intro w hSw; (try dsimp only at hSw); go_simp; try with_reducible rfl)
        try simp only [Act.put, List.setIfInBounds_toArray, List.set_cons_zero, List.set_cons_succ]
        refine wpAnyH_ready (rs := [20]) (by kernel_rfl) (by simp) ?_
        refine AllReadyH.cons (o := ⟨none, .store 56 (.tmp 80) (.tmp 78), _, _, _, none⟩) rfl (fun K hK => ?_) ?_
        rotate_left
        · exact AllReadyH.nil
        go_simp
        refine hK.out _ _ ?_ (fun hHeld => ?_)
        · exact HS1.out _ _ _ s6
        clear hK K
        try simp only [Act.put, List.setIfInBounds_toArray, List.set_cons_zero, List.set_cons_succ]
        refine wpAnyH_done (by kernel_rfl) ?_ _
        refine NoPanic.normal ?_
        have hnew : w6.ownsRow w7.heap.size 76 2 (.slice p5 (nl[k].opens.length + 1) c5) (nl[k].opens ++ [(⟨ps, bs⟩ : Wr)]).length (wrCells (nl[k].opens ++ [(⟨ps, bs⟩ : Wr)])) := owns_snoc (x := ⟨ps, bs⟩) hO6.out
        have hB : B ≤ w7.heap.size := by have := HB7.out.size; omega
        have h1 := put_open (HOWN7.out.below N6) rfl hk ⟨nl[k].name, nl[k].safe, (.slice p5 (nl[k].opens.length + 1) c5), nl[k].opens ++ [⟨ps, bs⟩]⟩ rfl rfl (owns_mono hnew hB)
        have h2 : w.grownBy (w6.setCell ⟨g, k * 3 + 2, none⟩ (.slice p5 (nl[k].opens.length + 1) c5)) (Value.slice q l.length cap).ownBlock := below_grownBy ((below_then HB7.out N6).setCell (show w.heap.size ≤ g by omega) _)
        have h3 := (HD7.out.keep N6).far hgw (k * 3 + 2) (.slice p5 (nl[k].opens.length + 1) c5)
        have h4 := (HR7.out.keep N6).far (show g ≠ w.heap.size + 1 + 1 by omega) (k * 3 + 2) (.slice p5 (nl[k].opens.length + 1) c5)
        clear hnew hO6 hO4 hg4 hg6 s6 x6 y6 g6 hHeld HSS HS1 HFZ
        clear N6 N4
        revert h1 h2 h3 h4
        generalize w6.setCell ⟨g, k * 3 + 2, none⟩ (.slice p5 (nl[k].opens.length + 1) c5) = W7
        intro hput hgr hd7 hr7
        have d7 := hd7.c
        have r7 := hr7.c
        have z7 := hr7.f
        have l7 := hd7.lt
        have l8 := hr7.lt
        have HP := Lib.hid hput
        have HG := Lib.hid hgr
        have HR := Lib.hid hr7
        clear hput hgr hd7 hr7
        go_wp2_with fail
        have hgf : w.grownBy (W7.setCell ⟨w.heap.size + 1 + 1, 0, none⟩ (.slice (some ⟨g, 0, none⟩) nl.length cap6)) (Value.slice q l.length cap).ownBlock := grown_set HG.out (.inr (by omega)) 0 _
        refine bodyPost_ret (v := .tuple #[.agg #[.slice (some ⟨g, 0, none⟩) nl.length cap6], .int .i64 0]) (by simp [results, Try.results47, go_sem, r7]) rfl
          ⟨_, _, rfl, ?_, HP.out.set HR.out _, fun h => absurd rfl h, hgf⟩
        exact put_new_core HNL.out HPL.out hk
      exact AllReadyH.nil
    refine AllReadyH.cons (o := ⟨some 77, .buildSlice 56 1 #[(0, .tmp 76)], _, _, _, none⟩) rfl (fun K hK => ?_) ?_
    · go_simp
      refine hK.out _ _ ?_ (fun hHeld => ?_)
      · first | (with_reducible refine HSS.out _ ?_; (repeat (first | with_reducible exact N6 | with_reducible exact N4 | with_reducible exact nb_refl _ | with_reducible refine nb_drew ?_ | with_reducible refine nb_alloc ?_ _))) | exact HSS.out _ (by (repeat (first | with_reducible exact N6 | with_reducible exact N4 | with_reducible exact nb_refl _ | with_reducible refine nb_drew ?_ | with_reducible refine nb_alloc ?_ _)))
      clear hK K
      try simp only [Act.put, List.setIfInBounds_toArray, List.set_cons_zero, List.set_cons_succ]
      refine wpAnyH_ready (rs := [3]) (by kernel_rfl) (by simp) ?_
      refine AllReadyH.cons (o := ⟨some 64, .buildSlice 56 0 #[], _, _, _, none⟩) rfl (fun K hK => ?_) ?_
      rotate_left
      · exact AllReadyH.nil
      go_simp
      refine hK.out _ _ ?_ (fun hHeld => ?_)
      · first | (with_reducible refine HSS.out _ ?_; (repeat (first | with_reducible exact N6 | with_reducible exact N4 | with_reducible exact nb_refl _ | with_reducible refine nb_drew ?_ | with_reducible refine nb_alloc ?_ _))) | exact HSS.out _ (by (repeat (first | with_reducible exact N6 | with_reducible exact N4 | with_reducible exact nb_refl _ | with_reducible refine nb_drew ?_ | with_reducible refine nb_alloc ?_ _)))
      clear hK K
      try simp only [Act.put, List.setIfInBounds_toArray, List.set_cons_zero, List.set_cons_succ]
      refine wpAnyH_ready (rs := [10]) (by kernel_rfl) (by simp) ?_
      refine AllReadyH.cons (o := ⟨some 71, .call { callee := .builtin .append, args := #[.tmp 64, .tmp 70], argTypes := #[56, 56] }, _, _, _, none⟩) rfl (fun K hK => ?_) ?_
      rotate_left
      · exact AllReadyH.nil
      refine step_append_fresh rfl _ _ 56 rfl w7.heap.size 76 i1 (.agg #[.int .i64 0, .string .empty]) 2 24 Try.underlying56 hj hy0 hy1 hy2 rfl (by decide) _ rfl ?own (.slice p3 nl[k].opens.length cap3) nl[k].opens.length (wrCells nl[k].opens) rfl ?rd (wr_one _) ?m1 ?m2 ?m3 ?_
      case own => (show Emp37 _ _ _; (repeat (first | with_reducible exact emp37_new | with_reducible exact emp37_new2 | with_reducible refine emp37_drew ?_ | with_reducible refine emp37_old ?_ _)))
      case rd => exact HOP5.out _ (by (repeat (first | with_reducible exact N6 | with_reducible exact N4 | with_reducible exact nb_refl _ | with_reducible refine nb_drew ?_ | with_reducible refine nb_alloc ?_ _)))
      case m1 => unfold maxLen; omega
      case m2 => omega
      case m3 => exact Below.size (by (repeat (first | with_reducible exact N6 | with_reducible exact N4 | with_reducible exact nb_refl _ | with_reducible refine nb_drew ?_ | with_reducible refine nb_alloc ?_ _)))
      intro p4 c4 w4 hO4 hg4
      have N4 : Below w7.heap.size w7 w4 := Below.grown (by (repeat (first | with_reducible exact N6 | with_reducible exact N4 | with_reducible exact nb_refl _ | with_reducible refine nb_drew ?_ | with_reducible refine nb_alloc ?_ _))) hg4 (Below.size (by (repeat (first | with_reducible exact N6 | with_reducible exact N4 | with_reducible exact nb_refl _ | with_reducible refine nb_drew ?_ | with_reducible refine nb_alloc ?_ _)))) (fun j hj => by have := Option.some.inj hj; (try simp only [World.size_alloc] at this); (first | omega | (simp [World.drew] at this; omega)))
      have X1 : Wr1 w4 (w7.heap.size) ps bs := Wr1.kept (by (repeat (first | with_reducible exact Wr1.new | with_reducible exact Wr1.new2 | with_reducible refine Wr1.drew ?_ | with_reducible refine Wr1.old ?_ _))) hg4 (by simp)
      refine hK.out _ _ ?_ (fun hHeld => ?_)
      · exact HSS.out _ N4
      clear hK K
      try simp only [Act.put, List.setIfInBounds_toArray, List.set_cons_zero, List.set_cons_succ]
      refine wpAnyH_ready (rs := [17]) (by kernel_rfl) (by simp) ?_
      refine AllReadyH.cons (o := ⟨some 78, .call { callee := .builtin .append, args := #[.tmp 71, .tmp 77], argTypes := #[56, 56] }, _, _, _, none⟩) rfl (fun K hK => ?_) ?_
      rotate_left
      · exact AllReadyH.nil
      refine step_append_reads rfl _ _ 56 rfl w7.heap.size 76 i1 (.agg #[.int .i64 0, .string .empty]) 2 24 Try.underlying56 hj hy0 hy1 hy2 rfl (by decide) (.slice p4 nl[k].opens.length c4) nl[k].opens.length (wrCells nl[k].opens) rfl ?own _ 1 [.int .i64 ps, .string bs] rfl ?rd (two_one _ _) ?m1 ?m2 ?m3 ?_
      case own => first | exact hO4.out | exact owns_below hO4.out (below1 _ _)
      case rd => first | exact Wr1.reads X1 | exact Wr1.reads Wr1.new | exact Wr1.reads (Wr1.drew Wr1.new)
      case m1 => unfold maxLen; omega
      case m2 => omega
      case m3 => exact Below.size (by (repeat (first | with_reducible exact N6 | with_reducible exact N4 | with_reducible exact nb_refl _ | with_reducible refine nb_drew ?_ | with_reducible refine nb_alloc ?_ _)))
      intro p5 c5 w6 hO6 hg6
      have N6 : Below w7.heap.size w7 w6 := below_grown (by (repeat (first | with_reducible exact N6 | with_reducible exact N4 | with_reducible exact nb_refl _ | with_reducible refine nb_drew ?_ | with_reducible refine nb_alloc ?_ _))) (by first | exact hO4.out | exact owns_below hO4.out (below1 _ _)) hg6
      have s6 := HSS.out _ N6
      have x6 := below_cell N6 e2
      have y6 := (N6.frozen (p := ⟨g, k * 3 + 2, none⟩) lg).trans (HFZ.out (k * 3 + 2))
      have g6 := lt_of_cell x6
      refine hK.out _ _ ?_ (fun hHeld => ?_)
      · exact s6
      clear hK K
      try simp only [Act.put, List.setIfInBounds_toArray, List.set_cons_zero, List.set_cons_succ]
      refine wpAnyH_take (i := 18) (oi := ⟨some 79, .indexAddr 22 (.tmp 62) (.tmp 63), _, _, _, none⟩) (v := ?_) rfl (by kernel_rfl) (by kernel_rfl) (by kernel_rfl) (fun _ _ _ h => h) (Or.inl ⟨by rfl, ?_⟩) (by assumption) ?_
      rotate_left
      · (intro w hSw; (try dsimp only at hSw); go_simp; try with_reducible rfl)
      try simp only [Act.put, List.setIfInBounds_toArray, List.set_cons_zero, List.set_cons_succ]
      refine wpAnyH_take (i := 19) (oi := ⟨some 80, .fieldAddr 58 (.tmp 79) 2, _, _, _, none⟩) (v := ?_) rfl (by kernel_rfl) (by kernel_rfl) (by kernel_rfl) (fun _ _ _ h => h) (Or.inl ⟨by rfl, ?_⟩) (by assumption) ?_
      rotate_left
      · (intro w hSw; (try dsimp only at hSw); go_simp; try with_reducible rfl)
      try simp only [Act.put, List.setIfInBounds_toArray, List.set_cons_zero, List.set_cons_succ]
      refine wpAnyH_ready (rs := [20]) (by kernel_rfl) (by simp) ?_
      refine AllReadyH.cons (o := ⟨none, .store 56 (.tmp 80) (.tmp 78), _, _, _, none⟩) rfl (fun K hK => ?_) ?_
      rotate_left
      · exact AllReadyH.nil
      go_simp
      refine hK.out _ _ ?_ (fun hHeld => ?_)
      · exact HS1.out _ _ _ s6
      clear hK K
      try simp only [Act.put, List.setIfInBounds_toArray, List.set_cons_zero, List.set_cons_succ]
      refine wpAnyH_done (by kernel_rfl) ?_ _
      refine NoPanic.normal ?_
      have hnew : w6.ownsRow w7.heap.size 76 2 (.slice p5 (nl[k].opens.length + 1) c5) (nl[k].opens ++ [(⟨ps, bs⟩ : Wr)]).length (wrCells (nl[k].opens ++ [(⟨ps, bs⟩ : Wr)])) := owns_snoc (x := ⟨ps, bs⟩) hO6.out
      have hB : B ≤ w7.heap.size := by have := HB7.out.size; omega
      have h1 := put_open (HOWN7.out.below N6) rfl hk ⟨nl[k].name, nl[k].safe, (.slice p5 (nl[k].opens.length + 1) c5), nl[k].opens ++ [⟨ps, bs⟩]⟩ rfl rfl (owns_mono hnew hB)
      have h2 : w.grownBy (w6.setCell ⟨g, k * 3 + 2, none⟩ (.slice p5 (nl[k].opens.length + 1) c5)) (Value.slice q l.length cap).ownBlock := below_grownBy ((below_then HB7.out N6).setCell (show w.heap.size ≤ g by omega) _)
      have h3 := (HD7.out.keep N6).far hgw (k * 3 + 2) (.slice p5 (nl[k].opens.length + 1) c5)
      have h4 := (HR7.out.keep N6).far (show g ≠ w.heap.size + 1 + 1 by omega) (k * 3 + 2) (.slice p5 (nl[k].opens.length + 1) c5)
      clear hnew hO6 hO4 hg4 hg6 s6 x6 y6 g6 hHeld HSS HS1 HFZ
      clear N6 N4
      revert h1 h2 h3 h4
      generalize w6.setCell ⟨g, k * 3 + 2, none⟩ (.slice p5 (nl[k].opens.length + 1) c5) = W7
      intro hput hgr hd7 hr7
      have d7 := hd7.c
      have r7 := hr7.c
      have z7 := hr7.f
      have l7 := hd7.lt
      have l8 := hr7.lt
      have HP := Lib.hid hput
      have HG := Lib.hid hgr
      have HR := Lib.hid hr7
      clear hput hgr hd7 hr7
      go_wp2_with fail
      have hgf : w.grownBy (W7.setCell ⟨w.heap.size + 1 + 1, 0, none⟩ (.slice (some ⟨g, 0, none⟩) nl.length cap6)) (Value.slice q l.length cap).ownBlock := grown_set HG.out (.inr (by omega)) 0 _
      refine bodyPost_ret (v := .tuple #[.agg #[.slice (some ⟨g, 0, none⟩) nl.length cap6], .int .i64 0]) (by simp [results, Try.results47, go_sem, r7]) rfl
        ⟨_, _, rfl, ?_, HP.out.set HR.out _, fun h => absurd rfl h, hgf⟩
      exact put_new_core HNL.out HPL.out hk
    exact AllReadyH.nil
  refine AllReadyH.cons (o := ⟨some 77, .buildSlice 56 1 #[(0, .tmp 76)], _, _, _, none⟩) rfl (fun K hK => ?_) ?_
  · go_simp
    refine hK.out _ _ ?_ (fun hHeld => ?_)
    · first | (with_reducible refine HSS.out _ ?_; (repeat (first | with_reducible exact N6 | with_reducible exact N4 | with_reducible exact nb_refl _ | with_reducible refine nb_drew ?_ | with_reducible refine nb_alloc ?_ _))) | exact HSS.out _ (by (repeat (first | with_reducible exact N6 | with_reducible exact N4 | with_reducible exact nb_refl _ | with_reducible refine nb_drew ?_ | with_reducible refine nb_alloc ?_ _)))
    clear hK K
    try simp only [Act.put, List.setIfInBounds_toArray, List.set_cons_zero, List.set_cons_succ]
    refine wpAnyH_ready (rs := [3, 9]) (by kernel_rfl) (by simp) ?_
    refine AllReadyH.cons (o := ⟨some 64, .buildSlice 56 0 #[], _, _, _, none⟩) rfl (fun K hK => ?_) ?_
    · go_simp
      refine hK.out _ _ ?_ (fun hHeld => ?_)
      · first | (with_reducible refine HSS.out _ ?_; (repeat (first | with_reducible exact N6 | with_reducible exact N4 | with_reducible exact nb_refl _ | with_reducible refine nb_drew ?_ | with_reducible refine nb_alloc ?_ _))) | exact HSS.out _ (by (repeat (first | with_reducible exact N6 | with_reducible exact N4 | with_reducible exact nb_refl _ | with_reducible refine nb_drew ?_ | with_reducible refine nb_alloc ?_ _)))
      clear hK K
      try simp only [Act.put, List.setIfInBounds_toArray, List.set_cons_zero, List.set_cons_succ]
      refine wpAnyH_ready (rs := [9]) (by kernel_rfl) (by simp) ?_
      refine AllReadyH.cons (o := ⟨some 70, .load 56 (.tmp 69), _, _, _, none⟩) rfl (fun K hK => ?_) ?_
      rotate_left
      · exact AllReadyH.nil
      have hG : ∀ W, Below w7.heap.size w7 W → W.cell? ⟨g, k * 3 + 2, none⟩ = some (.slice p3 nl[k].opens.length cap3) := fun W h => below_cell h e2
      have hG1 := hG _ (nb_drew (nb_refl w7))
      go_simp
      refine hK.out _ _ ?_ (fun hHeld => ?_)
      · first | (with_reducible refine HSS.out _ ?_; (repeat (first | with_reducible exact N6 | with_reducible exact N4 | with_reducible exact nb_refl _ | with_reducible refine nb_drew ?_ | with_reducible refine nb_alloc ?_ _))) | exact HSS.out _ (by (repeat (first | with_reducible exact N6 | with_reducible exact N4 | with_reducible exact nb_refl _ | with_reducible refine nb_drew ?_ | with_reducible refine nb_alloc ?_ _)))
      clear hK K
      try simp only [Act.put, List.setIfInBounds_toArray, List.set_cons_zero, List.set_cons_succ]
      refine wpAnyH_ready (rs := [10]) (by kernel_rfl) (by simp) ?_
      refine AllReadyH.cons (o := ⟨some 71, .call { callee := .builtin .append, args := #[.tmp 64, .tmp 70], argTypes := #[56, 56] }, _, _, _, none⟩) rfl (fun K hK => ?_) ?_
      rotate_left
      · exact AllReadyH.nil
      refine step_append_fresh rfl _ _ 56 rfl w7.heap.size 76 i1 (.agg #[.int .i64 0, .string .empty]) 2 24 Try.underlying56 hj hy0 hy1 hy2 rfl (by decide) _ rfl ?own (.slice p3 nl[k].opens.length cap3) nl[k].opens.length (wrCells nl[k].opens) rfl ?rd (wr_one _) ?m1 ?m2 ?m3 ?_
      case own => (show Emp37 _ _ _; (repeat (first | with_reducible exact emp37_new | with_reducible exact emp37_new2 | with_reducible refine emp37_drew ?_ | with_reducible refine emp37_old ?_ _)))
      case rd => exact HOP5.out _ (by (repeat (first | with_reducible exact N6 | with_reducible exact N4 | with_reducible exact nb_refl _ | with_reducible refine nb_drew ?_ | with_reducible refine nb_alloc ?_ _)))
      case m1 => unfold maxLen; omega
      case m2 => omega
      case m3 => exact Below.size (by (repeat (first | with_reducible exact N6 | with_reducible exact N4 | with_reducible exact nb_refl _ | with_reducible refine nb_drew ?_ | with_reducible refine nb_alloc ?_ _)))
      intro p4 c4 w4 hO4 hg4
      have N4 : Below w7.heap.size w7 w4 := Below.grown (by (repeat (first | with_reducible exact N6 | with_reducible exact N4 | with_reducible exact nb_refl _ | with_reducible refine nb_drew ?_ | with_reducible refine nb_alloc ?_ _))) hg4 (Below.size (by (repeat (first | with_reducible exact N6 | with_reducible exact N4 | with_reducible exact nb_refl _ | with_reducible refine nb_drew ?_ | with_reducible refine nb_alloc ?_ _)))) (fun j hj => by have := Option.some.inj hj; (try simp only [World.size_alloc] at this); (first | omega | (simp [World.drew] at this; omega)))
      have X1 : Wr1 w4 (w7.heap.size) ps bs := Wr1.kept (by (repeat (first | with_reducible exact Wr1.new | with_reducible exact Wr1.new2 | with_reducible refine Wr1.drew ?_ | with_reducible refine Wr1.old ?_ _))) hg4 (by simp)
      refine hK.out _ _ ?_ (fun hHeld => ?_)
      · exact HSS.out _ N4
      clear hK K
      try simp only [Act.put, List.setIfInBounds_toArray, List.set_cons_zero, List.set_cons_succ]
      refine wpAnyH_ready (rs := [17]) (by kernel_rfl) (by simp) ?_
      refine AllReadyH.cons (o := ⟨some 78, .call { callee := .builtin .append, args := #[.tmp 71, .tmp 77], argTypes := #[56, 56] }, _, _, _, none⟩) rfl (fun K hK => ?_) ?_
      rotate_left
      · exact AllReadyH.nil
      refine step_append_reads rfl _ _ 56 rfl w7.heap.size 76 i1 (.agg #[.int .i64 0, .string .empty]) 2 24 Try.underlying56 hj hy0 hy1 hy2 rfl (by decide) (.slice p4 nl[k].opens.length c4) nl[k].opens.length (wrCells nl[k].opens) rfl ?own _ 1 [.int .i64 ps, .string bs] rfl ?rd (two_one _ _) ?m1 ?m2 ?m3 ?_
      case own => first | exact hO4.out | exact owns_below hO4.out (below1 _ _)
      case rd => first | exact Wr1.reads X1 | exact Wr1.reads Wr1.new | exact Wr1.reads (Wr1.drew Wr1.new)
      case m1 => unfold maxLen; omega
      case m2 => omega
      case m3 => exact Below.size (by (repeat (first | with_reducible exact N6 | with_reducible exact N4 | with_reducible exact nb_refl _ | with_reducible refine nb_drew ?_ | with_reducible refine nb_alloc ?_ _)))
      intro p5 c5 w6 hO6 hg6
      have N6 : Below w7.heap.size w7 w6 := below_grown (by (repeat (first | with_reducible exact N6 | with_reducible exact N4 | with_reducible exact nb_refl _ | with_reducible refine nb_drew ?_ | with_reducible refine nb_alloc ?_ _))) (by first | exact hO4.out | exact owns_below hO4.out (below1 _ _)) hg6
      have s6 := HSS.out _ N6
      have x6 := below_cell N6 e2
      have y6 := (N6.frozen (p := ⟨g, k * 3 + 2, none⟩) lg).trans (HFZ.out (k * 3 + 2))
      have g6 := lt_of_cell x6
      refine hK.out _ _ ?_ (fun hHeld => ?_)
      · exact s6
      clear hK K
      try simp only [Act.put, List.setIfInBounds_toArray, List.set_cons_zero, List.set_cons_succ]
      refine wpAnyH_take (i := 18) (oi := ⟨some 79, .indexAddr 22 (.tmp 62) (.tmp 63), _, _, _, none⟩) (v := ?_) rfl (by kernel_rfl) (by kernel_rfl) (by kernel_rfl) (fun _ _ _ h => h) (Or.inl ⟨by rfl, ?_⟩) (by assumption) ?_
      rotate_left
      · (intro w hSw; (try dsimp only at hSw); go_simp; try with_reducible rfl)
      try simp only [Act.put, List.setIfInBounds_toArray, List.set_cons_zero, List.set_cons_succ]
      refine wpAnyH_take (i := 19) (oi := ⟨some 80, .fieldAddr 58 (.tmp 79) 2, _, _, _, none⟩) (v := ?_) rfl (by kernel_rfl) (by kernel_rfl) (by kernel_rfl) (fun _ _ _ h => h) (Or.inl ⟨by rfl, ?_⟩) (by assumption) ?_
      rotate_left
      · (intro w hSw; (try dsimp only at hSw); go_simp; try with_reducible rfl)
      try simp only [Act.put, List.setIfInBounds_toArray, List.set_cons_zero, List.set_cons_succ]
      refine wpAnyH_ready (rs := [20]) (by kernel_rfl) (by simp) ?_
      refine AllReadyH.cons (o := ⟨none, .store 56 (.tmp 80) (.tmp 78), _, _, _, none⟩) rfl (fun K hK => ?_) ?_
      rotate_left
      · exact AllReadyH.nil
      go_simp
      refine hK.out _ _ ?_ (fun hHeld => ?_)
      · exact HS1.out _ _ _ s6
      clear hK K
      try simp only [Act.put, List.setIfInBounds_toArray, List.set_cons_zero, List.set_cons_succ]
      refine wpAnyH_done (by kernel_rfl) ?_ _
      refine NoPanic.normal ?_
      have hnew : w6.ownsRow w7.heap.size 76 2 (.slice p5 (nl[k].opens.length + 1) c5) (nl[k].opens ++ [(⟨ps, bs⟩ : Wr)]).length (wrCells (nl[k].opens ++ [(⟨ps, bs⟩ : Wr)])) := owns_snoc (x := ⟨ps, bs⟩) hO6.out
      have hB : B ≤ w7.heap.size := by have := HB7.out.size; omega
      have h1 := put_open (HOWN7.out.below N6) rfl hk ⟨nl[k].name, nl[k].safe, (.slice p5 (nl[k].opens.length + 1) c5), nl[k].opens ++ [⟨ps, bs⟩]⟩ rfl rfl (owns_mono hnew hB)
      have h2 : w.grownBy (w6.setCell ⟨g, k * 3 + 2, none⟩ (.slice p5 (nl[k].opens.length + 1) c5)) (Value.slice q l.length cap).ownBlock := below_grownBy ((below_then HB7.out N6).setCell (show w.heap.size ≤ g by omega) _)
      have h3 := (HD7.out.keep N6).far hgw (k * 3 + 2) (.slice p5 (nl[k].opens.length + 1) c5)
      have h4 := (HR7.out.keep N6).far (show g ≠ w.heap.size + 1 + 1 by omega) (k * 3 + 2) (.slice p5 (nl[k].opens.length + 1) c5)
      clear hnew hO6 hO4 hg4 hg6 s6 x6 y6 g6 hHeld HSS HS1 HFZ
      clear N6 N4
      revert h1 h2 h3 h4
      generalize w6.setCell ⟨g, k * 3 + 2, none⟩ (.slice p5 (nl[k].opens.length + 1) c5) = W7
      intro hput hgr hd7 hr7
      have d7 := hd7.c
      have r7 := hr7.c
      have z7 := hr7.f
      have l7 := hd7.lt
      have l8 := hr7.lt
      have HP := Lib.hid hput
      have HG := Lib.hid hgr
      have HR := Lib.hid hr7
      clear hput hgr hd7 hr7
      go_wp2_with fail
      have hgf : w.grownBy (W7.setCell ⟨w.heap.size + 1 + 1, 0, none⟩ (.slice (some ⟨g, 0, none⟩) nl.length cap6)) (Value.slice q l.length cap).ownBlock := grown_set HG.out (.inr (by omega)) 0 _
      refine bodyPost_ret (v := .tuple #[.agg #[.slice (some ⟨g, 0, none⟩) nl.length cap6], .int .i64 0]) (by simp [results, Try.results47, go_sem, r7]) rfl
        ⟨_, _, rfl, ?_, HP.out.set HR.out _, fun h => absurd rfl h, hgf⟩
      exact put_new_core HNL.out HPL.out hk
    refine AllReadyH.cons (o := ⟨some 70, .load 56 (.tmp 69), _, _, _, none⟩) rfl (fun K hK => ?_) ?_
    · have hG : ∀ W, Below w7.heap.size w7 W → W.cell? ⟨g, k * 3 + 2, none⟩ = some (.slice p3 nl[k].opens.length cap3) := fun W h => below_cell h e2
      have hG1 := hG _ (nb_drew (nb_refl w7))
      go_simp
      refine hK.out _ _ ?_ (fun hHeld => ?_)
      · first | (with_reducible refine HSS.out _ ?_; (repeat (first | with_reducible exact N6 | with_reducible exact N4 | with_reducible exact nb_refl _ | with_reducible refine nb_drew ?_ | with_reducible refine nb_alloc ?_ _))) | exact HSS.out _ (by (repeat (first | with_reducible exact N6 | with_reducible exact N4 | with_reducible exact nb_refl _ | with_reducible refine nb_drew ?_ | with_reducible refine nb_alloc ?_ _)))
      clear hK K
      try simp only [Act.put, List.setIfInBounds_toArray, List.set_cons_zero, List.set_cons_succ]
      refine wpAnyH_ready (rs := [3]) (by kernel_rfl) (by simp) ?_
      refine AllReadyH.cons (o := ⟨some 64, .buildSlice 56 0 #[], _, _, _, none⟩) rfl (fun K hK => ?_) ?_
      rotate_left
      · exact AllReadyH.nil
      go_simp
      refine hK.out _ _ ?_ (fun hHeld => ?_)
      · first | (with_reducible refine HSS.out _ ?_; (repeat (first | with_reducible exact N6 | with_reducible exact N4 | with_reducible exact nb_refl _ | with_reducible refine nb_drew ?_ | with_reducible refine nb_alloc ?_ _))) | exact HSS.out _ (by (repeat (first | with_reducible exact N6 | with_reducible exact N4 | with_reducible exact nb_refl _ | with_reducible refine nb_drew ?_ | with_reducible refine nb_alloc ?_ _)))
      clear hK K
      try simp only [Act.put, List.setIfInBounds_toArray, List.set_cons_zero, List.set_cons_succ]
      refine wpAnyH_ready (rs := [10]) (by kernel_rfl) (by simp) ?_
      refine AllReadyH.cons (o := ⟨some 71, .call { callee := .builtin .append, args := #[.tmp 64, .tmp 70], argTypes := #[56, 56] }, _, _, _, none⟩) rfl (fun K hK => ?_) ?_
      rotate_left
      · exact AllReadyH.nil
      refine step_append_fresh rfl _ _ 56 rfl w7.heap.size 76 i1 (.agg #[.int .i64 0, .string .empty]) 2 24 Try.underlying56 hj hy0 hy1 hy2 rfl (by decide) _ rfl ?own (.slice p3 nl[k].opens.length cap3) nl[k].opens.length (wrCells nl[k].opens) rfl ?rd (wr_one _) ?m1 ?m2 ?m3 ?_
      case own => (show Emp37 _ _ _; (repeat (first | with_reducible exact emp37_new | with_reducible exact emp37_new2 | with_reducible refine emp37_drew ?_ | with_reducible refine emp37_old ?_ _)))
      case rd => exact HOP5.out _ (by (repeat (first | with_reducible exact N6 | with_reducible exact N4 | with_reducible exact nb_refl _ | with_reducible refine nb_drew ?_ | with_reducible refine nb_alloc ?_ _)))
      case m1 => unfold maxLen; omega
      case m2 => omega
      case m3 => exact Below.size (by (repeat (first | with_reducible exact N6 | with_reducible exact N4 | with_reducible exact nb_refl _ | with_reducible refine nb_drew ?_ | with_reducible refine nb_alloc ?_ _)))
      intro p4 c4 w4 hO4 hg4
      have N4 : Below w7.heap.size w7 w4 := Below.grown (by (repeat (first | with_reducible exact N6 | with_reducible exact N4 | with_reducible exact nb_refl _ | with_reducible refine nb_drew ?_ | with_reducible refine nb_alloc ?_ _))) hg4 (Below.size (by (repeat (first | with_reducible exact N6 | with_reducible exact N4 | with_reducible exact nb_refl _ | with_reducible refine nb_drew ?_ | with_reducible refine nb_alloc ?_ _)))) (fun j hj => by have := Option.some.inj hj; (try simp only [World.size_alloc] at this); (first | omega | (simp [World.drew] at this; omega)))
      have X1 : Wr1 w4 (w7.heap.size) ps bs := Wr1.kept (by (repeat (first | with_reducible exact Wr1.new | with_reducible exact Wr1.new2 | with_reducible refine Wr1.drew ?_ | with_reducible refine Wr1.old ?_ _))) hg4 (by simp)
      refine hK.out _ _ ?_ (fun hHeld => ?_)
      · exact HSS.out _ N4
      clear hK K
      try simp only [Act.put, List.setIfInBounds_toArray, List.set_cons_zero, List.set_cons_succ]
      refine wpAnyH_ready (rs := [17]) (by kernel_rfl) (by simp) ?_
      refine AllReadyH.cons (o := ⟨some 78, .call { callee := .builtin .append, args := #[.tmp 71, .tmp 77], argTypes := #[56, 56] }, _, _, _, none⟩) rfl (fun K hK => ?_) ?_
      rotate_left
      · exact AllReadyH.nil
      refine step_append_reads rfl _ _ 56 rfl w7.heap.size 76 i1 (.agg #[.int .i64 0, .string .empty]) 2 24 Try.underlying56 hj hy0 hy1 hy2 rfl (by decide) (.slice p4 nl[k].opens.length c4) nl[k].opens.length (wrCells nl[k].opens) rfl ?own _ 1 [.int .i64 ps, .string bs] rfl ?rd (two_one _ _) ?m1 ?m2 ?m3 ?_
      case own => first | exact hO4.out | exact owns_below hO4.out (below1 _ _)
      case rd => first | exact Wr1.reads X1 | exact Wr1.reads Wr1.new | exact Wr1.reads (Wr1.drew Wr1.new)
      case m1 => unfold maxLen; omega
      case m2 => omega
      case m3 => exact Below.size (by (repeat (first | with_reducible exact N6 | with_reducible exact N4 | with_reducible exact nb_refl _ | with_reducible refine nb_drew ?_ | with_reducible refine nb_alloc ?_ _)))
      intro p5 c5 w6 hO6 hg6
      have N6 : Below w7.heap.size w7 w6 := below_grown (by (repeat (first | with_reducible exact N6 | with_reducible exact N4 | with_reducible exact nb_refl _ | with_reducible refine nb_drew ?_ | with_reducible refine nb_alloc ?_ _))) (by first | exact hO4.out | exact owns_below hO4.out (below1 _ _)) hg6
      have s6 := HSS.out _ N6
      have x6 := below_cell N6 e2
      have y6 := (N6.frozen (p := ⟨g, k * 3 + 2, none⟩) lg).trans (HFZ.out (k * 3 + 2))
      have g6 := lt_of_cell x6
      refine hK.out _ _ ?_ (fun hHeld => ?_)
      · exact s6
      clear hK K
      try simp only [Act.put, List.setIfInBounds_toArray, List.set_cons_zero, List.set_cons_succ]
      refine wpAnyH_take (i := 18) (oi := ⟨some 79, .indexAddr 22 (.tmp 62) (.tmp 63), _, _, _, none⟩) (v := ?_) rfl (by kernel_rfl) (by kernel_rfl) (by kernel_rfl) (fun _ _ _ h => h) (Or.inl ⟨by rfl, ?_⟩) (by assumption) ?_
      rotate_left
      · (intro w hSw; (try dsimp only at hSw); go_simp; try with_reducible rfl)
      try simp only [Act.put, List.setIfInBounds_toArray, List.set_cons_zero, List.set_cons_succ]
      refine wpAnyH_take (i := 19) (oi := ⟨some 80, .fieldAddr 58 (.tmp 79) 2, _, _, _, none⟩) (v := ?_) rfl (by kernel_rfl) (by kernel_rfl) (by kernel_rfl) (fun _ _ _ h => h) (Or.inl ⟨by rfl, ?_⟩) (by assumption) ?_
      rotate_left
      · (intro w hSw; (try dsimp only at hSw); go_simp; try with_reducible rfl)
      try simp only [Act.put, List.setIfInBounds_toArray, List.set_cons_zero, List.set_cons_succ]
      refine wpAnyH_ready (rs := [20]) (by kernel_rfl) (by simp) ?_
      refine AllReadyH.cons (o := ⟨none, .store 56 (.tmp 80) (.tmp 78), _, _, _, none⟩) rfl (fun K hK => ?_) ?_
      rotate_left
      · exact AllReadyH.nil
      go_simp
      refine hK.out _ _ ?_ (fun hHeld => ?_)
      · exact HS1.out _ _ _ s6
      clear hK K
      try simp only [Act.put, List.setIfInBounds_toArray, List.set_cons_zero, List.set_cons_succ]
      refine wpAnyH_done (by kernel_rfl) ?_ _
      refine NoPanic.normal ?_
      have hnew : w6.ownsRow w7.heap.size 76 2 (.slice p5 (nl[k].opens.length + 1) c5) (nl[k].opens ++ [(⟨ps, bs⟩ : Wr)]).length (wrCells (nl[k].opens ++ [(⟨ps, bs⟩ : Wr)])) := owns_snoc (x := ⟨ps, bs⟩) hO6.out
      have hB : B ≤ w7.heap.size := by have := HB7.out.size; omega
      have h1 := put_open (HOWN7.out.below N6) rfl hk ⟨nl[k].name, nl[k].safe, (.slice p5 (nl[k].opens.length + 1) c5), nl[k].opens ++ [⟨ps, bs⟩]⟩ rfl rfl (owns_mono hnew hB)
      have h2 : w.grownBy (w6.setCell ⟨g, k * 3 + 2, none⟩ (.slice p5 (nl[k].opens.length + 1) c5)) (Value.slice q l.length cap).ownBlock := below_grownBy ((below_then HB7.out N6).setCell (show w.heap.size ≤ g by omega) _)
      have h3 := (HD7.out.keep N6).far hgw (k * 3 + 2) (.slice p5 (nl[k].opens.length + 1) c5)
      have h4 := (HR7.out.keep N6).far (show g ≠ w.heap.size + 1 + 1 by omega) (k * 3 + 2) (.slice p5 (nl[k].opens.length + 1) c5)
      clear hnew hO6 hO4 hg4 hg6 s6 x6 y6 g6 hHeld HSS HS1 HFZ
      clear N6 N4
      revert h1 h2 h3 h4
      generalize w6.setCell ⟨g, k * 3 + 2, none⟩ (.slice p5 (nl[k].opens.length + 1) c5) = W7
      intro hput hgr hd7 hr7
      have d7 := hd7.c
      have r7 := hr7.c
      have z7 := hr7.f
      have l7 := hd7.lt
      have l8 := hr7.lt
      have HP := Lib.hid hput
      have HG := Lib.hid hgr
      have HR := Lib.hid hr7
      clear hput hgr hd7 hr7
      go_wp2_with fail
      have hgf : w.grownBy (W7.setCell ⟨w.heap.size + 1 + 1, 0, none⟩ (.slice (some ⟨g, 0, none⟩) nl.length cap6)) (Value.slice q l.length cap).ownBlock := grown_set HG.out (.inr (by omega)) 0 _
      refine bodyPost_ret (v := .tuple #[.agg #[.slice (some ⟨g, 0, none⟩) nl.length cap6], .int .i64 0]) (by simp [results, Try.results47, go_sem, r7]) rfl
        ⟨_, _, rfl, ?_, HP.out.set HR.out _, fun h => absurd rfl h, hgf⟩
      exact put_new_core HNL.out HPL.out hk
    exact AllReadyH.nil
  exact AllReadyH.nil
end Go.Proofs.Ytkecjopojnllnaa
namespace Go.Proofs.Ytkecjopojnllnaa
open Go.RowKit Go.Deep Go.Joins
theorem one_put (l : List Rw) (v : Value) (B : Nat) (o : DOp) (w : World) (hown : OwnR w B v l) (hB : B ≤ w.heap.size) (hk : o.kind = 1) (hnm : nameB o.name = true) (hn : o.name.size ≤ 1099511627776) (hm : l.length ≤ 1099511627776) (hol : ∀ r ∈ l, r.opens.length + 1 ≤ 1099511627776) :
    Calls Try.prog 47 #[.agg #[v], .agg #[.int .i64 o.kind, .string o.name, .int .i64 o.pos, .string o.bytes]] w (One w B v (putF (l.map core) o).1 (putF (l.map core) o).2) := by
  rw [hk]
  unfold putF
  obtain ⟨kk, hkk⟩ : ∃ kk, idx (sameName o.name) l = kk := ⟨_, rfl⟩
  by_cases h1 : o.pos < 0
  · rw [if_pos h1]
    exact one_putbad l v B o.name o.pos o.bytes w hown hnm hn hm kk hkk 1 (.inl ⟨h1, rfl⟩)
  rw [if_neg h1]
  by_cases h2 : 1048576 < o.pos ∨ (o.bytes.size : Int) > 1048576 - o.pos
  · rw [if_pos h2]
    refine one_putbad l v B o.name o.pos o.bytes w hown hnm hn hm kk hkk 2 ?_
    by_cases h3 : 1048576 < o.pos
    · exact .inr (.inl ⟨by omega, h3, rfl⟩)
    · exact .inr (.inr ⟨by omega, by omega, by omega, rfl⟩)
  rw [if_neg h2, ← idx_core]
  rcases idx_cases (sameName o.name) l with ⟨_, hi⟩ | ⟨k, hkl, hi, _⟩
  · rw [if_pos (by omega), List.length_map]
    by_cases h3 : 32 ≤ l.length
    · rw [if_pos h3]
      exact one_putfull l v B o.name o.pos o.bytes w hown hnm hn hm hi (by omega) (by omega) (by omega) h3
    · rw [if_neg h3]
      exact one_putnew l v B o.name o.pos o.bytes w hown hnm hn hm hB hi (by omega) (by omega) (by omega) (by omega)
  · rw [if_neg (by omega), hi]
    have hk2 : ((k : Int)).toNat = k := by omega
    rw [hk2]
    have e : (l.map core).modify k (fun f => ⟨f.name, f.safe, f.opens ++ [⟨o.pos, o.bytes⟩]⟩) = (l.map core).set k ⟨l[k].name, l[k].safe, l[k].opens ++ [⟨o.pos, o.bytes⟩]⟩ := by
      apply List.ext_getElem?
      intro j
      rw [List.getElem?_modify, List.getElem?_set]
      by_cases e : k = j
      · subst e
        simp [hkl, core]
      · simp [e]
    rw [e]
    exact one_putthere l v B o.name o.pos o.bytes w hown hnm hn hm k hkl hi (by omega) (by omega) (by omega) (hol _ (List.getElem_mem _))
theorem one_any (l : List Rw) (v : Value) (B : Nat) (o : DOp) (w : World) (hown : OwnR w B v l) (hB : B ≤ w.heap.size) (hn : o.name.size ≤ 1099511627776) (hm : l.length ≤ 1099511627776) (hS : FitsS (l.map core)) (hol : ∀ r ∈ l, r.opens.length + 1 ≤ 1099511627776) :
    Calls Try.prog 47 #[.agg #[v], .agg #[.int .i64 o.kind, .string o.name, .int .i64 o.pos, .string o.bytes]] w (One w B v (changeF (l.map core) o).1 (changeF (l.map core) o).2) := by
  unfold changeF
  by_cases hbad : badOp o = true
  · rw [if_pos hbad]
    exact one_bad l v B o w hown hbad hn
  rw [if_neg hbad]
  have hnm : nameB o.name = true ∧ 1 ≤ o.kind ∧ o.kind ≤ 4 := by
    unfold badOp at hbad
    simp only [Bool.or_eq_true, decide_eq_true_eq, Bool.not_eq_true', not_or] at hbad
    exact ⟨by simpa using hbad.2, by omega, by omega⟩
  by_cases h1 : o.kind = 1
  · rw [if_pos h1]
    exact one_put l v B o w hown hB h1 hnm.1 hn hm hol
  rw [if_neg h1, ← idx_core]
  rcases idx_cases (sameName o.name) l with ⟨_, hi⟩ | ⟨k, hk, hi, _⟩
  · rw [if_pos (by omega)]
    exact one_gone l v B o w hown (by omega) hnm.2.2 hnm.1 hn hm hi
  rw [if_neg (by omega), hi]
  have hk2 : ((k : Int)).toNat = k := by omega
  rw [hk2]
  have hsafe : l[k].safe.size ≤ 1099511627776 := by have : l[k].safe.size ≤ 2097152 := hS.safe (core l[k]) (List.mem_map_of_mem (List.getElem_mem _)); omega
  have hopk : l[k].opens.length ≤ 1099511627776 := by have := hol l[k] (List.getElem_mem _); omega
  have hbyt : ∀ x ∈ l[k].opens, x.bytes.size ≤ 1099510579200 := fun x hx => by have : x.bytes.size ≤ 1048576 := hS.bytes (core l[k]) (List.mem_map_of_mem (List.getElem_mem _)) x hx; omega
  by_cases h2 : o.kind = 2
  · rw [if_pos h2, h2]
    have e : (l.map core).modify k (fun f => ⟨f.name, allF f, []⟩) = (l.map core).set k ⟨l[k].name, layB l[k].safe l[k].opens, []⟩ := by
      apply List.ext_getElem?
      intro j
      rw [List.getElem?_modify, List.getElem?_set]
      by_cases e : k = j
      · subst e
        simp [hk, core, allF]
      · simp [e]
    rw [e]
    exact one_sync l v B k o.name o.pos o.bytes w hown hnm.1 hn hm hk hi hsafe hopk hbyt
  rw [if_neg h2]
  by_cases h3 : o.kind = 3
  · rw [if_pos h3, h3]
    have e : (l.map core)[k]? = some (core l[k]) := by simp [hk]
    rw [e]
    dsimp only
    by_cases hb : o.pos < 0 ∨ ((allF (core l[k])).size : Int) < o.pos
    · rw [if_pos hb]
      exact one_nocut l v B k o.name o.pos o.bytes w hown hnm.1 hn hm hk hi hsafe hopk hbyt hb
    · rw [if_neg hb]
      have hb2 : ¬ (o.pos < 0 ∨ ((layB l[k].safe l[k].opens).size : Int) < o.pos) := hb
      obtain ⟨t, ht⟩ : ∃ t : Nat, o.pos = (t : Int) := ⟨o.pos.toNat, by omega⟩
      rw [ht] at hb2 ⊢
      exact one_cut l v B k o.name t o.bytes w hown hnm.1 hn hm hk hi hsafe hopk hbyt (by omega)
  rw [if_neg h3]
  have h4 : o.kind = 4 := by omega
  rw [h4]
  exact one_drop l v B k o.name o.pos o.bytes w hown hnm.1 hn hm hk hi hsafe hopk hbyt
end Go.Proofs.Ytkecjopojnllnaa
namespace Go.Proofs.Ytkecjopojnllnaa
open Go.RowKit Go.Deep Go.Joins
/-- The variable of the next disk, behind the call. -/
structure Next (W : World) (Z Y : Nat) (u v : Value) (B : Nat) (l : List Rw) : Prop where
  out : VarAt W Z u
  next : VarAt W Y v
  own : OwnR W B v l
set_option maxRecDepth 100000 in
set_option maxHeartbeats 1000000 in
theorem do2_any (l : List Rw) (v : Value) (ops : List DOp) (ov : Value) (n m : Nat) (w : World) (hr : Reads w v 3 l.length (rowCells l)) (ho : Opens w l) (hov : Reads w ov 4 ops.length (dopCells ops)) (hF : FitsF (l.map core) n m) (hS : FitsS (l.map core))
    (hn : n + ops.length ≤ 1073741824) (hm : m + ops.length ≤ 1073741824) (hops : ∀ o ∈ ops, o.name.size ≤ 1099511627776) :
    Calls Try.prog 25 #[.agg #[v], ov] w fun e w' => ∃ v' l', e = .returned (.tuple #[.agg #[v'], .int .i64 (doF (l.map core) ops).2.1, .int .i64 (doF (l.map core) ops).2.2]) ∧
      l'.map core = (doF (l.map core) ops).1 ∧ OwnR w' w.heap.size v' l' ∧ Below w.heap.size w w' := by
  obtain ⟨p, cap, rfl⟩ := hov.is
  obtain ⟨p0, cap0, rfl⟩ := hr.is
  have hll : l.length ≤ 1073741824 := by have := hF.files; rw [List.length_map] at this; omega
  have hoo : ∀ r ∈ l, r.opens.length ≤ 1099511627776 := fun r h => by have : r.opens.length ≤ m := hF.opens (core r) (List.mem_map_of_mem h); omega
  go_enter Try.func25, Try.ntmps25
  go_wp2_with fail
  generalize hwA : (w.alloc (Obj.cells #[.slice p0 l.length cap0] 24)).alloc (Obj.cells #[.slice none 0 0] 24) = wA
  have hsA : wA.heap.size = w.heap.size + 2 := by rw [← hwA]; simp
  have hbA : Below w.heap.size w wA := by rw [← hwA]; exact below2 w _ _
  have hD : VarAt wA w.heap.size (.slice p0 l.length cap0) := by rw [← hwA]; exact (VarAt.new _ _).old _
  have hR : VarAt wA (w.heap.size + 1) (.slice none 0 0) := by rw [← hwA]; exact VarAt.new2 _ _ _
  have HBA := Lib.hid hbA
  have HRA := Lib.hid hR
  have d0 := hD.c
  have d1 := hD.lt
  clear hwA hbA hR hD
  go_wp2_with fail
  refine (copy2_any l _ _ (hr.below HBA.out) (ho.below HBA.out) hoo (by omega)).mono ?_
  rintro e w1 ⟨v1, l1, rfl, hc1, hd1, hb1⟩
  obtain ⟨q1, qc1, rfl⟩ := owns_shape hd1.1
  have HC1 := Lib.hid hc1
  have HD1 := Lib.hid hd1
  have HB1 := Lib.hid hb1
  have hs1 := hb1.size
  clear hc1 hd1 hb1 d0
  go_wp2_with fail
  generalize hw2 : w1.alloc (Obj.cells #[.slice q1 l1.length qc1] 24) = w2
  have hb2 : Below w1.heap.size w1 w2 := hw2 ▸ below1 w1 _
  have Z2 : VarAt w2 w1.heap.size (.slice q1 l1.length qc1) := hw2 ▸ VarAt.new w1 _
  have HB2 := Lib.hid (below_then HB1.out hb2)
  have HD2 := Lib.hid (HD1.out.below hb2)
  have HZ2 := Lib.hid Z2
  clear hw2 hb2 Z2
  go_wp2_with fail
  go_loopw [8] (fun i wr => ∃ (k : Nat) (gs : List Fl) (v2 : Value) (l2 : List Rw), k ≤ ops.length ∧ i = .int .i64 k ∧ Hid (Rest (l.map core) ops k gs) ∧ Hid (FitsF gs (n + k) (m + k)) ∧ Hid (FitsS gs) ∧
    Hid (VarAt wr w1.heap.size v2) ∧ Hid (OwnR wr wA.heap.size v2 l2) ∧ Hid (l2.map core = gs) ∧ Hid (Below wA.heap.size wA wr)) (fun i _ => ops.length - (intOf i).toNat)
  case atStart =>
    refine ⟨0, l.map core, .slice q1 l1.length qc1, l1, Nat.zero_le _, rfl, ?_, hF, hS, HZ2.out, HD2.out, HC1.out, HB2.out⟩
    show _ = _
    simp
  case round =>
    obtain ⟨k, gs, v2, l2, hk, rfl, hrest, hfits, hsmall, hZ, hD, hcore, hbl⟩ := hrel
    obtain ⟨q2, qc2, rfl⟩ := owns_shape hD.out.1
    have hbr : Below w.heap.size w wr := below_then HBA.out hbl.out
    have z0 := hZ.out.c
    have z1 := hZ.out.f
    have z2 := hZ.out.lt
    have R3 := HRA.out.keep hbl.out
    have r0 := R3.c
    have r1 := R3.f
    have r2 := R3.lt
    have hsz := hbl.out.size
    by_cases hlt : k < ops.length
    · obtain ⟨b1, off1, cap1, hv, hbb1, c0, c1, c2, c3⟩ := (hov.below HBA.out).dop k hlt
      obtain ⟨rfl, rfl⟩ : p = some ⟨b1, off1, none⟩ ∧ cap = cap1 := by simpa using hv
      have hop := hops ops[k] (List.getElem_mem _)
      have hol : ∀ r ∈ l2, r.opens.length + 1 ≤ 1099511627776 := fun r h => by have : r.opens.length ≤ m + k := hfits.out.opens (core r) (hcore.out ▸ List.mem_map_of_mem h); omega
      have hl2 : l2.length ≤ 1099511627776 := by have := hfits.out.files; rw [← hcore.out, List.length_map] at this; omega
      have hcall : ∀ W, Below wr.heap.size wr W → Calls Try.prog 47 #[.agg #[.slice q2 l2.length qc2], .agg #[.int .i64 ops[k].kind, .string ops[k].name, .int .i64 ops[k].pos, .string ops[k].bytes]] W fun e w' => ∃ q3 qc3 l3, e = .returned (.tuple #[.agg #[.slice q3 (List.length l3) qc3], .int .i64 (changeF (l2.map core) ops[k]).2]) ∧
          Hid (l3.map core = (changeF (l2.map core) ops[k]).1) ∧ Hid (OwnR w' wA.heap.size (.slice q3 l3.length qc3) l3) ∧ Hid ((changeF (l2.map core) ops[k]).2 ≠ 0 → Value.slice q3 l3.length qc3 = .slice q2 l2.length qc2) ∧ Below wA.heap.size wA w' ∧ Hid (∀ Y x, VarAt W Y x → VarAt w' Y x) := fun W hW => by
        have hown := hD.out.below hW
        refine (one_any l2 _ wA.heap.size ops[k] W hown (by have := hW.size; omega) hop hl2 (hcore.out ▸ hsmall.out) hol).mono ?_
        rintro e w' ⟨v3, l3, rfl, h1, h2, h3, h4⟩
        obtain ⟨q3, qc3, rfl⟩ := owns_shape h2.1
        have hbW : Below wA.heap.size wA W := below_then hbl.out hW
        exact ⟨q3, qc3, l3, rfl, h1, h2, h3, hbW.grown h4 hbW.size fun j hj => (hown.1.lt j hj).1, fun Y x hY => VarAt.grown hY hown.1 (by decide) h4⟩
      obtain ⟨er, her⟩ : ∃ er, (changeF (l2.map core) ops[k]).2 = er := ⟨_, rfl⟩
      rw [her] at hcall
      have HCALL := Lib.hid hcall
      have HER := Lib.hid her
      have HBR := Lib.hid hbr
      have hcells : ∀ W, Below wA.heap.size wA W → W.cell? ⟨b1, off1 + k * 4, none⟩ = some (.int .i64 ops[k].kind) ∧ W.cell? ⟨b1, off1 + k * 4 + 1, none⟩ = some (.string ops[k].name) ∧ W.cell? ⟨b1, off1 + k * 4 + 2, none⟩ = some (.int .i64 ops[k].pos) ∧ W.cell? ⟨b1, off1 + k * 4 + 3, none⟩ = some (.string ops[k].bytes) :=
        fun W h => ⟨below_cell h c0, below_cell h c1, below_cell h c2, below_cell h c3⟩
      have hS0 : ∀ W, VarAt W w1.heap.size (.slice q2 l2.length qc2) → Below wA.heap.size wA W → W.cell? ⟨w1.heap.size, 0, none⟩ = some (.slice q2 l2.length qc2) ∧ W.cell? ⟨b1, off1 + k * 4, none⟩ = some (.int .i64 ops[k].kind) ∧ W.cell? ⟨b1, off1 + k * 4 + 1, none⟩ = some (.string ops[k].name) ∧ W.cell? ⟨b1, off1 + k * 4 + 2, none⟩ = some (.int .i64 ops[k].pos) ∧ W.cell? ⟨b1, off1 + k * 4 + 3, none⟩ = some (.string ops[k].bytes) :=
        fun W h1 h2 => ⟨h1.c, hcells W h2⟩
      have HSS := Lib.hid hS0
      have hs5 := HSS.out wr hZ.out hbl.out
      clear hcall her hbr hv hov hr ho hcells hS0 c0 c1 c2 c3 hD hol hl2
      have hs6 := HSS.out (wr.alloc (.cells #[.slice none 0 0] 24)) (hZ.out.old _) (below_then hbl.out (below1 _ _))
      go_wp2_with fail
      go_region_held3 (fun W => W.cell? ⟨w1.heap.size, 0, none⟩ = some (.slice q2 l2.length qc2) ∧ W.cell? ⟨b1, off1 + k * 4, none⟩ = some (.int .i64 ops[k].kind) ∧ W.cell? ⟨b1, off1 + k * 4 + 1, none⟩ = some (.string ops[k].name) ∧ W.cell? ⟨b1, off1 + k * 4 + 2, none⟩ = some (.int .i64 ops[k].pos) ∧ W.cell? ⟨b1, off1 + k * 4 + 3, none⟩ = some (.string ops[k].bytes))
        (first | exact hs5 | exact hs6 | exact HSS.out _ S6 N6 | exact HSS.out _ (S6.old _) (below_then N6 (below1 _ _)) | exact HSS.out _ (S6.far (by omega) 0 _) (nb_set (by omega) N6 0 _) | go_keep)
        (first
          | (go_at_call 47; with_reducible refine (HCALL.out _ ?bel).mono ?_; (case bel => (repeat (first | with_reducible exact nb_refl _ | with_reducible refine nb_drew ?_ | with_reducible refine nb_alloc ?_ _))); rintro e w6 ⟨q3, qc3, l3, rfl, hc3, hd3, he3, N6, hv3⟩; have S6 := hv3.out w1.heap.size (.slice q2 l2.length qc2) (by (repeat (first | with_reducible exact hZ.out | with_reducible refine VarAt.drew ?_ | with_reducible refine VarAt.old ?_ _))); first | (have Y6 := hv3.out wr.heap.size (.slice none 0 0) (by first | with_reducible exact VarAt.new _ _ | with_reducible exact VarAt.drew (VarAt.new _ _) | exact VarAt.new wr.drew _); have y6 := Y6.c; have y7 := Y6.f; have y8 := Y6.lt) | skip)
          | fail)
      all_goals
        first
          | (have hN : Next (w6.setCell ⟨wr.heap.size, 0, none⟩ (.slice q3 l3.length qc3)) w1.heap.size wr.heap.size (.slice q2 l2.length qc2) (.slice q3 l3.length qc3) wA.heap.size l3 := ⟨S6.far (by omega) 0 _, Y6.same _, hd3.out.set Y6 _⟩
             have hB5 : Below wA.heap.size wA (w6.setCell ⟨wr.heap.size, 0, none⟩ (.slice q3 l3.length qc3)) := nb_set (by omega) N6 0 _
             clear hv3 hd3 S6 N6 HCALL HSS hs5 hs6 y6 y7 y8 Y6
             revert hN hB5
             generalize w6.setCell ⟨wr.heap.size, 0, none⟩ (.slice q3 l3.length qc3) = W5
             intro hN hB5)
          | (have hN : Next (w6.alloc (.cells #[.slice q3 l3.length qc3] 24)) w1.heap.size w6.heap.size (.slice q2 l2.length qc2) (.slice q3 l3.length qc3) wA.heap.size l3 := ⟨S6.old _, VarAt.new _ _, hd3.out.below (below1 _ _)⟩
             have hB5 : Below wA.heap.size wA (w6.alloc (.cells #[.slice q3 l3.length qc3] 24)) := nb_alloc N6 _
             clear hv3 hd3 S6 N6 HCALL HSS hs5 hs6
             revert hN hB5
             generalize w6.heap.size = Y5
             generalize w6.alloc (.cells #[.slice q3 l3.length qc3] 24) = W5
             intro hN hB5)
        have n1 := hN.next.c
        have n2 := hN.next.f
        have n3 := hN.next.lt
        have o1 := hN.out.c
        have o2 := hN.out.f
        have o3 := hN.out.lt
        have R5 := HRA.out.keep hB5
        have q1 := R5.c
        have q2' := R5.f
        have q3' := R5.lt
        have HN := Lib.hid hN
        have HB5 := Lib.hid hB5
        have HR5 := Lib.hid R5
        clear hN hB5 R5 z0 z1 z2 r0 r1 r2
        by_cases he : er = 0
        · subst he
          go_wp2_with fail
          go_roundw
          case rel =>
            refine ⟨k + 1, (changeF (l2.map core) ops[k]).1, _, l3, by omega, by go_num, ?_, ?_, ?_, HN.out.out.same _, HN.out.own.set HN.out.out _, hc3.out, nb_set (by omega) HB5.out 0 _⟩
            · exact rest_step (hcore.out ▸ hrest.out) hlt HER.out
            · exact hcore.out ▸ changeF_fits hfits.out ops[k]
            · exact changeF_small (hcore.out ▸ hsmall.out) ops[k]
          case measure => simp [intOf]; omega
        · have hne : (er != 0) = true := by simpa using he
          have hd := rest_stop (hcore.out ▸ hrest.out) hlt (by rw [HER.out]; exact he)
          have HDD := Lib.hid hd
          have HVE := Lib.hid (he3.out he)
          clear hd he3
          go_wp2_with fail
          have hown := HN.out.own
          rw [HVE.out] at hown
          have hbw : Below w.heap.size w W5 := below_then HBA.out HB5.out
          refine bodyPost_ret (v := .tuple #[.agg #[.slice q2 l2.length qc2], .int .i64 (k : Int), .int .i64 er]) (by simp [results, Try.results25, go_sem, q1]) rfl
            ⟨.slice q2 l2.length qc2, l3, by rw [HDD.out, HER.out], by rw [HDD.out]; exact hc3.out, (hown.mono (by omega)).set HR5.out _, hbw.setCell (by simp) _⟩
    · obtain rfl : k = ops.length := by omega
      have hd := rest_end (hcore.out ▸ hrest.out)
      have HDD := Lib.hid hd
      have HR3 := Lib.hid R3
      have HBR := Lib.hid hbr
      clear hd hov hr ho R3 hbr
      go_wp2_with fail
      refine bodyPost_ret (v := .tuple #[.agg #[.slice q2 l2.length qc2], .int .i64 (ops.length : Int), .int .i64 0]) (by simp [results, Try.results25, go_sem, r0]) rfl
        ⟨.slice q2 l2.length qc2, l2, by rw [HDD.out], by rw [HDD.out], (hD.out.mono (by omega)).set HR3.out _, HBR.out.setCell (by simp) _⟩
end Go.Proofs.Ytkecjopojnllnaa
