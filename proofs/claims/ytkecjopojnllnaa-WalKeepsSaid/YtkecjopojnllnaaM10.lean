/- The disk of the reference, and what of the disk the log calls (my own, from the seat of the disk): Th. -/
import Derived.Test.YtkecjopojnllnaaM09
namespace Go.Proofs.Ytkecjopojnllnaa
open Go.RowKit Go.Deep Go.Joins
set_option maxRecDepth 100000 in
set_option maxHeartbeats 1000000 in
theorem one_putthere (l : List Rw) (v : Value) (B : Nat) (nm : ByteArray) (ps : Int) (bs : ByteArray) (w : World) (hown : OwnR w B v l) (hnm : nameB nm = true) (hn : nm.size ≤ 1099511627776) (hm : l.length ≤ 1099511627776) (k : Nat) (hk : k < l.length) (hi : idx (sameName nm) l = (k : Int)) (h0 : 0 ≤ ps) (h1 : ps ≤ 1048576) (h2 : (bs.size : Int) ≤ 1048576 - ps) (hol : l[k].opens.length + 1 ≤ 1099511627776) :
    Calls Try.prog 47 #[.agg #[v], .agg #[.int .i64 1, .string nm, .int .i64 ps, .string bs]] w (One w B v ((l.map core).set k ⟨l[k].name, l[k].safe, l[k].opens ++ [⟨ps, bs⟩]⟩) 0) := by
  have hop := reads_of_owns (hown.2 l[k] (List.getElem_mem _))
  obtain ⟨i1, hj, hy0, hy1, hy2⟩ := info_parts (show (Try.prog.info? 76).map (fun i => (i.zero, i.size, i.bytes)) = some (some (.agg #[.int .i64 0, .string .empty]), 2, 24) by kernel_rfl)
  have HOWN := Lib.hid hown
  obtain ⟨q, cap, rfl⟩ := owns_shape hown.1
  obtain ⟨g, hq, hg1, hg2, c0, c1, c2, fzz⟩ := owns_file hown.1 k hk (by omega)
  obtain ⟨p3, cap3, hov⟩ := hop.is
  rw [hov] at c2 hop
  subst hq
  have HOP := Lib.hid hop
  clear hown hop hov
  have hb0 : Below w.heap.size w (((w.alloc (.cells #[.slice (some ⟨g, 0, none⟩) l.length cap] 24)).alloc (opObj ⟨1, nm, ps, bs⟩)).alloc (.cells #[.slice none 0 0] 24)) := (below2 w _ _).alloc (by simp; omega) _
  have HB0 := Lib.hid hb0
  have hfind := find2_any l (.slice (some ⟨g, 0, none⟩) l.length cap) nm _ ((reads_of_owns HOWN.out.1).below hb0) hm
  have HF := Lib.hid hfind
  have HI := Lib.hid hi
  clear hb0 hfind hi
  go_enter Try.func47, Try.ntmps47
  go_wp2_with (go_at_call 66; refine (name2_any nm _ hn).mono ?_; rintro e w1 ⟨rfl, rfl⟩; rw [hnm])
  refine HF.out.mono ?_
  rw [HI.out]
  rintro e w5 ⟨rfl, hb5⟩
  obtain ⟨D5, O5, R5⟩ := start_keep (o := ⟨1, nm, ps, bs⟩) hb5
  have d5 := D5.c
  have l1 := D5.lt
  have r5 := R5.c
  have z5 := R5.f
  have l3 := R5.lt
  have o5 : w5.cell? ⟨w.heap.size + 1, 0, none⟩ = some (.int .i64 1) := by rw [cell_of_row _ _ _ _ 55 _ O5]; rfl
  have p5 : w5.cell? ⟨w.heap.size + 1, 2, none⟩ = some (.int .i64 ps) := by rw [cell_of_row _ _ _ _ 55 _ O5]; rfl
  have b5 : w5.cell? ⟨w.heap.size + 1, 3, none⟩ = some (.string bs) := by rw [cell_of_row _ _ _ _ 55 _ O5]; rfl
  have l2 := (Array.getElem?_eq_some_iff.1 O5).1
  have HB := Lib.hid (below_then HB0.out hb5)
  have HD5 := Lib.hid D5
  have HR5 := Lib.hid R5
  have HO5 := Lib.hid O5
  clear hb5 D5 R5 O5
  have e2 := below_cell HB.out c2
  have y5 := fun j => (HB.out.frozen (p := ⟨g, j, none⟩) hg2).trans (fzz j)
  have lg := lt_of_cell e2
  have HSS : Hid (∀ W, Below w5.heap.size w5 W → (fun W => W.cell? ⟨w.heap.size, 0, none⟩ = some (.slice (some ⟨g, 0, none⟩) l.length cap) ∧ W.cell? ⟨w.heap.size + 1, 2, none⟩ = some (.int .i64 ps) ∧ W.cell? ⟨w.heap.size + 1, 3, none⟩ = some (.string bs)) W) :=
    Lib.hid fun W h => ⟨below_cell h d5, below_cell h p5, below_cell h b5⟩
  have HOP5 : Hid (∀ W, Below w5.heap.size w5 W → Reads W (.slice p3 l[k].opens.length cap3) 2 l[k].opens.length (wrCells l[k].opens)) := Lib.hid fun W h => (HOP.out.below HB.out).below h
  have HFZ := Lib.hid y5
  have hs0 := HSS.out _ (nb_refl _)
  have hs1 := HSS.out _ (nb_drew (nb_refl _))
  clear c0 c1 c2 fzz y5
  have hgw : g ≠ w.heap.size := by omega
  have hgo : g ≠ w.heap.size + 1 := by omega
  have hS1 : ∀ (w' : World) (j : Nat) (x : Value), (fun W => W.cell? ⟨w.heap.size, 0, none⟩ = some (.slice (some ⟨g, 0, none⟩) l.length cap) ∧ W.cell? ⟨w.heap.size + 1, 2, none⟩ = some (.int .i64 ps) ∧ W.cell? ⟨w.heap.size + 1, 3, none⟩ = some (.string bs)) w' → (fun W => W.cell? ⟨w.heap.size, 0, none⟩ = some (.slice (some ⟨g, 0, none⟩) l.length cap) ∧ W.cell? ⟨w.heap.size + 1, 2, none⟩ = some (.int .i64 ps) ∧ W.cell? ⟨w.heap.size + 1, 3, none⟩ = some (.string bs)) (w'.setCell ⟨g, j, none⟩ x) := fun w' j x h => by
    obtain ⟨h1, h2, h3⟩ := h
    exact ⟨(World.cell?_setCell_far _ _ _ _ hgw).trans h1, (World.cell?_setCell_far _ _ _ _ hgo).trans h2, (World.cell?_setCell_far _ _ _ _ hgo).trans h3⟩
  have HS1 := Lib.hid hS1
  clear hS1
  go_wp2_with fail
  refine wp_region_noPanic ?_
  refine wp_region_held_drew (S := (fun W => W.cell? ⟨w.heap.size, 0, none⟩ = some (.slice (some ⟨g, 0, none⟩) l.length cap) ∧ W.cell? ⟨w.heap.size + 1, 2, none⟩ = some (.int .i64 ps) ∧ W.cell? ⟨w.heap.size + 1, 3, none⟩ = some (.string bs))) (by kernel_rfl) ?_ (fun hHeld => ?_)
  · exact HSS.out _ (nb_drew (nb_refl _))
  refine wpAnyH_take (i := 0) (oi := ⟨some 61, .fieldAddr 24 (.tmp 2) 0, _, _, _, none⟩) (v := ?_) rfl (by kernel_rfl) (by kernel_rfl) (by kernel_rfl) (fun _ _ _ h => h) (Or.inl ⟨by rfl, ?_⟩) (by assumption) ?_
  rotate_left
  · (intro w hSw; (try dsimp only at hSw); go_simp; try with_reducible rfl)
  try simp only [Act.put, List.setIfInBounds_toArray, List.set_cons_zero, List.set_cons_succ]
  refine wpAnyH_take (i := 1) (oi := ⟨some 62, .load 22 (.tmp 61), _, _, _, none⟩) (v := ?_) rfl (by kernel_rfl) (by kernel_rfl) (by kernel_rfl) (fun _ _ _ h => h) (Or.inl ⟨by rfl, ?_⟩) (by assumption) ?_
  rotate_left
  · (intro w hSw; (try dsimp only at hSw); go_simp; try with_reducible rfl)
  try simp only [Act.put, List.setIfInBounds_toArray, List.set_cons_zero, List.set_cons_succ]
  refine wpAnyH_take (i := 2) (oi := ⟨some 63, .move (.tmp 6), _, _, _, none⟩) (v := ?_) rfl (by kernel_rfl) (by kernel_rfl) (by kernel_rfl) (fun _ _ _ h => h) (Or.inl ⟨by rfl, ?_⟩) (by assumption) ?_
  rotate_left
  · (intro w hSw; (try dsimp only at hSw); go_simp; try with_reducible rfl)
  try simp only [Act.put, List.setIfInBounds_toArray, List.set_cons_zero, List.set_cons_succ]
  refine wpAnyH_take (i := 4) (oi := ⟨some 65, .fieldAddr 24 (.tmp 2) 0, _, _, _, none⟩) (v := ?_) rfl (by kernel_rfl) (by kernel_rfl) (by kernel_rfl) (fun _ _ _ h => h) (Or.inl ⟨by rfl, ?_⟩) (by assumption) ?_
  rotate_left
  · (intro w hSw; (try dsimp only at hSw); go_simp; try with_reducible rfl)
  try simp only [Act.put, List.setIfInBounds_toArray, List.set_cons_zero, List.set_cons_succ]
  refine wpAnyH_take (i := 5) (oi := ⟨some 66, .load 22 (.tmp 65), _, _, _, none⟩) (v := ?_) rfl (by kernel_rfl) (by kernel_rfl) (by kernel_rfl) (fun _ _ _ h => h) (Or.inl ⟨by rfl, ?_⟩) (by assumption) ?_
  rotate_left
  · (intro w hSw; (try dsimp only at hSw); go_simp; try with_reducible rfl)
  try simp only [Act.put, List.setIfInBounds_toArray, List.set_cons_zero, List.set_cons_succ]
  refine wpAnyH_take (i := 6) (oi := ⟨some 67, .move (.tmp 6), _, _, _, none⟩) (v := ?_) rfl (by kernel_rfl) (by kernel_rfl) (by kernel_rfl) (fun _ _ _ h => h) (Or.inl ⟨by rfl, ?_⟩) (by assumption) ?_
  rotate_left
  · (intro w hSw; (try dsimp only at hSw); go_simp; try with_reducible rfl)
  try simp only [Act.put, List.setIfInBounds_toArray, List.set_cons_zero, List.set_cons_succ]
  refine wpAnyH_take (i := 7) (oi := ⟨some 68, .indexAddr 22 (.tmp 66) (.tmp 67), _, _, _, none⟩) (v := ?_) rfl (by kernel_rfl) (by kernel_rfl) (by kernel_rfl) (fun _ _ _ h => h) (Or.inl ⟨by rfl, ?_⟩) (by assumption) ?_
  rotate_left
  · (intro w hSw; (try dsimp only at hSw); go_simp; try with_reducible rfl)
  try simp only [Act.put, List.setIfInBounds_toArray, List.set_cons_zero, List.set_cons_succ]
  refine wpAnyH_take (i := 8) (oi := ⟨some 69, .fieldAddr 58 (.tmp 68) 2, _, _, _, none⟩) (v := ?_) rfl (by kernel_rfl) (by kernel_rfl) (by kernel_rfl) (fun _ _ _ h => h) (Or.inl ⟨by rfl, ?_⟩) (by assumption) ?_
  rotate_left
  · (intro w hSw; (try dsimp only at hSw); go_simp; try with_reducible rfl)
  try simp only [Act.put, List.setIfInBounds_toArray, List.set_cons_zero, List.set_cons_succ]
  refine wpAnyH_take (i := 11) (oi := ⟨some 72, .fieldAddr 55 (.tmp 3) 2, _, _, _, none⟩) (v := ?_) rfl (by kernel_rfl) (by kernel_rfl) (by kernel_rfl) (fun _ _ _ h => h) (Or.inl ⟨by rfl, ?_⟩) (by assumption) ?_
  rotate_left
  · (intro w hSw; (try dsimp only at hSw); go_simp; try with_reducible rfl)
  try simp only [Act.put, List.setIfInBounds_toArray, List.set_cons_zero, List.set_cons_succ]
  refine wpAnyH_take (i := 12) (oi := ⟨some 73, .load 3 (.tmp 72), _, _, _, none⟩) (v := ?_) rfl (by kernel_rfl) (by kernel_rfl) (by kernel_rfl) (fun _ _ _ h => h) (Or.inl ⟨by rfl, ?_⟩) (by assumption) ?_
  rotate_left
  · (intro w hSw; (try dsimp only at hSw); go_simp; try with_reducible rfl)
  try simp only [Act.put, List.setIfInBounds_toArray, List.set_cons_zero, List.set_cons_succ]
  refine wpAnyH_take (i := 13) (oi := ⟨some 74, .fieldAddr 55 (.tmp 3) 3, _, _, _, none⟩) (v := ?_) rfl (by kernel_rfl) (by kernel_rfl) (by kernel_rfl) (fun _ _ _ h => h) (Or.inl ⟨by rfl, ?_⟩) (by assumption) ?_
  rotate_left
  · (intro w hSw; (try dsimp only at hSw); go_simp; try with_reducible rfl)
  try simp only [Act.put, List.setIfInBounds_toArray, List.set_cons_zero, List.set_cons_succ]
  refine wpAnyH_take (i := 14) (oi := ⟨some 75, .load 9 (.tmp 74), _, _, _, none⟩) (v := ?_) rfl (by kernel_rfl) (by kernel_rfl) (by kernel_rfl) (fun _ _ _ h => h) (Or.inl ⟨by rfl, ?_⟩) (by assumption) ?_
  rotate_left
  · (intro w hSw; (try dsimp only at hSw); go_simp; try with_reducible rfl)
  try simp only [Act.put, List.setIfInBounds_toArray, List.set_cons_zero, List.set_cons_succ]
  refine wpAnyH_take (i := 15) (oi := ⟨some 76, .build 76 #[(0, .tmp 73), (1, .tmp 75)], _, _, _, none⟩) (v := ?_) rfl (by kernel_rfl) (by kernel_rfl) (by kernel_rfl) (fun _ _ _ h => h) (Or.inl ⟨by rfl, ?_⟩) (by assumption) ?_
  rotate_left
  · (intro w hSw; (try dsimp only at hSw); go_simp; try with_reducible rfl)
  try simp only [Act.put, List.setIfInBounds_toArray, List.set_cons_zero, List.set_cons_succ]
  refine wpAnyH_ready (rs := [3, 9, 16]) (by kernel_rfl) (by simp) ?_
  refine AllReadyH.cons (o := ⟨some 64, .buildSlice 56 0 #[], _, _, _, none⟩) rfl (fun K hK => ?_) ?_
  · go_simp
    refine hK.out _ _ ?_ (fun hHeld => ?_)
    · first | (with_reducible refine HSS.out _ ?_; (repeat (first | with_reducible exact N6 | with_reducible exact N4 | with_reducible exact nb_refl _ | with_reducible refine nb_drew ?_ | with_reducible refine nb_alloc ?_ _))) | exact HSS.out _ (by (repeat (first | with_reducible exact N6 | with_reducible exact N4 | with_reducible exact nb_refl _ | with_reducible refine nb_drew ?_ | with_reducible refine nb_alloc ?_ _)))
    clear hK K
    try simp only [Act.put, List.setIfInBounds_toArray, List.set_cons_zero, List.set_cons_succ]
    refine wpAnyH_ready (rs := [9, 16]) (by kernel_rfl) (by simp) ?_
    refine AllReadyH.cons (o := ⟨some 70, .load 56 (.tmp 69), _, _, _, none⟩) rfl (fun K hK => ?_) ?_
    · have hG : ∀ W, Below w5.heap.size w5 W → W.cell? ⟨g, k * 3 + 2, none⟩ = some (.slice p3 l[k].opens.length cap3) := fun W h => below_cell h e2
      have hG1 := hG _ (nb_drew (nb_refl w5))
      go_simp
      refine hK.out _ _ ?_ (fun hHeld => ?_)
      · first | (with_reducible refine HSS.out _ ?_; (repeat (first | with_reducible exact N6 | with_reducible exact N4 | with_reducible exact nb_refl _ | with_reducible refine nb_drew ?_ | with_reducible refine nb_alloc ?_ _))) | exact HSS.out _ (by (repeat (first | with_reducible exact N6 | with_reducible exact N4 | with_reducible exact nb_refl _ | with_reducible refine nb_drew ?_ | with_reducible refine nb_alloc ?_ _)))
      clear hK K
      try simp only [Act.put, List.setIfInBounds_toArray, List.set_cons_zero, List.set_cons_succ]
      refine wpAnyH_ready (rs := [10, 16]) (by kernel_rfl) (by simp) ?_
      refine AllReadyH.cons (o := ⟨some 71, .call { callee := .builtin .append, args := #[.tmp 64, .tmp 70], argTypes := #[56, 56] }, _, _, _, none⟩) rfl (fun K hK => ?_) ?_
      · refine step_append_fresh rfl _ _ 56 rfl w5.heap.size 76 i1 (.agg #[.int .i64 0, .string .empty]) 2 24 Try.underlying56 hj hy0 hy1 hy2 rfl (by decide) _ rfl ?own (.slice p3 l[k].opens.length cap3) l[k].opens.length (wrCells l[k].opens) rfl ?rd (wr_one _) ?m1 ?m2 ?m3 ?_
        case own => (show Emp37 _ _ _; (repeat (first | with_reducible exact emp37_new | with_reducible exact emp37_new2 | with_reducible refine emp37_drew ?_ | with_reducible refine emp37_old ?_ _)))
        case rd => exact HOP5.out _ (by (repeat (first | with_reducible exact N6 | with_reducible exact N4 | with_reducible exact nb_refl _ | with_reducible refine nb_drew ?_ | with_reducible refine nb_alloc ?_ _)))
        case m1 => unfold maxLen; omega
        case m2 => omega
        case m3 => exact Below.size (by (repeat (first | with_reducible exact N6 | with_reducible exact N4 | with_reducible exact nb_refl _ | with_reducible refine nb_drew ?_ | with_reducible refine nb_alloc ?_ _)))
        intro p4 c4 w4 hO4 hg4
        have N4 : Below w5.heap.size w5 w4 := Below.grown (by (repeat (first | with_reducible exact N6 | with_reducible exact N4 | with_reducible exact nb_refl _ | with_reducible refine nb_drew ?_ | with_reducible refine nb_alloc ?_ _))) hg4 (Below.size (by (repeat (first | with_reducible exact N6 | with_reducible exact N4 | with_reducible exact nb_refl _ | with_reducible refine nb_drew ?_ | with_reducible refine nb_alloc ?_ _)))) (fun j hj => by have := Option.some.inj hj; (try simp only [World.size_alloc] at this); (first | omega | (simp [World.drew] at this; omega)))
        refine hK.out _ _ ?_ (fun hHeld => ?_)
        · exact HSS.out _ N4
        clear hK K
        try simp only [Act.put, List.setIfInBounds_toArray, List.set_cons_zero, List.set_cons_succ]
        refine wpAnyH_ready (rs := [16]) (by kernel_rfl) (by simp) ?_
        refine AllReadyH.cons (o := ⟨some 77, .buildSlice 56 1 #[(0, .tmp 76)], _, _, _, none⟩) rfl (fun K hK => ?_) ?_
        rotate_left
        · exact AllReadyH.nil
        go_simp
        refine hK.out _ _ ?_ (fun hHeld => ?_)
        · first | (with_reducible refine HSS.out _ ?_; (repeat (first | with_reducible exact N6 | with_reducible exact N4 | with_reducible exact nb_refl _ | with_reducible refine nb_drew ?_ | with_reducible refine nb_alloc ?_ _))) | exact HSS.out _ (by (repeat (first | with_reducible exact N6 | with_reducible exact N4 | with_reducible exact nb_refl _ | with_reducible refine nb_drew ?_ | with_reducible refine nb_alloc ?_ _)))
        clear hK K
        try simp only [Act.put, List.setIfInBounds_toArray, List.set_cons_zero, List.set_cons_succ]
        refine wpAnyH_ready (rs := [17]) (by kernel_rfl) (by simp) ?_
        refine AllReadyH.cons (o := ⟨some 78, .call { callee := .builtin .append, args := #[.tmp 71, .tmp 77], argTypes := #[56, 56] }, _, _, _, none⟩) rfl (fun K hK => ?_) ?_
        rotate_left
        · exact AllReadyH.nil
        refine step_append_reads rfl _ _ 56 rfl w5.heap.size 76 i1 (.agg #[.int .i64 0, .string .empty]) 2 24 Try.underlying56 hj hy0 hy1 hy2 rfl (by decide) (.slice p4 l[k].opens.length c4) l[k].opens.length (wrCells l[k].opens) rfl ?own _ 1 [.int .i64 ps, .string bs] rfl ?rd (two_one _ _) ?m1 ?m2 ?m3 ?_
        case own => first | exact hO4.out | exact owns_below hO4.out (below1 _ _)
        case rd => first | exact Wr1.reads X1 | exact Wr1.reads Wr1.new | exact Wr1.reads (Wr1.drew Wr1.new)
        case m1 => unfold maxLen; omega
        case m2 => omega
        case m3 => exact Below.size (by (repeat (first | with_reducible exact N6 | with_reducible exact N4 | with_reducible exact nb_refl _ | with_reducible refine nb_drew ?_ | with_reducible refine nb_alloc ?_ _)))
        intro p5 c5 w6 hO6 hg6
        have N6 : Below w5.heap.size w5 w6 := below_grown (by (repeat (first | with_reducible exact N6 | with_reducible exact N4 | with_reducible exact nb_refl _ | with_reducible refine nb_drew ?_ | with_reducible refine nb_alloc ?_ _))) (by first | exact hO4.out | exact owns_below hO4.out (below1 _ _)) hg6
        have s6 := HSS.out _ N6
        have x6 := below_cell N6 e2
        have y6 := (N6.frozen (p := ⟨g, k * 3 + 2, none⟩) lg).trans (HFZ.out (k * 3 + 2))
        have g6 := lt_of_cell x6
        refine hK.out _ _ ?_ (fun hHeld => ?_)
        · exact s6
        clear hK K
        try simp only [Act.put, List.setIfInBounds_toArray, List.set_cons_zero, List.set_cons_succ]
        refine wpAnyH_take (i := 18) (oi := ⟨some 79, .indexAddr 22 (.tmp 62) (.tmp 63), _, _, _, none⟩) (v := ?_) rfl (by kernel_rfl) (by kernel_rfl) (by kernel_rfl) (fun _ _ _ h => h) (Or.inl ⟨by rfl, ?_⟩) (by assumption) ?_
        rotate_left
        · (intro w hSw; (try dsimp only at hSw); go_simp; try with_reducible rfl)
        try simp only [Act.put, List.setIfInBounds_toArray, List.set_cons_zero, List.set_cons_succ]
        refine wpAnyH_take (i := 19) (oi := ⟨some 80, .fieldAddr 58 (.tmp 79) 2, _, _, _, none⟩) (v := ?_) rfl (by kernel_rfl) (by kernel_rfl) (by kernel_rfl) (fun _ _ _ h => h) (Or.inl ⟨by rfl, ?_⟩) (by assumption) ?_
        rotate_left
        · (intro w hSw; (try dsimp only at hSw); go_simp; try with_reducible rfl)
        try simp only [Act.put, List.setIfInBounds_toArray, List.set_cons_zero, List.set_cons_succ]
        refine wpAnyH_ready (rs := [20]) (by kernel_rfl) (by simp) ?_
        refine AllReadyH.cons (o := ⟨none, .store 56 (.tmp 80) (.tmp 78), _, _, _, none⟩) rfl (fun K hK => ?_) ?_
        rotate_left
        · exact AllReadyH.nil
        go_simp
        refine hK.out _ _ ?_ (fun hHeld => ?_)
        · exact HS1.out _ _ _ s6
        clear hK K
        try simp only [Act.put, List.setIfInBounds_toArray, List.set_cons_zero, List.set_cons_succ]
        refine wpAnyH_done (by kernel_rfl) ?_ _
        refine NoPanic.normal ?_
        have hnew : w6.ownsRow w5.heap.size 76 2 (.slice p5 (l[k].opens.length + 1) c5) (l[k].opens ++ [(⟨ps, bs⟩ : Wr)]).length (wrCells (l[k].opens ++ [(⟨ps, bs⟩ : Wr)])) := owns_snoc (x := ⟨ps, bs⟩) hO6.out
        have hB : B ≤ w5.heap.size := by have := HB.out.size; omega
        have h1 := put_open (HOWN.out.below (below_then HB.out N6)) rfl hk ⟨l[k].name, l[k].safe, (.slice p5 (l[k].opens.length + 1) c5), l[k].opens ++ [⟨ps, bs⟩]⟩ rfl rfl (owns_mono hnew hB)
        have h2 : w.grownBy (w6.setCell ⟨g, k * 3 + 2, none⟩ (.slice p5 (l[k].opens.length + 1) c5)) (some g) := grown_set (below_grownBy (below_then HB.out N6)) (.inl rfl) _ _
        have h3 := (HD5.out.keep N6).far hgw (k * 3 + 2) (.slice p5 (l[k].opens.length + 1) c5)
        have h4 := (HR5.out.keep N6).far (show g ≠ w.heap.size + 1 + 1 by omega) (k * 3 + 2) (.slice p5 (l[k].opens.length + 1) c5)
        clear hnew hO6 hO4 hg4 hg6 s6 x6 y6 g6 hHeld HSS HS1 HFZ
        clear N6 N4
        revert h1 h2 h3 h4
        generalize w6.setCell ⟨g, k * 3 + 2, none⟩ (.slice p5 (l[k].opens.length + 1) c5) = W7
        intro hput hgr hd7 hr7
        have d7 := hd7.c
        have r7 := hr7.c
        have z7 := hr7.f
        have l7 := hd7.lt
        have l8 := hr7.lt
        have HP := Lib.hid hput
        have HG := Lib.hid hgr
        have HR := Lib.hid hr7
        clear hput hgr hd7 hr7
        go_wp2_with fail
        have hgf : w.grownBy (W7.setCell ⟨w.heap.size + 1 + 1, 0, none⟩ (.slice (some ⟨g, 0, none⟩) l.length cap)) (some g) := grown_set HG.out (.inr (by omega)) 0 _
        refine bodyPost_ret (v := .tuple #[.agg #[.slice (some ⟨g, 0, none⟩) l.length cap], .int .i64 0]) (by simp [results, Try.results47, go_sem, r7]) rfl
          ⟨_, _, rfl, ?_, HP.out.set HR.out _, fun h => absurd rfl h, hgf⟩
        rw [List.map_set]
        rfl
      refine AllReadyH.cons (o := ⟨some 77, .buildSlice 56 1 #[(0, .tmp 76)], _, _, _, none⟩) rfl (fun K hK => ?_) ?_
      · go_simp
        refine hK.out _ _ ?_ (fun hHeld => ?_)
        · first | (with_reducible refine HSS.out _ ?_; (repeat (first | with_reducible exact N6 | with_reducible exact N4 | with_reducible exact nb_refl _ | with_reducible refine nb_drew ?_ | with_reducible refine nb_alloc ?_ _))) | exact HSS.out _ (by (repeat (first | with_reducible exact N6 | with_reducible exact N4 | with_reducible exact nb_refl _ | with_reducible refine nb_drew ?_ | with_reducible refine nb_alloc ?_ _)))
        clear hK K
        try simp only [Act.put, List.setIfInBounds_toArray, List.set_cons_zero, List.set_cons_succ]
        refine wpAnyH_ready (rs := [10]) (by kernel_rfl) (by simp) ?_
        refine AllReadyH.cons (o := ⟨some 71, .call { callee := .builtin .append, args := #[.tmp 64, .tmp 70], argTypes := #[56, 56] }, _, _, _, none⟩) rfl (fun K hK => ?_) ?_
        rotate_left
        · exact AllReadyH.nil
        refine step_append_fresh rfl _ _ 56 rfl w5.heap.size 76 i1 (.agg #[.int .i64 0, .string .empty]) 2 24 Try.underlying56 hj hy0 hy1 hy2 rfl (by decide) _ rfl ?own (.slice p3 l[k].opens.length cap3) l[k].opens.length (wrCells l[k].opens) rfl ?rd (wr_one _) ?m1 ?m2 ?m3 ?_
        case own => (show Emp37 _ _ _; (repeat (first | with_reducible exact emp37_new | with_reducible exact emp37_new2 | with_reducible refine emp37_drew ?_ | with_reducible refine emp37_old ?_ _)))
        case rd => exact HOP5.out _ (by (repeat (first | with_reducible exact N6 | with_reducible exact N4 | with_reducible exact nb_refl _ | with_reducible refine nb_drew ?_ | with_reducible refine nb_alloc ?_ _)))
        case m1 => unfold maxLen; omega
        case m2 => omega
        case m3 => exact Below.size (by (repeat (first | with_reducible exact N6 | with_reducible exact N4 | with_reducible exact nb_refl _ | with_reducible refine nb_drew ?_ | with_reducible refine nb_alloc ?_ _)))
        intro p4 c4 w4 hO4 hg4
        have N4 : Below w5.heap.size w5 w4 := Below.grown (by (repeat (first | with_reducible exact N6 | with_reducible exact N4 | with_reducible exact nb_refl _ | with_reducible refine nb_drew ?_ | with_reducible refine nb_alloc ?_ _))) hg4 (Below.size (by (repeat (first | with_reducible exact N6 | with_reducible exact N4 | with_reducible exact nb_refl _ | with_reducible refine nb_drew ?_ | with_reducible refine nb_alloc ?_ _)))) (fun j hj => by have := Option.some.inj hj; (try simp only [World.size_alloc] at this); (first | omega | (simp [World.drew] at this; omega)))
        have X1 : Wr1 w4 (w5.heap.size + 1) ps bs := Wr1.kept (by (repeat (first | with_reducible exact Wr1.new | with_reducible exact Wr1.new2 | with_reducible refine Wr1.drew ?_ | with_reducible refine Wr1.old ?_ _))) hg4 (by simp)
        refine hK.out _ _ ?_ (fun hHeld => ?_)
        · exact HSS.out _ N4
        clear hK K
        try simp only [Act.put, List.setIfInBounds_toArray, List.set_cons_zero, List.set_cons_succ]
        refine wpAnyH_ready (rs := [17]) (by kernel_rfl) (by simp) ?_
        refine AllReadyH.cons (o := ⟨some 78, .call { callee := .builtin .append, args := #[.tmp 71, .tmp 77], argTypes := #[56, 56] }, _, _, _, none⟩) rfl (fun K hK => ?_) ?_
        rotate_left
        · exact AllReadyH.nil
        refine step_append_reads rfl _ _ 56 rfl w5.heap.size 76 i1 (.agg #[.int .i64 0, .string .empty]) 2 24 Try.underlying56 hj hy0 hy1 hy2 rfl (by decide) (.slice p4 l[k].opens.length c4) l[k].opens.length (wrCells l[k].opens) rfl ?own _ 1 [.int .i64 ps, .string bs] rfl ?rd (two_one _ _) ?m1 ?m2 ?m3 ?_
        case own => first | exact hO4.out | exact owns_below hO4.out (below1 _ _)
        case rd => first | exact Wr1.reads X1 | exact Wr1.reads Wr1.new | exact Wr1.reads (Wr1.drew Wr1.new)
        case m1 => unfold maxLen; omega
        case m2 => omega
        case m3 => exact Below.size (by (repeat (first | with_reducible exact N6 | with_reducible exact N4 | with_reducible exact nb_refl _ | with_reducible refine nb_drew ?_ | with_reducible refine nb_alloc ?_ _)))
        intro p5 c5 w6 hO6 hg6
        have N6 : Below w5.heap.size w5 w6 := below_grown (by (repeat (first | with_reducible exact N6 | with_reducible exact N4 | with_reducible exact nb_refl _ | with_reducible refine nb_drew ?_ | with_reducible refine nb_alloc ?_ _))) (by first | exact hO4.out | exact owns_below hO4.out (below1 _ _)) hg6
        have s6 := HSS.out _ N6
        have x6 := below_cell N6 e2
        have y6 := (N6.frozen (p := ⟨g, k * 3 + 2, none⟩) lg).trans (HFZ.out (k * 3 + 2))
        have g6 := lt_of_cell x6
        refine hK.out _ _ ?_ (fun hHeld => ?_)
        · exact s6
        clear hK K
        try simp only [Act.put, List.setIfInBounds_toArray, List.set_cons_zero, List.set_cons_succ]
        refine wpAnyH_take (i := 18) (oi := ⟨some 79, .indexAddr 22 (.tmp 62) (.tmp 63), _, _, _, none⟩) (v := ?_) rfl (by kernel_rfl) (by kernel_rfl) (by kernel_rfl) (fun _ _ _ h => h) (Or.inl ⟨by rfl, ?_⟩) (by assumption) ?_
        rotate_left
        · (intro w hSw; (try dsimp only at hSw); go_simp; try with_reducible rfl)
        try simp only [Act.put, List.setIfInBounds_toArray, List.set_cons_zero, List.set_cons_succ]
        refine wpAnyH_take (i := 19) (oi := ⟨some 80, .fieldAddr 58 (.tmp 79) 2, _, _, _, none⟩) (v := ?_) rfl (by kernel_rfl) (by kernel_rfl) (by kernel_rfl) (fun _ _ _ h => h) (Or.inl ⟨by rfl, ?_⟩) (by assumption) ?_
        rotate_left
        · (intro w hSw; (try dsimp only at hSw); go_simp; try with_reducible rfl)
        try simp only [Act.put, List.setIfInBounds_toArray, List.set_cons_zero, List.set_cons_succ]
        refine wpAnyH_ready (rs := [20]) (by kernel_rfl) (by simp) ?_
        refine AllReadyH.cons (o := ⟨none, .store 56 (.tmp 80) (.tmp 78), _, _, _, none⟩) rfl (fun K hK => ?_) ?_
        rotate_left
        · exact AllReadyH.nil
        go_simp
        refine hK.out _ _ ?_ (fun hHeld => ?_)
        · exact HS1.out _ _ _ s6
        clear hK K
        try simp only [Act.put, List.setIfInBounds_toArray, List.set_cons_zero, List.set_cons_succ]
        refine wpAnyH_done (by kernel_rfl) ?_ _
        refine NoPanic.normal ?_
        have hnew : w6.ownsRow w5.heap.size 76 2 (.slice p5 (l[k].opens.length + 1) c5) (l[k].opens ++ [(⟨ps, bs⟩ : Wr)]).length (wrCells (l[k].opens ++ [(⟨ps, bs⟩ : Wr)])) := owns_snoc (x := ⟨ps, bs⟩) hO6.out
        have hB : B ≤ w5.heap.size := by have := HB.out.size; omega
        have h1 := put_open (HOWN.out.below (below_then HB.out N6)) rfl hk ⟨l[k].name, l[k].safe, (.slice p5 (l[k].opens.length + 1) c5), l[k].opens ++ [⟨ps, bs⟩]⟩ rfl rfl (owns_mono hnew hB)
        have h2 : w.grownBy (w6.setCell ⟨g, k * 3 + 2, none⟩ (.slice p5 (l[k].opens.length + 1) c5)) (some g) := grown_set (below_grownBy (below_then HB.out N6)) (.inl rfl) _ _
        have h3 := (HD5.out.keep N6).far hgw (k * 3 + 2) (.slice p5 (l[k].opens.length + 1) c5)
        have h4 := (HR5.out.keep N6).far (show g ≠ w.heap.size + 1 + 1 by omega) (k * 3 + 2) (.slice p5 (l[k].opens.length + 1) c5)
        clear hnew hO6 hO4 hg4 hg6 s6 x6 y6 g6 hHeld HSS HS1 HFZ
        clear N6 N4
        revert h1 h2 h3 h4
        generalize w6.setCell ⟨g, k * 3 + 2, none⟩ (.slice p5 (l[k].opens.length + 1) c5) = W7
        intro hput hgr hd7 hr7
        have d7 := hd7.c
        have r7 := hr7.c
        have z7 := hr7.f
        have l7 := hd7.lt
        have l8 := hr7.lt
        have HP := Lib.hid hput
        have HG := Lib.hid hgr
        have HR := Lib.hid hr7
        clear hput hgr hd7 hr7
        go_wp2_with fail
        have hgf : w.grownBy (W7.setCell ⟨w.heap.size + 1 + 1, 0, none⟩ (.slice (some ⟨g, 0, none⟩) l.length cap)) (some g) := grown_set HG.out (.inr (by omega)) 0 _
        refine bodyPost_ret (v := .tuple #[.agg #[.slice (some ⟨g, 0, none⟩) l.length cap], .int .i64 0]) (by simp [results, Try.results47, go_sem, r7]) rfl
          ⟨_, _, rfl, ?_, HP.out.set HR.out _, fun h => absurd rfl h, hgf⟩
        rw [List.map_set]
        rfl
      exact AllReadyH.nil
    refine AllReadyH.cons (o := ⟨some 77, .buildSlice 56 1 #[(0, .tmp 76)], _, _, _, none⟩) rfl (fun K hK => ?_) ?_
    · go_simp
      refine hK.out _ _ ?_ (fun hHeld => ?_)
      · first | (with_reducible refine HSS.out _ ?_; (repeat (first | with_reducible exact N6 | with_reducible exact N4 | with_reducible exact nb_refl _ | with_reducible refine nb_drew ?_ | with_reducible refine nb_alloc ?_ _))) | exact HSS.out _ (by (repeat (first | with_reducible exact N6 | with_reducible exact N4 | with_reducible exact nb_refl _ | with_reducible refine nb_drew ?_ | with_reducible refine nb_alloc ?_ _)))
      clear hK K
      try simp only [Act.put, List.setIfInBounds_toArray, List.set_cons_zero, List.set_cons_succ]
      refine wpAnyH_ready (rs := [9]) (by kernel_rfl) (by simp) ?_
      refine AllReadyH.cons (o := ⟨some 70, .load 56 (.tmp 69), _, _, _, none⟩) rfl (fun K hK => ?_) ?_
      rotate_left
      · exact AllReadyH.nil
      have hG : ∀ W, Below w5.heap.size w5 W → W.cell? ⟨g, k * 3 + 2, none⟩ = some (.slice p3 l[k].opens.length cap3) := fun W h => below_cell h e2
      have hG1 := hG _ (nb_drew (nb_refl w5))
      go_simp
      refine hK.out _ _ ?_ (fun hHeld => ?_)
      · first | (with_reducible refine HSS.out _ ?_; (repeat (first | with_reducible exact N6 | with_reducible exact N4 | with_reducible exact nb_refl _ | with_reducible refine nb_drew ?_ | with_reducible refine nb_alloc ?_ _))) | exact HSS.out _ (by (repeat (first | with_reducible exact N6 | with_reducible exact N4 | with_reducible exact nb_refl _ | with_reducible refine nb_drew ?_ | with_reducible refine nb_alloc ?_ _)))
      clear hK K
      try simp only [Act.put, List.setIfInBounds_toArray, List.set_cons_zero, List.set_cons_succ]
      refine wpAnyH_ready (rs := [10]) (by kernel_rfl) (by simp) ?_
      refine AllReadyH.cons (o := ⟨some 71, .call { callee := .builtin .append, args := #[.tmp 64, .tmp 70], argTypes := #[56, 56] }, _, _, _, none⟩) rfl (fun K hK => ?_) ?_
      rotate_left
      · exact AllReadyH.nil
      refine step_append_fresh rfl _ _ 56 rfl w5.heap.size 76 i1 (.agg #[.int .i64 0, .string .empty]) 2 24 Try.underlying56 hj hy0 hy1 hy2 rfl (by decide) _ rfl ?own (.slice p3 l[k].opens.length cap3) l[k].opens.length (wrCells l[k].opens) rfl ?rd (wr_one _) ?m1 ?m2 ?m3 ?_
      case own => (show Emp37 _ _ _; (repeat (first | with_reducible exact emp37_new | with_reducible exact emp37_new2 | with_reducible refine emp37_drew ?_ | with_reducible refine emp37_old ?_ _)))
      case rd => exact HOP5.out _ (by (repeat (first | with_reducible exact N6 | with_reducible exact N4 | with_reducible exact nb_refl _ | with_reducible refine nb_drew ?_ | with_reducible refine nb_alloc ?_ _)))
      case m1 => unfold maxLen; omega
      case m2 => omega
      case m3 => exact Below.size (by (repeat (first | with_reducible exact N6 | with_reducible exact N4 | with_reducible exact nb_refl _ | with_reducible refine nb_drew ?_ | with_reducible refine nb_alloc ?_ _)))
      intro p4 c4 w4 hO4 hg4
      have N4 : Below w5.heap.size w5 w4 := Below.grown (by (repeat (first | with_reducible exact N6 | with_reducible exact N4 | with_reducible exact nb_refl _ | with_reducible refine nb_drew ?_ | with_reducible refine nb_alloc ?_ _))) hg4 (Below.size (by (repeat (first | with_reducible exact N6 | with_reducible exact N4 | with_reducible exact nb_refl _ | with_reducible refine nb_drew ?_ | with_reducible refine nb_alloc ?_ _)))) (fun j hj => by have := Option.some.inj hj; (try simp only [World.size_alloc] at this); (first | omega | (simp [World.drew] at this; omega)))
      have X1 : Wr1 w4 (w5.heap.size + 1) ps bs := Wr1.kept (by (repeat (first | with_reducible exact Wr1.new | with_reducible exact Wr1.new2 | with_reducible refine Wr1.drew ?_ | with_reducible refine Wr1.old ?_ _))) hg4 (by simp)
      refine hK.out _ _ ?_ (fun hHeld => ?_)
      · exact HSS.out _ N4
      clear hK K
      try simp only [Act.put, List.setIfInBounds_toArray, List.set_cons_zero, List.set_cons_succ]
      refine wpAnyH_ready (rs := [17]) (by kernel_rfl) (by simp) ?_
      refine AllReadyH.cons (o := ⟨some 78, .call { callee := .builtin .append, args := #[.tmp 71, .tmp 77], argTypes := #[56, 56] }, _, _, _, none⟩) rfl (fun K hK => ?_) ?_
      rotate_left
      · exact AllReadyH.nil
      refine step_append_reads rfl _ _ 56 rfl w5.heap.size 76 i1 (.agg #[.int .i64 0, .string .empty]) 2 24 Try.underlying56 hj hy0 hy1 hy2 rfl (by decide) (.slice p4 l[k].opens.length c4) l[k].opens.length (wrCells l[k].opens) rfl ?own _ 1 [.int .i64 ps, .string bs] rfl ?rd (two_one _ _) ?m1 ?m2 ?m3 ?_
      case own => first | exact hO4.out | exact owns_below hO4.out (below1 _ _)
      case rd => first | exact Wr1.reads X1 | exact Wr1.reads Wr1.new | exact Wr1.reads (Wr1.drew Wr1.new)
      case m1 => unfold maxLen; omega
      case m2 => omega
      case m3 => exact Below.size (by (repeat (first | with_reducible exact N6 | with_reducible exact N4 | with_reducible exact nb_refl _ | with_reducible refine nb_drew ?_ | with_reducible refine nb_alloc ?_ _)))
      intro p5 c5 w6 hO6 hg6
      have N6 : Below w5.heap.size w5 w6 := below_grown (by (repeat (first | with_reducible exact N6 | with_reducible exact N4 | with_reducible exact nb_refl _ | with_reducible refine nb_drew ?_ | with_reducible refine nb_alloc ?_ _))) (by first | exact hO4.out | exact owns_below hO4.out (below1 _ _)) hg6
      have s6 := HSS.out _ N6
      have x6 := below_cell N6 e2
      have y6 := (N6.frozen (p := ⟨g, k * 3 + 2, none⟩) lg).trans (HFZ.out (k * 3 + 2))
      have g6 := lt_of_cell x6
      refine hK.out _ _ ?_ (fun hHeld => ?_)
      · exact s6
      clear hK K
      try simp only [Act.put, List.setIfInBounds_toArray, List.set_cons_zero, List.set_cons_succ]
      refine wpAnyH_take (i := 18) (oi := ⟨some 79, .indexAddr 22 (.tmp 62) (.tmp 63), _, _, _, none⟩) (v := ?_) rfl (by kernel_rfl) (by kernel_rfl) (by kernel_rfl) (fun _ _ _ h => h) (Or.inl ⟨by rfl, ?_⟩) (by assumption) ?_
      rotate_left
      · (intro w hSw; (try dsimp only at hSw); go_simp; try with_reducible rfl)
      try simp only [Act.put, List.setIfInBounds_toArray, List.set_cons_zero, List.set_cons_succ]
      refine wpAnyH_take (i := 19) (oi := ⟨some 80, .fieldAddr 58 (.tmp 79) 2, _, _, _, none⟩) (v := ?_) rfl (by kernel_rfl) (by kernel_rfl) (by kernel_rfl) (fun _ _ _ h => h) (Or.inl ⟨by rfl, ?_⟩) (by assumption) ?_
      rotate_left
      · (intro w hSw; (try dsimp only at hSw); go_simp; try with_reducible rfl)
      try simp only [Act.put, List.setIfInBounds_toArray, List.set_cons_zero, List.set_cons_succ]
      refine wpAnyH_ready (rs := [20]) (by kernel_rfl) (by simp) ?_
      refine AllReadyH.cons (o := ⟨none, .store 56 (.tmp 80) (.tmp 78), _, _, _, none⟩) rfl (fun K hK => ?_) ?_
      rotate_left
      · exact AllReadyH.nil
      go_simp
      refine hK.out _ _ ?_ (fun hHeld => ?_)
      · exact HS1.out _ _ _ s6
      clear hK K
      try simp only [Act.put, List.setIfInBounds_toArray, List.set_cons_zero, List.set_cons_succ]
      refine wpAnyH_done (by kernel_rfl) ?_ _
      refine NoPanic.normal ?_
      have hnew : w6.ownsRow w5.heap.size 76 2 (.slice p5 (l[k].opens.length + 1) c5) (l[k].opens ++ [(⟨ps, bs⟩ : Wr)]).length (wrCells (l[k].opens ++ [(⟨ps, bs⟩ : Wr)])) := owns_snoc (x := ⟨ps, bs⟩) hO6.out
      have hB : B ≤ w5.heap.size := by have := HB.out.size; omega
      have h1 := put_open (HOWN.out.below (below_then HB.out N6)) rfl hk ⟨l[k].name, l[k].safe, (.slice p5 (l[k].opens.length + 1) c5), l[k].opens ++ [⟨ps, bs⟩]⟩ rfl rfl (owns_mono hnew hB)
      have h2 : w.grownBy (w6.setCell ⟨g, k * 3 + 2, none⟩ (.slice p5 (l[k].opens.length + 1) c5)) (some g) := grown_set (below_grownBy (below_then HB.out N6)) (.inl rfl) _ _
      have h3 := (HD5.out.keep N6).far hgw (k * 3 + 2) (.slice p5 (l[k].opens.length + 1) c5)
      have h4 := (HR5.out.keep N6).far (show g ≠ w.heap.size + 1 + 1 by omega) (k * 3 + 2) (.slice p5 (l[k].opens.length + 1) c5)
      clear hnew hO6 hO4 hg4 hg6 s6 x6 y6 g6 hHeld HSS HS1 HFZ
      clear N6 N4
      revert h1 h2 h3 h4
      generalize w6.setCell ⟨g, k * 3 + 2, none⟩ (.slice p5 (l[k].opens.length + 1) c5) = W7
      intro hput hgr hd7 hr7
      have d7 := hd7.c
      have r7 := hr7.c
      have z7 := hr7.f
      have l7 := hd7.lt
      have l8 := hr7.lt
      have HP := Lib.hid hput
      have HG := Lib.hid hgr
      have HR := Lib.hid hr7
      clear hput hgr hd7 hr7
      go_wp2_with fail
      have hgf : w.grownBy (W7.setCell ⟨w.heap.size + 1 + 1, 0, none⟩ (.slice (some ⟨g, 0, none⟩) l.length cap)) (some g) := grown_set HG.out (.inr (by omega)) 0 _
      refine bodyPost_ret (v := .tuple #[.agg #[.slice (some ⟨g, 0, none⟩) l.length cap], .int .i64 0]) (by simp [results, Try.results47, go_sem, r7]) rfl
        ⟨_, _, rfl, ?_, HP.out.set HR.out _, fun h => absurd rfl h, hgf⟩
      rw [List.map_set]
      rfl
    exact AllReadyH.nil
  refine AllReadyH.cons (o := ⟨some 70, .load 56 (.tmp 69), _, _, _, none⟩) rfl (fun K hK => ?_) ?_
  · have hG : ∀ W, Below w5.heap.size w5 W → W.cell? ⟨g, k * 3 + 2, none⟩ = some (.slice p3 l[k].opens.length cap3) := fun W h => below_cell h e2
    have hG1 := hG _ (nb_drew (nb_refl w5))
    go_simp
    refine hK.out _ _ ?_ (fun hHeld => ?_)
    · first | (with_reducible refine HSS.out _ ?_; (repeat (first | with_reducible exact N6 | with_reducible exact N4 | with_reducible exact nb_refl _ | with_reducible refine nb_drew ?_ | with_reducible refine nb_alloc ?_ _))) | exact HSS.out _ (by (repeat (first | with_reducible exact N6 | with_reducible exact N4 | with_reducible exact nb_refl _ | with_reducible refine nb_drew ?_ | with_reducible refine nb_alloc ?_ _)))
    clear hK K
    try simp only [Act.put, List.setIfInBounds_toArray, List.set_cons_zero, List.set_cons_succ]
    refine wpAnyH_ready (rs := [3, 16]) (by kernel_rfl) (by simp) ?_
    refine AllReadyH.cons (o := ⟨some 64, .buildSlice 56 0 #[], _, _, _, none⟩) rfl (fun K hK => ?_) ?_
    · go_simp
      refine hK.out _ _ ?_ (fun hHeld => ?_)
      · first | (with_reducible refine HSS.out _ ?_; (repeat (first | with_reducible exact N6 | with_reducible exact N4 | with_reducible exact nb_refl _ | with_reducible refine nb_drew ?_ | with_reducible refine nb_alloc ?_ _))) | exact HSS.out _ (by (repeat (first | with_reducible exact N6 | with_reducible exact N4 | with_reducible exact nb_refl _ | with_reducible refine nb_drew ?_ | with_reducible refine nb_alloc ?_ _)))
      clear hK K
      try simp only [Act.put, List.setIfInBounds_toArray, List.set_cons_zero, List.set_cons_succ]
      refine wpAnyH_ready (rs := [10, 16]) (by kernel_rfl) (by simp) ?_
      refine AllReadyH.cons (o := ⟨some 71, .call { callee := .builtin .append, args := #[.tmp 64, .tmp 70], argTypes := #[56, 56] }, _, _, _, none⟩) rfl (fun K hK => ?_) ?_
      · refine step_append_fresh rfl _ _ 56 rfl w5.heap.size 76 i1 (.agg #[.int .i64 0, .string .empty]) 2 24 Try.underlying56 hj hy0 hy1 hy2 rfl (by decide) _ rfl ?own (.slice p3 l[k].opens.length cap3) l[k].opens.length (wrCells l[k].opens) rfl ?rd (wr_one _) ?m1 ?m2 ?m3 ?_
        case own => (show Emp37 _ _ _; (repeat (first | with_reducible exact emp37_new | with_reducible exact emp37_new2 | with_reducible refine emp37_drew ?_ | with_reducible refine emp37_old ?_ _)))
        case rd => exact HOP5.out _ (by (repeat (first | with_reducible exact N6 | with_reducible exact N4 | with_reducible exact nb_refl _ | with_reducible refine nb_drew ?_ | with_reducible refine nb_alloc ?_ _)))
        case m1 => unfold maxLen; omega
        case m2 => omega
        case m3 => exact Below.size (by (repeat (first | with_reducible exact N6 | with_reducible exact N4 | with_reducible exact nb_refl _ | with_reducible refine nb_drew ?_ | with_reducible refine nb_alloc ?_ _)))
        intro p4 c4 w4 hO4 hg4
        have N4 : Below w5.heap.size w5 w4 := Below.grown (by (repeat (first | with_reducible exact N6 | with_reducible exact N4 | with_reducible exact nb_refl _ | with_reducible refine nb_drew ?_ | with_reducible refine nb_alloc ?_ _))) hg4 (Below.size (by (repeat (first | with_reducible exact N6 | with_reducible exact N4 | with_reducible exact nb_refl _ | with_reducible refine nb_drew ?_ | with_reducible refine nb_alloc ?_ _)))) (fun j hj => by have := Option.some.inj hj; (try simp only [World.size_alloc] at this); (first | omega | (simp [World.drew] at this; omega)))
        refine hK.out _ _ ?_ (fun hHeld => ?_)
        · exact HSS.out _ N4
        clear hK K
        try simp only [Act.put, List.setIfInBounds_toArray, List.set_cons_zero, List.set_cons_succ]
        refine wpAnyH_ready (rs := [16]) (by kernel_rfl) (by simp) ?_
        refine AllReadyH.cons (o := ⟨some 77, .buildSlice 56 1 #[(0, .tmp 76)], _, _, _, none⟩) rfl (fun K hK => ?_) ?_
        rotate_left
        · exact AllReadyH.nil
        go_simp
        refine hK.out _ _ ?_ (fun hHeld => ?_)
        · first | (with_reducible refine HSS.out _ ?_; (repeat (first | with_reducible exact N6 | with_reducible exact N4 | with_reducible exact nb_refl _ | with_reducible refine nb_drew ?_ | with_reducible refine nb_alloc ?_ _))) | exact HSS.out _ (by (repeat (first | with_reducible exact N6 | with_reducible exact N4 | with_reducible exact nb_refl _ | with_reducible refine nb_drew ?_ | with_reducible refine nb_alloc ?_ _)))
        clear hK K
        try simp only [Act.put, List.setIfInBounds_toArray, List.set_cons_zero, List.set_cons_succ]
        refine wpAnyH_ready (rs := [17]) (by kernel_rfl) (by simp) ?_
        refine AllReadyH.cons (o := ⟨some 78, .call { callee := .builtin .append, args := #[.tmp 71, .tmp 77], argTypes := #[56, 56] }, _, _, _, none⟩) rfl (fun K hK => ?_) ?_
        rotate_left
        · exact AllReadyH.nil
        refine step_append_reads rfl _ _ 56 rfl w5.heap.size 76 i1 (.agg #[.int .i64 0, .string .empty]) 2 24 Try.underlying56 hj hy0 hy1 hy2 rfl (by decide) (.slice p4 l[k].opens.length c4) l[k].opens.length (wrCells l[k].opens) rfl ?own _ 1 [.int .i64 ps, .string bs] rfl ?rd (two_one _ _) ?m1 ?m2 ?m3 ?_
        case own => first | exact hO4.out | exact owns_below hO4.out (below1 _ _)
        case rd => first | exact Wr1.reads X1 | exact Wr1.reads Wr1.new | exact Wr1.reads (Wr1.drew Wr1.new)
        case m1 => unfold maxLen; omega
        case m2 => omega
        case m3 => exact Below.size (by (repeat (first | with_reducible exact N6 | with_reducible exact N4 | with_reducible exact nb_refl _ | with_reducible refine nb_drew ?_ | with_reducible refine nb_alloc ?_ _)))
        intro p5 c5 w6 hO6 hg6
        have N6 : Below w5.heap.size w5 w6 := below_grown (by (repeat (first | with_reducible exact N6 | with_reducible exact N4 | with_reducible exact nb_refl _ | with_reducible refine nb_drew ?_ | with_reducible refine nb_alloc ?_ _))) (by first | exact hO4.out | exact owns_below hO4.out (below1 _ _)) hg6
        have s6 := HSS.out _ N6
        have x6 := below_cell N6 e2
        have y6 := (N6.frozen (p := ⟨g, k * 3 + 2, none⟩) lg).trans (HFZ.out (k * 3 + 2))
        have g6 := lt_of_cell x6
        refine hK.out _ _ ?_ (fun hHeld => ?_)
        · exact s6
        clear hK K
        try simp only [Act.put, List.setIfInBounds_toArray, List.set_cons_zero, List.set_cons_succ]
        refine wpAnyH_take (i := 18) (oi := ⟨some 79, .indexAddr 22 (.tmp 62) (.tmp 63), _, _, _, none⟩) (v := ?_) rfl (by kernel_rfl) (by kernel_rfl) (by kernel_rfl) (fun _ _ _ h => h) (Or.inl ⟨by rfl, ?_⟩) (by assumption) ?_
        rotate_left
        · (intro w hSw; (try dsimp only at hSw); go_simp; try with_reducible rfl)
        try simp only [Act.put, List.setIfInBounds_toArray, List.set_cons_zero, List.set_cons_succ]
        refine wpAnyH_take (i := 19) (oi := ⟨some 80, .fieldAddr 58 (.tmp 79) 2, _, _, _, none⟩) (v := ?_) rfl (by kernel_rfl) (by kernel_rfl) (by kernel_rfl) (fun _ _ _ h => h) (Or.inl ⟨by rfl, ?_⟩) (by assumption) ?_
        rotate_left
        · (intro w hSw; (try dsimp only at hSw); go_simp; try with_reducible rfl)
        try simp only [Act.put, List.setIfInBounds_toArray, List.set_cons_zero, List.set_cons_succ]
        refine wpAnyH_ready (rs := [20]) (by kernel_rfl) (by simp) ?_
        refine AllReadyH.cons (o := ⟨none, .store 56 (.tmp 80) (.tmp 78), _, _, _, none⟩) rfl (fun K hK => ?_) ?_
        rotate_left
        · exact AllReadyH.nil
        go_simp
        refine hK.out _ _ ?_ (fun hHeld => ?_)
        · exact HS1.out _ _ _ s6
        clear hK K
        try simp only [Act.put, List.setIfInBounds_toArray, List.set_cons_zero, List.set_cons_succ]
        refine wpAnyH_done (by kernel_rfl) ?_ _
        refine NoPanic.normal ?_
        have hnew : w6.ownsRow w5.heap.size 76 2 (.slice p5 (l[k].opens.length + 1) c5) (l[k].opens ++ [(⟨ps, bs⟩ : Wr)]).length (wrCells (l[k].opens ++ [(⟨ps, bs⟩ : Wr)])) := owns_snoc (x := ⟨ps, bs⟩) hO6.out
        have hB : B ≤ w5.heap.size := by have := HB.out.size; omega
        have h1 := put_open (HOWN.out.below (below_then HB.out N6)) rfl hk ⟨l[k].name, l[k].safe, (.slice p5 (l[k].opens.length + 1) c5), l[k].opens ++ [⟨ps, bs⟩]⟩ rfl rfl (owns_mono hnew hB)
        have h2 : w.grownBy (w6.setCell ⟨g, k * 3 + 2, none⟩ (.slice p5 (l[k].opens.length + 1) c5)) (some g) := grown_set (below_grownBy (below_then HB.out N6)) (.inl rfl) _ _
        have h3 := (HD5.out.keep N6).far hgw (k * 3 + 2) (.slice p5 (l[k].opens.length + 1) c5)
        have h4 := (HR5.out.keep N6).far (show g ≠ w.heap.size + 1 + 1 by omega) (k * 3 + 2) (.slice p5 (l[k].opens.length + 1) c5)
        clear hnew hO6 hO4 hg4 hg6 s6 x6 y6 g6 hHeld HSS HS1 HFZ
        clear N6 N4
        revert h1 h2 h3 h4
        generalize w6.setCell ⟨g, k * 3 + 2, none⟩ (.slice p5 (l[k].opens.length + 1) c5) = W7
        intro hput hgr hd7 hr7
        have d7 := hd7.c
        have r7 := hr7.c
        have z7 := hr7.f
        have l7 := hd7.lt
        have l8 := hr7.lt
        have HP := Lib.hid hput
        have HG := Lib.hid hgr
        have HR := Lib.hid hr7
        clear hput hgr hd7 hr7
        go_wp2_with fail
        have hgf : w.grownBy (W7.setCell ⟨w.heap.size + 1 + 1, 0, none⟩ (.slice (some ⟨g, 0, none⟩) l.length cap)) (some g) := grown_set HG.out (.inr (by omega)) 0 _
        refine bodyPost_ret (v := .tuple #[.agg #[.slice (some ⟨g, 0, none⟩) l.length cap], .int .i64 0]) (by simp [results, Try.results47, go_sem, r7]) rfl
          ⟨_, _, rfl, ?_, HP.out.set HR.out _, fun h => absurd rfl h, hgf⟩
        rw [List.map_set]
        rfl
      refine AllReadyH.cons (o := ⟨some 77, .buildSlice 56 1 #[(0, .tmp 76)], _, _, _, none⟩) rfl (fun K hK => ?_) ?_
      · go_simp
        refine hK.out _ _ ?_ (fun hHeld => ?_)
        · first | (with_reducible refine HSS.out _ ?_; (repeat (first | with_reducible exact N6 | with_reducible exact N4 | with_reducible exact nb_refl _ | with_reducible refine nb_drew ?_ | with_reducible refine nb_alloc ?_ _))) | exact HSS.out _ (by (repeat (first | with_reducible exact N6 | with_reducible exact N4 | with_reducible exact nb_refl _ | with_reducible refine nb_drew ?_ | with_reducible refine nb_alloc ?_ _)))
        clear hK K
        try simp only [Act.put, List.setIfInBounds_toArray, List.set_cons_zero, List.set_cons_succ]
        refine wpAnyH_ready (rs := [10]) (by kernel_rfl) (by simp) ?_
        refine AllReadyH.cons (o := ⟨some 71, .call { callee := .builtin .append, args := #[.tmp 64, .tmp 70], argTypes := #[56, 56] }, _, _, _, none⟩) rfl (fun K hK => ?_) ?_
        rotate_left
        · exact AllReadyH.nil
        refine step_append_fresh rfl _ _ 56 rfl w5.heap.size 76 i1 (.agg #[.int .i64 0, .string .empty]) 2 24 Try.underlying56 hj hy0 hy1 hy2 rfl (by decide) _ rfl ?own (.slice p3 l[k].opens.length cap3) l[k].opens.length (wrCells l[k].opens) rfl ?rd (wr_one _) ?m1 ?m2 ?m3 ?_
        case own => (show Emp37 _ _ _; (repeat (first | with_reducible exact emp37_new | with_reducible exact emp37_new2 | with_reducible refine emp37_drew ?_ | with_reducible refine emp37_old ?_ _)))
        case rd => exact HOP5.out _ (by (repeat (first | with_reducible exact N6 | with_reducible exact N4 | with_reducible exact nb_refl _ | with_reducible refine nb_drew ?_ | with_reducible refine nb_alloc ?_ _)))
        case m1 => unfold maxLen; omega
        case m2 => omega
        case m3 => exact Below.size (by (repeat (first | with_reducible exact N6 | with_reducible exact N4 | with_reducible exact nb_refl _ | with_reducible refine nb_drew ?_ | with_reducible refine nb_alloc ?_ _)))
        intro p4 c4 w4 hO4 hg4
        have N4 : Below w5.heap.size w5 w4 := Below.grown (by (repeat (first | with_reducible exact N6 | with_reducible exact N4 | with_reducible exact nb_refl _ | with_reducible refine nb_drew ?_ | with_reducible refine nb_alloc ?_ _))) hg4 (Below.size (by (repeat (first | with_reducible exact N6 | with_reducible exact N4 | with_reducible exact nb_refl _ | with_reducible refine nb_drew ?_ | with_reducible refine nb_alloc ?_ _)))) (fun j hj => by have := Option.some.inj hj; (try simp only [World.size_alloc] at this); (first | omega | (simp [World.drew] at this; omega)))
        have X1 : Wr1 w4 (w5.heap.size + 1) ps bs := Wr1.kept (by (repeat (first | with_reducible exact Wr1.new | with_reducible exact Wr1.new2 | with_reducible refine Wr1.drew ?_ | with_reducible refine Wr1.old ?_ _))) hg4 (by simp)
        refine hK.out _ _ ?_ (fun hHeld => ?_)
        · exact HSS.out _ N4
        clear hK K
        try simp only [Act.put, List.setIfInBounds_toArray, List.set_cons_zero, List.set_cons_succ]
        refine wpAnyH_ready (rs := [17]) (by kernel_rfl) (by simp) ?_
        refine AllReadyH.cons (o := ⟨some 78, .call { callee := .builtin .append, args := #[.tmp 71, .tmp 77], argTypes := #[56, 56] }, _, _, _, none⟩) rfl (fun K hK => ?_) ?_
        rotate_left
        · exact AllReadyH.nil
        refine step_append_reads rfl _ _ 56 rfl w5.heap.size 76 i1 (.agg #[.int .i64 0, .string .empty]) 2 24 Try.underlying56 hj hy0 hy1 hy2 rfl (by decide) (.slice p4 l[k].opens.length c4) l[k].opens.length (wrCells l[k].opens) rfl ?own _ 1 [.int .i64 ps, .string bs] rfl ?rd (two_one _ _) ?m1 ?m2 ?m3 ?_
        case own => first | exact hO4.out | exact owns_below hO4.out (below1 _ _)
        case rd => first | exact Wr1.reads X1 | exact Wr1.reads Wr1.new | exact Wr1.reads (Wr1.drew Wr1.new)
        case m1 => unfold maxLen; omega
        case m2 => omega
        case m3 => exact Below.size (by (repeat (first | with_reducible exact N6 | with_reducible exact N4 | with_reducible exact nb_refl _ | with_reducible refine nb_drew ?_ | with_reducible refine nb_alloc ?_ _)))
        intro p5 c5 w6 hO6 hg6
        have N6 : Below w5.heap.size w5 w6 := below_grown (by (repeat (first | with_reducible exact N6 | with_reducible exact N4 | with_reducible exact nb_refl _ | with_reducible refine nb_drew ?_ | with_reducible refine nb_alloc ?_ _))) (by first | exact hO4.out | exact owns_below hO4.out (below1 _ _)) hg6
        have s6 := HSS.out _ N6
        have x6 := below_cell N6 e2
        have y6 := (N6.frozen (p := ⟨g, k * 3 + 2, none⟩) lg).trans (HFZ.out (k * 3 + 2))
        have g6 := lt_of_cell x6
        refine hK.out _ _ ?_ (fun hHeld => ?_)
        · exact s6
        clear hK K
        try simp only [Act.put, List.setIfInBounds_toArray, List.set_cons_zero, List.set_cons_succ]
        refine wpAnyH_take (i := 18) (oi := ⟨some 79, .indexAddr 22 (.tmp 62) (.tmp 63), _, _, _, none⟩) (v := ?_) rfl (by kernel_rfl) (by kernel_rfl) (by kernel_rfl) (fun _ _ _ h => h) (Or.inl ⟨by rfl, ?_⟩) (by assumption) ?_
        rotate_left
        · (intro w hSw; (try dsimp only at hSw); go_simp; try with_reducible rfl)
        try simp only [Act.put, List.setIfInBounds_toArray, List.set_cons_zero, List.set_cons_succ]
        refine wpAnyH_take (i := 19) (oi := ⟨some 80, .fieldAddr 58 (.tmp 79) 2, _, _, _, none⟩) (v := ?_) rfl (by kernel_rfl) (by kernel_rfl) (by kernel_rfl) (fun _ _ _ h => h) (Or.inl ⟨by rfl, ?_⟩) (by assumption) ?_
        rotate_left
        · (intro w hSw; (try dsimp only at hSw); go_simp; try with_reducible rfl)
        try simp only [Act.put, List.setIfInBounds_toArray, List.set_cons_zero, List.set_cons_succ]
        refine wpAnyH_ready (rs := [20]) (by kernel_rfl) (by simp) ?_
        refine AllReadyH.cons (o := ⟨none, .store 56 (.tmp 80) (.tmp 78), _, _, _, none⟩) rfl (fun K hK => ?_) ?_
        rotate_left
        · exact AllReadyH.nil
        go_simp
        refine hK.out _ _ ?_ (fun hHeld => ?_)
        · exact HS1.out _ _ _ s6
        clear hK K
        try simp only [Act.put, List.setIfInBounds_toArray, List.set_cons_zero, List.set_cons_succ]
        refine wpAnyH_done (by kernel_rfl) ?_ _
        refine NoPanic.normal ?_
        have hnew : w6.ownsRow w5.heap.size 76 2 (.slice p5 (l[k].opens.length + 1) c5) (l[k].opens ++ [(⟨ps, bs⟩ : Wr)]).length (wrCells (l[k].opens ++ [(⟨ps, bs⟩ : Wr)])) := owns_snoc (x := ⟨ps, bs⟩) hO6.out
        have hB : B ≤ w5.heap.size := by have := HB.out.size; omega
        have h1 := put_open (HOWN.out.below (below_then HB.out N6)) rfl hk ⟨l[k].name, l[k].safe, (.slice p5 (l[k].opens.length + 1) c5), l[k].opens ++ [⟨ps, bs⟩]⟩ rfl rfl (owns_mono hnew hB)
        have h2 : w.grownBy (w6.setCell ⟨g, k * 3 + 2, none⟩ (.slice p5 (l[k].opens.length + 1) c5)) (some g) := grown_set (below_grownBy (below_then HB.out N6)) (.inl rfl) _ _
        have h3 := (HD5.out.keep N6).far hgw (k * 3 + 2) (.slice p5 (l[k].opens.length + 1) c5)
        have h4 := (HR5.out.keep N6).far (show g ≠ w.heap.size + 1 + 1 by omega) (k * 3 + 2) (.slice p5 (l[k].opens.length + 1) c5)
        clear hnew hO6 hO4 hg4 hg6 s6 x6 y6 g6 hHeld HSS HS1 HFZ
        clear N6 N4
        revert h1 h2 h3 h4
        generalize w6.setCell ⟨g, k * 3 + 2, none⟩ (.slice p5 (l[k].opens.length + 1) c5) = W7
        intro hput hgr hd7 hr7
        have d7 := hd7.c
        have r7 := hr7.c
        have z7 := hr7.f
        have l7 := hd7.lt
        have l8 := hr7.lt
        have HP := Lib.hid hput
        have HG := Lib.hid hgr
        have HR := Lib.hid hr7
        clear hput hgr hd7 hr7
        go_wp2_with fail
        have hgf : w.grownBy (W7.setCell ⟨w.heap.size + 1 + 1, 0, none⟩ (.slice (some ⟨g, 0, none⟩) l.length cap)) (some g) := grown_set HG.out (.inr (by omega)) 0 _
        refine bodyPost_ret (v := .tuple #[.agg #[.slice (some ⟨g, 0, none⟩) l.length cap], .int .i64 0]) (by simp [results, Try.results47, go_sem, r7]) rfl
          ⟨_, _, rfl, ?_, HP.out.set HR.out _, fun h => absurd rfl h, hgf⟩
        rw [List.map_set]
        rfl
      exact AllReadyH.nil
    refine AllReadyH.cons (o := ⟨some 77, .buildSlice 56 1 #[(0, .tmp 76)], _, _, _, none⟩) rfl (fun K hK => ?_) ?_
    · go_simp
      refine hK.out _ _ ?_ (fun hHeld => ?_)
      · first | (with_reducible refine HSS.out _ ?_; (repeat (first | with_reducible exact N6 | with_reducible exact N4 | with_reducible exact nb_refl _ | with_reducible refine nb_drew ?_ | with_reducible refine nb_alloc ?_ _))) | exact HSS.out _ (by (repeat (first | with_reducible exact N6 | with_reducible exact N4 | with_reducible exact nb_refl _ | with_reducible refine nb_drew ?_ | with_reducible refine nb_alloc ?_ _)))
      clear hK K
      try simp only [Act.put, List.setIfInBounds_toArray, List.set_cons_zero, List.set_cons_succ]
      refine wpAnyH_ready (rs := [3]) (by kernel_rfl) (by simp) ?_
      refine AllReadyH.cons (o := ⟨some 64, .buildSlice 56 0 #[], _, _, _, none⟩) rfl (fun K hK => ?_) ?_
      rotate_left
      · exact AllReadyH.nil
      go_simp
      refine hK.out _ _ ?_ (fun hHeld => ?_)
      · first | (with_reducible refine HSS.out _ ?_; (repeat (first | with_reducible exact N6 | with_reducible exact N4 | with_reducible exact nb_refl _ | with_reducible refine nb_drew ?_ | with_reducible refine nb_alloc ?_ _))) | exact HSS.out _ (by (repeat (first | with_reducible exact N6 | with_reducible exact N4 | with_reducible exact nb_refl _ | with_reducible refine nb_drew ?_ | with_reducible refine nb_alloc ?_ _)))
      clear hK K
      try simp only [Act.put, List.setIfInBounds_toArray, List.set_cons_zero, List.set_cons_succ]
      refine wpAnyH_ready (rs := [10]) (by kernel_rfl) (by simp) ?_
      refine AllReadyH.cons (o := ⟨some 71, .call { callee := .builtin .append, args := #[.tmp 64, .tmp 70], argTypes := #[56, 56] }, _, _, _, none⟩) rfl (fun K hK => ?_) ?_
      rotate_left
      · exact AllReadyH.nil
      refine step_append_fresh rfl _ _ 56 rfl w5.heap.size 76 i1 (.agg #[.int .i64 0, .string .empty]) 2 24 Try.underlying56 hj hy0 hy1 hy2 rfl (by decide) _ rfl ?own (.slice p3 l[k].opens.length cap3) l[k].opens.length (wrCells l[k].opens) rfl ?rd (wr_one _) ?m1 ?m2 ?m3 ?_
      case own => (show Emp37 _ _ _; (repeat (first | with_reducible exact emp37_new | with_reducible exact emp37_new2 | with_reducible refine emp37_drew ?_ | with_reducible refine emp37_old ?_ _)))
      case rd => exact HOP5.out _ (by (repeat (first | with_reducible exact N6 | with_reducible exact N4 | with_reducible exact nb_refl _ | with_reducible refine nb_drew ?_ | with_reducible refine nb_alloc ?_ _)))
      case m1 => unfold maxLen; omega
      case m2 => omega
      case m3 => exact Below.size (by (repeat (first | with_reducible exact N6 | with_reducible exact N4 | with_reducible exact nb_refl _ | with_reducible refine nb_drew ?_ | with_reducible refine nb_alloc ?_ _)))
      intro p4 c4 w4 hO4 hg4
      have N4 : Below w5.heap.size w5 w4 := Below.grown (by (repeat (first | with_reducible exact N6 | with_reducible exact N4 | with_reducible exact nb_refl _ | with_reducible refine nb_drew ?_ | with_reducible refine nb_alloc ?_ _))) hg4 (Below.size (by (repeat (first | with_reducible exact N6 | with_reducible exact N4 | with_reducible exact nb_refl _ | with_reducible refine nb_drew ?_ | with_reducible refine nb_alloc ?_ _)))) (fun j hj => by have := Option.some.inj hj; (try simp only [World.size_alloc] at this); (first | omega | (simp [World.drew] at this; omega)))
      have X1 : Wr1 w4 (w5.heap.size) ps bs := Wr1.kept (by (repeat (first | with_reducible exact Wr1.new | with_reducible exact Wr1.new2 | with_reducible refine Wr1.drew ?_ | with_reducible refine Wr1.old ?_ _))) hg4 (by simp)
      refine hK.out _ _ ?_ (fun hHeld => ?_)
      · exact HSS.out _ N4
      clear hK K
      try simp only [Act.put, List.setIfInBounds_toArray, List.set_cons_zero, List.set_cons_succ]
      refine wpAnyH_ready (rs := [17]) (by kernel_rfl) (by simp) ?_
      refine AllReadyH.cons (o := ⟨some 78, .call { callee := .builtin .append, args := #[.tmp 71, .tmp 77], argTypes := #[56, 56] }, _, _, _, none⟩) rfl (fun K hK => ?_) ?_
      rotate_left
      · exact AllReadyH.nil
      refine step_append_reads rfl _ _ 56 rfl w5.heap.size 76 i1 (.agg #[.int .i64 0, .string .empty]) 2 24 Try.underlying56 hj hy0 hy1 hy2 rfl (by decide) (.slice p4 l[k].opens.length c4) l[k].opens.length (wrCells l[k].opens) rfl ?own _ 1 [.int .i64 ps, .string bs] rfl ?rd (two_one _ _) ?m1 ?m2 ?m3 ?_
      case own => first | exact hO4.out | exact owns_below hO4.out (below1 _ _)
      case rd => first | exact Wr1.reads X1 | exact Wr1.reads Wr1.new | exact Wr1.reads (Wr1.drew Wr1.new)
      case m1 => unfold maxLen; omega
      case m2 => omega
      case m3 => exact Below.size (by (repeat (first | with_reducible exact N6 | with_reducible exact N4 | with_reducible exact nb_refl _ | with_reducible refine nb_drew ?_ | with_reducible refine nb_alloc ?_ _)))
      intro p5 c5 w6 hO6 hg6
      have N6 : Below w5.heap.size w5 w6 := below_grown (by (repeat (first | with_reducible exact N6 | with_reducible exact N4 | with_reducible exact nb_refl _ | with_reducible refine nb_drew ?_ | with_reducible refine nb_alloc ?_ _))) (by first | exact hO4.out | exact owns_below hO4.out (below1 _ _)) hg6
      have s6 := HSS.out _ N6
      have x6 := below_cell N6 e2
      have y6 := (N6.frozen (p := ⟨g, k * 3 + 2, none⟩) lg).trans (HFZ.out (k * 3 + 2))
      have g6 := lt_of_cell x6
      refine hK.out _ _ ?_ (fun hHeld => ?_)
      · exact s6
      clear hK K
      try simp only [Act.put, List.setIfInBounds_toArray, List.set_cons_zero, List.set_cons_succ]
      refine wpAnyH_take (i := 18) (oi := ⟨some 79, .indexAddr 22 (.tmp 62) (.tmp 63), _, _, _, none⟩) (v := ?_) rfl (by kernel_rfl) (by kernel_rfl) (by kernel_rfl) (fun _ _ _ h => h) (Or.inl ⟨by rfl, ?_⟩) (by assumption) ?_
      rotate_left
      · (intro w hSw; (try dsimp only at hSw); go_simp; try with_reducible rfl)
      try simp only [Act.put, List.setIfInBounds_toArray, List.set_cons_zero, List.set_cons_succ]
      refine wpAnyH_take (i := 19) (oi := ⟨some 80, .fieldAddr 58 (.tmp 79) 2, _, _, _, none⟩) (v := ?_) rfl (by kernel_rfl) (by kernel_rfl) (by kernel_rfl) (fun _ _ _ h => h) (Or.inl ⟨by rfl, ?_⟩) (by assumption) ?_
      rotate_left
      · (intro w hSw; (try dsimp only at hSw); go_simp; try with_reducible rfl)
      try simp only [Act.put, List.setIfInBounds_toArray, List.set_cons_zero, List.set_cons_succ]
      refine wpAnyH_ready (rs := [20]) (by kernel_rfl) (by simp) ?_
      refine AllReadyH.cons (o := ⟨none, .store 56 (.tmp 80) (.tmp 78), _, _, _, none⟩) rfl (fun K hK => ?_) ?_
      rotate_left
      · exact AllReadyH.nil
      go_simp
      refine hK.out _ _ ?_ (fun hHeld => ?_)
      · exact HS1.out _ _ _ s6
      clear hK K
      try simp only [Act.put, List.setIfInBounds_toArray, List.set_cons_zero, List.set_cons_succ]
      refine wpAnyH_done (by kernel_rfl) ?_ _
      refine NoPanic.normal ?_
      have hnew : w6.ownsRow w5.heap.size 76 2 (.slice p5 (l[k].opens.length + 1) c5) (l[k].opens ++ [(⟨ps, bs⟩ : Wr)]).length (wrCells (l[k].opens ++ [(⟨ps, bs⟩ : Wr)])) := owns_snoc (x := ⟨ps, bs⟩) hO6.out
      have hB : B ≤ w5.heap.size := by have := HB.out.size; omega
      have h1 := put_open (HOWN.out.below (below_then HB.out N6)) rfl hk ⟨l[k].name, l[k].safe, (.slice p5 (l[k].opens.length + 1) c5), l[k].opens ++ [⟨ps, bs⟩]⟩ rfl rfl (owns_mono hnew hB)
      have h2 : w.grownBy (w6.setCell ⟨g, k * 3 + 2, none⟩ (.slice p5 (l[k].opens.length + 1) c5)) (some g) := grown_set (below_grownBy (below_then HB.out N6)) (.inl rfl) _ _
      have h3 := (HD5.out.keep N6).far hgw (k * 3 + 2) (.slice p5 (l[k].opens.length + 1) c5)
      have h4 := (HR5.out.keep N6).far (show g ≠ w.heap.size + 1 + 1 by omega) (k * 3 + 2) (.slice p5 (l[k].opens.length + 1) c5)
      clear hnew hO6 hO4 hg4 hg6 s6 x6 y6 g6 hHeld HSS HS1 HFZ
      clear N6 N4
      revert h1 h2 h3 h4
      generalize w6.setCell ⟨g, k * 3 + 2, none⟩ (.slice p5 (l[k].opens.length + 1) c5) = W7
      intro hput hgr hd7 hr7
      have d7 := hd7.c
      have r7 := hr7.c
      have z7 := hr7.f
      have l7 := hd7.lt
      have l8 := hr7.lt
      have HP := Lib.hid hput
      have HG := Lib.hid hgr
      have HR := Lib.hid hr7
      clear hput hgr hd7 hr7
      go_wp2_with fail
      have hgf : w.grownBy (W7.setCell ⟨w.heap.size + 1 + 1, 0, none⟩ (.slice (some ⟨g, 0, none⟩) l.length cap)) (some g) := grown_set HG.out (.inr (by omega)) 0 _
      refine bodyPost_ret (v := .tuple #[.agg #[.slice (some ⟨g, 0, none⟩) l.length cap], .int .i64 0]) (by simp [results, Try.results47, go_sem, r7]) rfl
        ⟨_, _, rfl, ?_, HP.out.set HR.out _, fun h => absurd rfl h, hgf⟩
      rw [List.map_set]
      rfl
    exact AllReadyH.nil
  refine AllReadyH.cons (o := ⟨some 77, .buildSlice 56 1 #[(0, .tmp 76)], _, _, _, none⟩) rfl (fun K hK => ?_) ?_
  · go_simp
    refine hK.out _ _ ?_ (fun hHeld => ?_)
    · first | (with_reducible refine HSS.out _ ?_; (repeat (first | with_reducible exact N6 | with_reducible exact N4 | with_reducible exact nb_refl _ | with_reducible refine nb_drew ?_ | with_reducible refine nb_alloc ?_ _))) | exact HSS.out _ (by (repeat (first | with_reducible exact N6 | with_reducible exact N4 | with_reducible exact nb_refl _ | with_reducible refine nb_drew ?_ | with_reducible refine nb_alloc ?_ _)))
    clear hK K
    try simp only [Act.put, List.setIfInBounds_toArray, List.set_cons_zero, List.set_cons_succ]
    refine wpAnyH_ready (rs := [3, 9]) (by kernel_rfl) (by simp) ?_
    refine AllReadyH.cons (o := ⟨some 64, .buildSlice 56 0 #[], _, _, _, none⟩) rfl (fun K hK => ?_) ?_
    · go_simp
      refine hK.out _ _ ?_ (fun hHeld => ?_)
      · first | (with_reducible refine HSS.out _ ?_; (repeat (first | with_reducible exact N6 | with_reducible exact N4 | with_reducible exact nb_refl _ | with_reducible refine nb_drew ?_ | with_reducible refine nb_alloc ?_ _))) | exact HSS.out _ (by (repeat (first | with_reducible exact N6 | with_reducible exact N4 | with_reducible exact nb_refl _ | with_reducible refine nb_drew ?_ | with_reducible refine nb_alloc ?_ _)))
      clear hK K
      try simp only [Act.put, List.setIfInBounds_toArray, List.set_cons_zero, List.set_cons_succ]
      refine wpAnyH_ready (rs := [9]) (by kernel_rfl) (by simp) ?_
      refine AllReadyH.cons (o := ⟨some 70, .load 56 (.tmp 69), _, _, _, none⟩) rfl (fun K hK => ?_) ?_
      rotate_left
      · exact AllReadyH.nil
      have hG : ∀ W, Below w5.heap.size w5 W → W.cell? ⟨g, k * 3 + 2, none⟩ = some (.slice p3 l[k].opens.length cap3) := fun W h => below_cell h e2
      have hG1 := hG _ (nb_drew (nb_refl w5))
      go_simp
      refine hK.out _ _ ?_ (fun hHeld => ?_)
      · first | (with_reducible refine HSS.out _ ?_; (repeat (first | with_reducible exact N6 | with_reducible exact N4 | with_reducible exact nb_refl _ | with_reducible refine nb_drew ?_ | with_reducible refine nb_alloc ?_ _))) | exact HSS.out _ (by (repeat (first | with_reducible exact N6 | with_reducible exact N4 | with_reducible exact nb_refl _ | with_reducible refine nb_drew ?_ | with_reducible refine nb_alloc ?_ _)))
      clear hK K
      try simp only [Act.put, List.setIfInBounds_toArray, List.set_cons_zero, List.set_cons_succ]
      refine wpAnyH_ready (rs := [10]) (by kernel_rfl) (by simp) ?_
      refine AllReadyH.cons (o := ⟨some 71, .call { callee := .builtin .append, args := #[.tmp 64, .tmp 70], argTypes := #[56, 56] }, _, _, _, none⟩) rfl (fun K hK => ?_) ?_
      rotate_left
      · exact AllReadyH.nil
      refine step_append_fresh rfl _ _ 56 rfl w5.heap.size 76 i1 (.agg #[.int .i64 0, .string .empty]) 2 24 Try.underlying56 hj hy0 hy1 hy2 rfl (by decide) _ rfl ?own (.slice p3 l[k].opens.length cap3) l[k].opens.length (wrCells l[k].opens) rfl ?rd (wr_one _) ?m1 ?m2 ?m3 ?_
      case own => (show Emp37 _ _ _; (repeat (first | with_reducible exact emp37_new | with_reducible exact emp37_new2 | with_reducible refine emp37_drew ?_ | with_reducible refine emp37_old ?_ _)))
      case rd => exact HOP5.out _ (by (repeat (first | with_reducible exact N6 | with_reducible exact N4 | with_reducible exact nb_refl _ | with_reducible refine nb_drew ?_ | with_reducible refine nb_alloc ?_ _)))
      case m1 => unfold maxLen; omega
      case m2 => omega
      case m3 => exact Below.size (by (repeat (first | with_reducible exact N6 | with_reducible exact N4 | with_reducible exact nb_refl _ | with_reducible refine nb_drew ?_ | with_reducible refine nb_alloc ?_ _)))
      intro p4 c4 w4 hO4 hg4
      have N4 : Below w5.heap.size w5 w4 := Below.grown (by (repeat (first | with_reducible exact N6 | with_reducible exact N4 | with_reducible exact nb_refl _ | with_reducible refine nb_drew ?_ | with_reducible refine nb_alloc ?_ _))) hg4 (Below.size (by (repeat (first | with_reducible exact N6 | with_reducible exact N4 | with_reducible exact nb_refl _ | with_reducible refine nb_drew ?_ | with_reducible refine nb_alloc ?_ _)))) (fun j hj => by have := Option.some.inj hj; (try simp only [World.size_alloc] at this); (first | omega | (simp [World.drew] at this; omega)))
      have X1 : Wr1 w4 (w5.heap.size) ps bs := Wr1.kept (by (repeat (first | with_reducible exact Wr1.new | with_reducible exact Wr1.new2 | with_reducible refine Wr1.drew ?_ | with_reducible refine Wr1.old ?_ _))) hg4 (by simp)
      refine hK.out _ _ ?_ (fun hHeld => ?_)
      · exact HSS.out _ N4
      clear hK K
      try simp only [Act.put, List.setIfInBounds_toArray, List.set_cons_zero, List.set_cons_succ]
      refine wpAnyH_ready (rs := [17]) (by kernel_rfl) (by simp) ?_
      refine AllReadyH.cons (o := ⟨some 78, .call { callee := .builtin .append, args := #[.tmp 71, .tmp 77], argTypes := #[56, 56] }, _, _, _, none⟩) rfl (fun K hK => ?_) ?_
      rotate_left
      · exact AllReadyH.nil
      refine step_append_reads rfl _ _ 56 rfl w5.heap.size 76 i1 (.agg #[.int .i64 0, .string .empty]) 2 24 Try.underlying56 hj hy0 hy1 hy2 rfl (by decide) (.slice p4 l[k].opens.length c4) l[k].opens.length (wrCells l[k].opens) rfl ?own _ 1 [.int .i64 ps, .string bs] rfl ?rd (two_one _ _) ?m1 ?m2 ?m3 ?_
      case own => first | exact hO4.out | exact owns_below hO4.out (below1 _ _)
      case rd => first | exact Wr1.reads X1 | exact Wr1.reads Wr1.new | exact Wr1.reads (Wr1.drew Wr1.new)
      case m1 => unfold maxLen; omega
      case m2 => omega
      case m3 => exact Below.size (by (repeat (first | with_reducible exact N6 | with_reducible exact N4 | with_reducible exact nb_refl _ | with_reducible refine nb_drew ?_ | with_reducible refine nb_alloc ?_ _)))
      intro p5 c5 w6 hO6 hg6
      have N6 : Below w5.heap.size w5 w6 := below_grown (by (repeat (first | with_reducible exact N6 | with_reducible exact N4 | with_reducible exact nb_refl _ | with_reducible refine nb_drew ?_ | with_reducible refine nb_alloc ?_ _))) (by first | exact hO4.out | exact owns_below hO4.out (below1 _ _)) hg6
      have s6 := HSS.out _ N6
      have x6 := below_cell N6 e2
      have y6 := (N6.frozen (p := ⟨g, k * 3 + 2, none⟩) lg).trans (HFZ.out (k * 3 + 2))
      have g6 := lt_of_cell x6
      refine hK.out _ _ ?_ (fun hHeld => ?_)
      · exact s6
      clear hK K
      try simp only [Act.put, List.setIfInBounds_toArray, List.set_cons_zero, List.set_cons_succ]
      refine wpAnyH_take (i := 18) (oi := ⟨some 79, .indexAddr 22 (.tmp 62) (.tmp 63), _, _, _, none⟩) (v := ?_) rfl (by kernel_rfl) (by kernel_rfl) (by kernel_rfl) (fun _ _ _ h => h) (Or.inl ⟨by rfl, ?_⟩) (by assumption) ?_
      rotate_left
      · (intro w hSw; (try dsimp only at hSw); go_simp; try with_reducible rfl)
      try simp only [Act.put, List.setIfInBounds_toArray, List.set_cons_zero, List.set_cons_succ]
      refine wpAnyH_take (i := 19) (oi := ⟨some 80, .fieldAddr 58 (.tmp 79) 2, _, _, _, none⟩) (v := ?_) rfl (by kernel_rfl) (by kernel_rfl) (by kernel_rfl) (fun _ _ _ h => h) (Or.inl ⟨by rfl, ?_⟩) (by assumption) ?_
      rotate_left
      · (intro w hSw; (try dsimp only at hSw); go_simp; try with_reducible rfl)
      try simp only [Act.put, List.setIfInBounds_toArray, List.set_cons_zero, List.set_cons_succ]
      refine wpAnyH_ready (rs := [20]) (by kernel_rfl) (by simp) ?_
      refine AllReadyH.cons (o := ⟨none, .store 56 (.tmp 80) (.tmp 78), _, _, _, none⟩) rfl (fun K hK => ?_) ?_
      rotate_left
      · exact AllReadyH.nil
      go_simp
      refine hK.out _ _ ?_ (fun hHeld => ?_)
      · exact HS1.out _ _ _ s6
      clear hK K
      try simp only [Act.put, List.setIfInBounds_toArray, List.set_cons_zero, List.set_cons_succ]
      refine wpAnyH_done (by kernel_rfl) ?_ _
      refine NoPanic.normal ?_
      have hnew : w6.ownsRow w5.heap.size 76 2 (.slice p5 (l[k].opens.length + 1) c5) (l[k].opens ++ [(⟨ps, bs⟩ : Wr)]).length (wrCells (l[k].opens ++ [(⟨ps, bs⟩ : Wr)])) := owns_snoc (x := ⟨ps, bs⟩) hO6.out
      have hB : B ≤ w5.heap.size := by have := HB.out.size; omega
      have h1 := put_open (HOWN.out.below (below_then HB.out N6)) rfl hk ⟨l[k].name, l[k].safe, (.slice p5 (l[k].opens.length + 1) c5), l[k].opens ++ [⟨ps, bs⟩]⟩ rfl rfl (owns_mono hnew hB)
      have h2 : w.grownBy (w6.setCell ⟨g, k * 3 + 2, none⟩ (.slice p5 (l[k].opens.length + 1) c5)) (some g) := grown_set (below_grownBy (below_then HB.out N6)) (.inl rfl) _ _
      have h3 := (HD5.out.keep N6).far hgw (k * 3 + 2) (.slice p5 (l[k].opens.length + 1) c5)
      have h4 := (HR5.out.keep N6).far (show g ≠ w.heap.size + 1 + 1 by omega) (k * 3 + 2) (.slice p5 (l[k].opens.length + 1) c5)
      clear hnew hO6 hO4 hg4 hg6 s6 x6 y6 g6 hHeld HSS HS1 HFZ
      clear N6 N4
      revert h1 h2 h3 h4
      generalize w6.setCell ⟨g, k * 3 + 2, none⟩ (.slice p5 (l[k].opens.length + 1) c5) = W7
      intro hput hgr hd7 hr7
      have d7 := hd7.c
      have r7 := hr7.c
      have z7 := hr7.f
      have l7 := hd7.lt
      have l8 := hr7.lt
      have HP := Lib.hid hput
      have HG := Lib.hid hgr
      have HR := Lib.hid hr7
      clear hput hgr hd7 hr7
      go_wp2_with fail
      have hgf : w.grownBy (W7.setCell ⟨w.heap.size + 1 + 1, 0, none⟩ (.slice (some ⟨g, 0, none⟩) l.length cap)) (some g) := grown_set HG.out (.inr (by omega)) 0 _
      refine bodyPost_ret (v := .tuple #[.agg #[.slice (some ⟨g, 0, none⟩) l.length cap], .int .i64 0]) (by simp [results, Try.results47, go_sem, r7]) rfl
        ⟨_, _, rfl, ?_, HP.out.set HR.out _, fun h => absurd rfl h, hgf⟩
      rw [List.map_set]
      rfl
    refine AllReadyH.cons (o := ⟨some 70, .load 56 (.tmp 69), _, _, _, none⟩) rfl (fun K hK => ?_) ?_
    · have hG : ∀ W, Below w5.heap.size w5 W → W.cell? ⟨g, k * 3 + 2, none⟩ = some (.slice p3 l[k].opens.length cap3) := fun W h => below_cell h e2
      have hG1 := hG _ (nb_drew (nb_refl w5))
      go_simp
      refine hK.out _ _ ?_ (fun hHeld => ?_)
      · first | (with_reducible refine HSS.out _ ?_; (repeat (first | with_reducible exact N6 | with_reducible exact N4 | with_reducible exact nb_refl _ | with_reducible refine nb_drew ?_ | with_reducible refine nb_alloc ?_ _))) | exact HSS.out _ (by (repeat (first | with_reducible exact N6 | with_reducible exact N4 | with_reducible exact nb_refl _ | with_reducible refine nb_drew ?_ | with_reducible refine nb_alloc ?_ _)))
      clear hK K
      try simp only [Act.put, List.setIfInBounds_toArray, List.set_cons_zero, List.set_cons_succ]
      refine wpAnyH_ready (rs := [3]) (by kernel_rfl) (by simp) ?_
      refine AllReadyH.cons (o := ⟨some 64, .buildSlice 56 0 #[], _, _, _, none⟩) rfl (fun K hK => ?_) ?_
      rotate_left
      · exact AllReadyH.nil
      go_simp
      refine hK.out _ _ ?_ (fun hHeld => ?_)
      · first | (with_reducible refine HSS.out _ ?_; (repeat (first | with_reducible exact N6 | with_reducible exact N4 | with_reducible exact nb_refl _ | with_reducible refine nb_drew ?_ | with_reducible refine nb_alloc ?_ _))) | exact HSS.out _ (by (repeat (first | with_reducible exact N6 | with_reducible exact N4 | with_reducible exact nb_refl _ | with_reducible refine nb_drew ?_ | with_reducible refine nb_alloc ?_ _)))
      clear hK K
      try simp only [Act.put, List.setIfInBounds_toArray, List.set_cons_zero, List.set_cons_succ]
      refine wpAnyH_ready (rs := [10]) (by kernel_rfl) (by simp) ?_
      refine AllReadyH.cons (o := ⟨some 71, .call { callee := .builtin .append, args := #[.tmp 64, .tmp 70], argTypes := #[56, 56] }, _, _, _, none⟩) rfl (fun K hK => ?_) ?_
      rotate_left
      · exact AllReadyH.nil
      refine step_append_fresh rfl _ _ 56 rfl w5.heap.size 76 i1 (.agg #[.int .i64 0, .string .empty]) 2 24 Try.underlying56 hj hy0 hy1 hy2 rfl (by decide) _ rfl ?own (.slice p3 l[k].opens.length cap3) l[k].opens.length (wrCells l[k].opens) rfl ?rd (wr_one _) ?m1 ?m2 ?m3 ?_
      case own => (show Emp37 _ _ _; (repeat (first | with_reducible exact emp37_new | with_reducible exact emp37_new2 | with_reducible refine emp37_drew ?_ | with_reducible refine emp37_old ?_ _)))
      case rd => exact HOP5.out _ (by (repeat (first | with_reducible exact N6 | with_reducible exact N4 | with_reducible exact nb_refl _ | with_reducible refine nb_drew ?_ | with_reducible refine nb_alloc ?_ _)))
      case m1 => unfold maxLen; omega
      case m2 => omega
      case m3 => exact Below.size (by (repeat (first | with_reducible exact N6 | with_reducible exact N4 | with_reducible exact nb_refl _ | with_reducible refine nb_drew ?_ | with_reducible refine nb_alloc ?_ _)))
      intro p4 c4 w4 hO4 hg4
      have N4 : Below w5.heap.size w5 w4 := Below.grown (by (repeat (first | with_reducible exact N6 | with_reducible exact N4 | with_reducible exact nb_refl _ | with_reducible refine nb_drew ?_ | with_reducible refine nb_alloc ?_ _))) hg4 (Below.size (by (repeat (first | with_reducible exact N6 | with_reducible exact N4 | with_reducible exact nb_refl _ | with_reducible refine nb_drew ?_ | with_reducible refine nb_alloc ?_ _)))) (fun j hj => by have := Option.some.inj hj; (try simp only [World.size_alloc] at this); (first | omega | (simp [World.drew] at this; omega)))
      have X1 : Wr1 w4 (w5.heap.size) ps bs := Wr1.kept (by (repeat (first | with_reducible exact Wr1.new | with_reducible exact Wr1.new2 | with_reducible refine Wr1.drew ?_ | with_reducible refine Wr1.old ?_ _))) hg4 (by simp)
      refine hK.out _ _ ?_ (fun hHeld => ?_)
      · exact HSS.out _ N4
      clear hK K
      try simp only [Act.put, List.setIfInBounds_toArray, List.set_cons_zero, List.set_cons_succ]
      refine wpAnyH_ready (rs := [17]) (by kernel_rfl) (by simp) ?_
      refine AllReadyH.cons (o := ⟨some 78, .call { callee := .builtin .append, args := #[.tmp 71, .tmp 77], argTypes := #[56, 56] }, _, _, _, none⟩) rfl (fun K hK => ?_) ?_
      rotate_left
      · exact AllReadyH.nil
      refine step_append_reads rfl _ _ 56 rfl w5.heap.size 76 i1 (.agg #[.int .i64 0, .string .empty]) 2 24 Try.underlying56 hj hy0 hy1 hy2 rfl (by decide) (.slice p4 l[k].opens.length c4) l[k].opens.length (wrCells l[k].opens) rfl ?own _ 1 [.int .i64 ps, .string bs] rfl ?rd (two_one _ _) ?m1 ?m2 ?m3 ?_
      case own => first | exact hO4.out | exact owns_below hO4.out (below1 _ _)
      case rd => first | exact Wr1.reads X1 | exact Wr1.reads Wr1.new | exact Wr1.reads (Wr1.drew Wr1.new)
      case m1 => unfold maxLen; omega
      case m2 => omega
      case m3 => exact Below.size (by (repeat (first | with_reducible exact N6 | with_reducible exact N4 | with_reducible exact nb_refl _ | with_reducible refine nb_drew ?_ | with_reducible refine nb_alloc ?_ _)))
      intro p5 c5 w6 hO6 hg6
      have N6 : Below w5.heap.size w5 w6 := below_grown (by (repeat (first | with_reducible exact N6 | with_reducible exact N4 | with_reducible exact nb_refl _ | with_reducible refine nb_drew ?_ | with_reducible refine nb_alloc ?_ _))) (by first | exact hO4.out | exact owns_below hO4.out (below1 _ _)) hg6
      have s6 := HSS.out _ N6
      have x6 := below_cell N6 e2
      have y6 := (N6.frozen (p := ⟨g, k * 3 + 2, none⟩) lg).trans (HFZ.out (k * 3 + 2))
      have g6 := lt_of_cell x6
      refine hK.out _ _ ?_ (fun hHeld => ?_)
      · exact s6
      clear hK K
      try simp only [Act.put, List.setIfInBounds_toArray, List.set_cons_zero, List.set_cons_succ]
      refine wpAnyH_take (i := 18) (oi := ⟨some 79, .indexAddr 22 (.tmp 62) (.tmp 63), _, _, _, none⟩) (v := ?_) rfl (by kernel_rfl) (by kernel_rfl) (by kernel_rfl) (fun _ _ _ h => h) (Or.inl ⟨by rfl, ?_⟩) (by assumption) ?_
      rotate_left
      · (intro w hSw; (try dsimp only at hSw); go_simp; try with_reducible rfl)
      try simp only [Act.put, List.setIfInBounds_toArray, List.set_cons_zero, List.set_cons_succ]
      refine wpAnyH_take (i := 19) (oi := ⟨some 80, .fieldAddr 58 (.tmp 79) 2, _, _, _, none⟩) (v := ?_) rfl (by kernel_rfl) (by kernel_rfl) (by kernel_rfl) (fun _ _ _ h => h) (Or.inl ⟨by rfl, ?_⟩) (by assumption) ?_
      rotate_left
      · (intro w hSw; (try dsimp only at hSw); go_simp; try with_reducible rfl)
      try simp only [Act.put, List.setIfInBounds_toArray, List.set_cons_zero, List.set_cons_succ]
      refine wpAnyH_ready (rs := [20]) (by kernel_rfl) (by simp) ?_
      refine AllReadyH.cons (o := ⟨none, .store 56 (.tmp 80) (.tmp 78), _, _, _, none⟩) rfl (fun K hK => ?_) ?_
      rotate_left
      · exact AllReadyH.nil
      go_simp
      refine hK.out _ _ ?_ (fun hHeld => ?_)
      · exact HS1.out _ _ _ s6
      clear hK K
      try simp only [Act.put, List.setIfInBounds_toArray, List.set_cons_zero, List.set_cons_succ]
      refine wpAnyH_done (by kernel_rfl) ?_ _
      refine NoPanic.normal ?_
      have hnew : w6.ownsRow w5.heap.size 76 2 (.slice p5 (l[k].opens.length + 1) c5) (l[k].opens ++ [(⟨ps, bs⟩ : Wr)]).length (wrCells (l[k].opens ++ [(⟨ps, bs⟩ : Wr)])) := owns_snoc (x := ⟨ps, bs⟩) hO6.out
      have hB : B ≤ w5.heap.size := by have := HB.out.size; omega
      have h1 := put_open (HOWN.out.below (below_then HB.out N6)) rfl hk ⟨l[k].name, l[k].safe, (.slice p5 (l[k].opens.length + 1) c5), l[k].opens ++ [⟨ps, bs⟩]⟩ rfl rfl (owns_mono hnew hB)
      have h2 : w.grownBy (w6.setCell ⟨g, k * 3 + 2, none⟩ (.slice p5 (l[k].opens.length + 1) c5)) (some g) := grown_set (below_grownBy (below_then HB.out N6)) (.inl rfl) _ _
      have h3 := (HD5.out.keep N6).far hgw (k * 3 + 2) (.slice p5 (l[k].opens.length + 1) c5)
      have h4 := (HR5.out.keep N6).far (show g ≠ w.heap.size + 1 + 1 by omega) (k * 3 + 2) (.slice p5 (l[k].opens.length + 1) c5)
      clear hnew hO6 hO4 hg4 hg6 s6 x6 y6 g6 hHeld HSS HS1 HFZ
      clear N6 N4
      revert h1 h2 h3 h4
      generalize w6.setCell ⟨g, k * 3 + 2, none⟩ (.slice p5 (l[k].opens.length + 1) c5) = W7
      intro hput hgr hd7 hr7
      have d7 := hd7.c
      have r7 := hr7.c
      have z7 := hr7.f
      have l7 := hd7.lt
      have l8 := hr7.lt
      have HP := Lib.hid hput
      have HG := Lib.hid hgr
      have HR := Lib.hid hr7
      clear hput hgr hd7 hr7
      go_wp2_with fail
      have hgf : w.grownBy (W7.setCell ⟨w.heap.size + 1 + 1, 0, none⟩ (.slice (some ⟨g, 0, none⟩) l.length cap)) (some g) := grown_set HG.out (.inr (by omega)) 0 _
      refine bodyPost_ret (v := .tuple #[.agg #[.slice (some ⟨g, 0, none⟩) l.length cap], .int .i64 0]) (by simp [results, Try.results47, go_sem, r7]) rfl
        ⟨_, _, rfl, ?_, HP.out.set HR.out _, fun h => absurd rfl h, hgf⟩
      rw [List.map_set]
      rfl
    exact AllReadyH.nil
  exact AllReadyH.nil
end Go.Proofs.Ytkecjopojnllnaa
