/- A file put into the row of files. -/
import Derived.Test.YtfpdfhncifcghaaK
namespace Go.Proofs.Ytfpdfhncifcghaa
open Go.RowKit

theorem info35 : ∃ i, Try.prog.info? 35 = some i ∧ i.zero = some (.agg #[.string .empty, .string .empty, .slice none 0 0]) ∧ i.size = 3 ∧ i.bytes = 56 :=
  info_parts (show (Try.prog.info? 35).map (fun i => (i.zero, i.size, i.bytes)) = some (some (.agg #[.string .empty, .string .empty, .slice none 0 0]), 3, 56) by kernel_rfl)
theorem info37 : ∃ i, Try.prog.info? 37 = some i ∧ i.zero = some (.agg #[.int .i64 0, .string .empty]) ∧ i.size = 2 ∧ i.bytes = 24 :=
  info_parts (show (Try.prog.info? 37).map (fun i => (i.zero, i.size, i.bytes)) = some (some (.agg #[.int .i64 0, .string .empty]), 2, 24) by kernel_rfl)

def fileCells (r : Rw) : List Value := [.string r.name, .string r.safe, r.ov]
theorem three_cells (w : World) (b : Nat) (x y z : Value) (t : TypeId) (fr : Nat × Nat) (h : w.heap[b]? = some (.cells #[x, y, z] t fr)) :
    ∀ (j : Nat) (u : Value), [x, y, z][j]? = some u → w.cell? ((⟨b, 0, none⟩ : Addr).add j) = some u := by
  intro j u hu
  rw [add_lit, Nat.zero_add, cell_of_row w b j _ t fr h]
  simpa using hu
theorem file_one (r : Rw) (h : r.ov.oneCell' = true) : ∀ u ∈ fileCells r, u.oneCell' = true := by
  intro u hu
  simp only [fileCells, List.mem_cons, List.not_mem_nil, or_false] at hu
  rcases hu with rfl | rfl | rfl
  · rfl
  · rfl
  · exact h

theorem rowCells_snoc (l : List Rw) (r : Rw) : rowCells (l ++ [r]) = rowCells l ++ fileCells r := by simp [rowCells, fileCells]
theorem rowCells_append (l m : List Rw) : rowCells (l ++ m) = rowCells l ++ rowCells m := by simp [rowCells]
theorem rowCells_drop_get (l : List Rw) (i j : Nat) : (rowCells (l.drop i))[j]? = (rowCells l)[i * 3 + j]? := by
  by_cases h : i ≤ l.length
  · have e : rowCells l = rowCells (l.take i) ++ rowCells (l.drop i) := by rw [← rowCells_append, List.take_append_drop]
    rw [e, List.getElem?_append_right (by rw [rowCells_length, List.length_take]; omega), rowCells_length, List.length_take, Nat.min_eq_left h]
    congr 1
    omega
  · rw [List.drop_eq_nil_of_le (by omega)]
    rw [List.getElem?_eq_none (l := rowCells l) (by rw [rowCells_length]; omega)]
    rfl
theorem rowCells_drop_mem {l : List Rw} {i : Nat} {u : Value} (h : u ∈ rowCells (l.drop i)) : u ∈ rowCells l := by
  rw [← List.take_append_drop i l, rowCells_append]
  exact List.mem_append_right _ h
theorem insert_splice (C : List Value) (l : List Rw) (r : Rw) (i : Nat) (hi : i ≤ l.length) (hC : (l.length + 1) * 3 ≤ C.length) (hT : C.take (l.length * 3) = rowCells l) :
    (splice (splice C ((i + 1) * 3) (rowCells (l.drop i))) (i * 3) (fileCells r)).toArray.toList.take ((l.length + 1) * 3) = rowCells (l.take i ++ r :: l.drop i) := by
  have hF : (fileCells r).length = 3 := rfl
  have hD : (rowCells (l.drop i)).length = (l.length - i) * 3 := by rw [rowCells_length, List.length_drop]
  have hA : C.take (i * 3) = rowCells (l.take i) := by
    have e : rowCells l = rowCells (l.take i) ++ rowCells (l.drop i) := by rw [← rowCells_append, List.take_append_drop]
    have h1 : C.take (i * 3) = (C.take (l.length * 3)).take (i * 3) := by rw [List.take_take, Nat.min_eq_left (by omega)]
    rw [h1, hT, e]
    exact List.take_left' (by rw [rowCells_length, List.length_take]; omega)
  have hAl : (rowCells (l.take i)).length = i * 3 := by rw [rowCells_length, List.length_take]; omega
  have hR : rowCells (l.take i ++ r :: l.drop i) = rowCells (l.take i) ++ (fileCells r ++ rowCells (l.drop i)) := by
    rw [rowCells_append]; rfl
  rw [hR]
  unfold splice
  rw [hD, hF]
  have e1 : (C.take ((i + 1) * 3) ++ (rowCells (l.drop i) ++ C.drop ((i + 1) * 3 + (l.length - i) * 3))).take (i * 3) = rowCells (l.take i) := by
    rw [List.take_append_of_le_length (by rw [List.length_take]; omega), List.take_take, Nat.min_eq_left (by omega), hA]
  have e2 : (C.take ((i + 1) * 3) ++ (rowCells (l.drop i) ++ C.drop ((i + 1) * 3 + (l.length - i) * 3))).drop (i * 3 + 3) = rowCells (l.drop i) ++ C.drop ((i + 1) * 3 + (l.length - i) * 3) :=
    List.drop_left' (by rw [List.length_take]; omega)
  rw [e1, e2, List.toList_toArray]
  rw [← List.append_assoc (fileCells r), ← List.append_assoc (rowCells (l.take i))]
  exact List.take_left' (by simp only [List.length_append, hAl, hF, hD]; omega)
/-- AT THE END. -/
theorem insert_end (l : List Rw) (v : Value) (r : Rw) (xb : Nat) (B : Nat) (w : World) (hown : w.ownsRow B 35 3 v l.length (rowCells l)) (hB : B ≤ w.heap.size)
    (hx : w.heap[xb]? = some (.cells #[.string r.name, .string r.safe, r.ov] 35 (0, 0))) (hr1 : r.ov.oneCell' = true) (hreach : (l.length + 1) * 56 ≤ 140737488355328) :
    Calls Try.prog 40 #[v, .int .i64 (l.length : Int), .slice (some ⟨xb, 0, none⟩) 1 1] w fun e w' => ∃ v', e = .returned v' ∧ w'.ownsRow B 35 3 v' (l.length + 1) (rowCells (l ++ [r])) ∧ w.grownBy w' v.ownBlock := by
  obtain ⟨i0, hi, hz0, hz1, hz2⟩ := info35
  obtain ⟨q, qc, rfl⟩ := owns_shape hown
  have hle : l.length ≤ qc := by
    rcases hown.2 with ⟨h1, h2⟩ | ⟨g, cap, cur, h1, _, _, h3, _⟩
    · simp at h1; omega
    · simp at h1; omega
  have hxl : xb < w.heap.size := (Array.getElem?_eq_some_iff.1 hx).1
  have Hx := Lib.hid hx
  have Ho := Lib.hid hown
  clear hx hown
  by_cases hc : qc = l.length
  · subst hc
    go_enter Try.func40, Try.ntmps40
    go_wp2_with (at_builtin; refine wpList_append_own2 _ rfl _ _ 22 rfl B 35 i0 (.agg #[.string .empty, .string .empty, .slice none 0 0]) 3 56 Try.underlying22 hi hz0 hz1 hz2 rfl (by decide) (.slice q l.length l.length) l.length (rowCells l) rfl Ho.out ⟨xb, 0, none⟩ 1 1 (fileCells r) rfl rfl ?c1 (file_one r hr1) ?c3 ?c4 ?c5 ?_; rotate_right 1; intro q2 qc2 w5 hown5 hg5 _)
    case c1 => exact three_cells _ _ _ _ _ _ _ Hx.out
    case c3 => unfold maxLen; omega
    case c4 => exact hreach
    case c5 => exact hB
    go_ret
    refine ⟨_, rfl, ?_, hg5⟩
    rw [rowCells_snoc]
    exact hown5.out
  · go_enter Try.func40, Try.ntmps40
    go_wp2_with (at_builtin; refine wpList_append_own2 _ rfl _ _ 22 rfl B 35 i0 (.agg #[.string .empty, .string .empty, .slice none 0 0]) 3 56 Try.underlying22 hi hz0 hz1 hz2 rfl (by decide) (.slice q l.length qc) l.length (rowCells l) rfl Ho.out ⟨xb, 0, none⟩ 1 1 (fileCells r) rfl rfl ?d1 (file_one r hr1) ?d3 ?d4 ?d5 ?_; rotate_right 1; intro q2 qc2 w5 hown5 hg5 _)
    case d1 => exact three_cells _ _ _ _ _ _ _ Hx.out
    case d3 => unfold maxLen; omega
    case d4 => exact hreach
    case d5 => exact hB
    go_ret
    refine ⟨_, rfl, ?_, hg5⟩
    rw [rowCells_snoc]
    exact hown5.out

set_option maxRecDepth 100000 in
set_option maxHeartbeats 1000000 in
/-- A PLACE AHEAD OF THE END, AND THERE IS ROOM. -/
theorem insert_room (l : List Rw) (v : Value) (r : Rw) (xb i : Nat) (B : Nat) (w : World) (hown : w.ownsRow B 35 3 v l.length (rowCells l)) (hi : i < l.length) (hone : ∀ u ∈ rowCells l, u.oneCell' = true)
    (hx : w.heap[xb]? = some (.cells #[.string r.name, .string r.safe, r.ov] 35 (0, 0))) (hr1 : r.ov.oneCell' = true) (hreach : (l.length + 1) * 56 ≤ 140737488355328) (hne : v.ownBlock ≠ some xb) (hroom : ∀ p n c, v = .slice p n c → n + 1 ≤ c) :
    Calls Try.prog 40 #[v, .int .i64 (i : Int), .slice (some ⟨xb, 0, none⟩) 1 1] w fun e w' => ∃ v', e = .returned v' ∧ w'.ownsRow B 35 3 v' (l.length + 1) (rowCells (l.take i ++ r :: l.drop i)) ∧ w.grownBy w' v.ownBlock := by
  obtain ⟨i0, hi0, hz0, hz1, hz2⟩ := info35
  have hown' := hown
  obtain ⟨hlen, h2⟩ := hown'
  rcases h2 with ⟨_, h2⟩ | ⟨g, cap, cur, rfl, hBg, hg, hnc, hcm, hcs, htake⟩
  · omega
  have hrm := hroom _ _ _ rfl
  have hne' : g ≠ xb := fun e => hne (by simp [Value.ownBlock, e])
  have hxl : xb < w.heap.size := (Array.getElem?_eq_some_iff.1 hx).1
  have hgl : g < w.heap.size := (Array.getElem?_eq_some_iff.1 hg).1
  have Hx := Lib.hid hx
  have Ho := Lib.hid hown
  have Hg := Lib.hid hg
  have HT := Lib.hid htake
  clear hx hown hg htake hroom hne hlen
  have hci : cap ≠ i := by omega
  have hci1 : cap ≠ i + 1 := by omega
  have hb1 : ((i : Int) == (l.length : Int)) = false := by rw [beq_eq_false_iff_ne]; omega
  have hov : ∀ lb cb, (callFunc 42 #[.slice (some ⟨xb, 0, none⟩) 1 1, .slice (some ⟨g, (i + 1) * 3, none⟩) lb cb]).run Try.prog w = .ok (.value (.bool false)) w := fun lb cb => by
    rw [run_callFunc_extern Try.func42 (by kernel_rfl) (by kernel_rfl) (by kernel_rfl) (e := Extern.SlicesOverlaps.overlaps #[22, 22] #[4]) (by kernel_rfl),
      Lib.run_overlaps_apart w 22 4 35 Try.underlying22 3 (fun _ => by kernel_rfl) ⟨xb, 0, none⟩ ⟨g, (i + 1) * 3, none⟩ 1 1 lb cb (fun e => hne' e.symm) 35 35 3 cur.size (by simp [World.shape?, Hx.out]) (by simp [World.shape?, Hg.out])
        (by rw [hcs]; omega) (frozen_of_row w xb 0 _ 35 Hx.out) (frozen_of_row w xb 3 _ 35 Hx.out)]
    rfl
  have HOV := Lib.hid hov
  clear hov
  go_enter Try.func40, Try.ntmps40
  go_wp2_with (simp only [HOV.out])
  have hgl' : (w.drew).heap[g]? = some (.cells cur.toList.toArray 35 (0, 0)) := by rw [Array.toArray_toList]; exact Hg.out
  have HG := Lib.hid hgl'
  clear hgl'
  have hsr : ∀ j v, (rowCells (l.drop i))[j]? = some v → (w.drew).cell? ((⟨g, i * 3, none⟩ : Addr).add j) = some v := fun j v hj => by
    rw [add_lit]
    show w.cell? _ = _
    have hj2 : i * 3 + j < l.length * 3 := by
      have := (List.getElem?_eq_some_iff.1 hj).1
      rw [rowCells_length, List.length_drop] at this
      omega
    rw [Ho.out.cellAt _ hj2, ← rowCells_drop_get]
    exact hj
  have HSR := Lib.hid hsr
  clear hsr
  have hdl : (rowCells (l.drop i)).length = (l.length - i) * 3 := by rw [rowCells_length, List.length_drop]
  have HDL := Lib.hid hdl
  clear hdl
  have HONE := Lib.hid hone
  clear hone
  have hfit : (i + 1) * 3 + (rowCells (l.drop i)).length ≤ cur.toList.length := by rw [HDL.out, show cur.toList.length = cap * 3 from by rw [Array.length_toList]; exact hcs]; omega
  have HFIT := Lib.hid hfit
  clear hfit
  have hmin : Nat.min (l.length + 1 - i) (l.length - i) = l.length - i := Nat.min_eq_right (by omega)
  have HMIN := Lib.hid hmin
  clear hmin
  have w1 : IntKind.i64.wrap ((i : Int) + 1) = (i : Int) + 1 := IntWalk.i64_in _ (by omega)
  have w2 : (0 : Int) ≤ (i : Int) + 1 := by omega
  have w4 : (i : Int) + 1 ≤ (l.length : Int) + 1 := by omega
  have w5 : (i : Int) ≤ (l.length : Int) + 1 := by omega
  have w3 : ((i : Int) + 1).toNat = i + 1 := by omega
  go_region_law (refine step_copy_cells (o := ⟨some 77, _, _, _, _, _⟩) rfl (.tmp 73) (.tmp 76) 22 22 rfl 35 3 Try.underlying22 (by kernel_rfl) g ((i + 1) * 3) (l.length - i) (cap - (i + 1)) ?hd ⟨g, i * 3, none⟩ (l.length + 1 - i) (cap - i) ?hs cur.toList 35 HG.out (rowCells (l.drop i)) (l.length - i) ?hm HDL.out HSR.out ?hfit ?h1 ?_; (case hd => (simp [Act.eval, Act.put]; done)); (case hs => (simp [Act.eval, Act.put]; done)); (case hm => exact HMIN.out); (case hfit => exact HFIT.out); (case h1 => exact fun u hu => HONE.out u (rowCells_drop_mem hu)); intro y2 hg2 hgr2)
  all_goals
    clear w1 w2 w3 w4 w5
    have hx2 : y2.heap[xb]? = some (.cells #[.string r.name, .string r.safe, r.ov] 35 (0, 0)) := (hgr2.block xb hxl (by simpa using fun e => hne' e.symm)).trans Hx.out
    have HX2 := Lib.hid hx2
    clear hx2
    have hsz35 : (Try.prog.info? 35).map (·.size) = some 3 := by kernel_rfl
    have hfl : (fileCells r).length = 1 * 3 := rfl
    go_wp2_with ((with_reducible refine wpList_copy_cells (o := ⟨some 82, _, _, _, _, _⟩) ?hgd2 (.tmp 80) (.tmp 81) 22 22 ?ho2 35 3 Try.underlying22 hsz35 g (i * 3) (l.length + 1 - i) (cap - i) ?hd2 ⟨xb, 0, none⟩ 1 1 ?hs2 (splice cur.toList ((i + 1) * 3) (rowCells (l.drop i))) 35 hg2.out (fileCells r) 1 ?hm2 hfl ?hsrc2 ?hfit2 (file_one r hr1) ?_); rotate_right 1; intro y3 hg3 hgr3)
    case hgd2 => rfl
    case ho2 => rfl
    case hd2 => rfl
    case hs2 => rfl
    case hm2 => exact Nat.min_eq_left (by omega)
    case hsrc2 => exact three_cells _ _ _ _ _ _ _ HX2.out
    case hfit2 => rw [hfl, length_splice _ _ _ HFIT.out, show cur.toList.length = cap * 3 from by rw [Array.length_toList]; exact hcs]; omega
    go_ret
    refine ⟨.slice (some ⟨g, 0, none⟩) (l.length + 1) cap, rfl, ?_, ?_⟩
    · have hC : cur.toList.length = cap * 3 := by rw [Array.length_toList]; exact hcs
      refine ⟨by rw [rowCells_length]; simp [Nat.min_eq_left (Nat.le_of_lt hi)]; omega, .inr ⟨g, cap, _, rfl, hBg, hg3.out, hrm, hcm, ?_, ?_⟩⟩
      · rw [List.size_toArray, length_splice _ _ _ (by rw [hfl, length_splice _ _ _ HFIT.out, hC]; omega), length_splice _ _ _ HFIT.out, hC]
      · exact insert_splice cur.toList l r i (by omega) (by rw [hC]; omega) HT.out
    · exact ⟨hgr3.os.trans hgr2.os, hgr3.tape.trans hgr2.tape, hgr3.output.trans hgr2.output, Nat.le_trans hgr2.size hgr3.size, fun k hk hne => (hgr3.block k (Nat.lt_of_lt_of_le hk hgr2.size) hne).trans (hgr2.block k hk hne)⟩
end Go.Proofs.Ytfpdfhncifcghaa
