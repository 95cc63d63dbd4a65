/- A file put into the row of files, in new memory. -/
import Derived.Test.YtfpdfhncifcghaaN
namespace Go.Proofs.Ytfpdfhncifcghaa
open Go.RowKit

theorem under3 : Try.prog.underlying 3 = some (.int .i64) := Try.underlying3

/-- 'append(s[:i], make(S, n+1-i)...)' where there is no room. -/
theorem zeros_run (l : List Rw) (g cap i : Nat) (B : Nat) (w : World) (ty : TypeId) (hown : w.ownsRow B 35 3 (.slice (some ⟨g, 0, none⟩) l.length cap) l.length (rowCells l)) (hi : i ≤ l.length) (hc : cap = l.length) (hreach : (l.length + 1) * 56 ≤ 140737488355328) :
    ∃ (cn : Nat) (Z : List Value) (W4 : World), (Builtin.append_ #[22, 3] ty #[.slice (some ⟨g, 0, none⟩) i cap, .int .i64 ((l.length : Int) + 1 - i)]).run Try.prog w =
      .ok (.slice (some ⟨w.heap.size, 0, none⟩) (l.length + 1) cn) W4 ∧ W4.heap[w.heap.size]? = some (.cells (rowCells (l.take i) ++ Z).toArray 35 (0, 0)) ∧ w.grownBy W4 none ∧ l.length + 1 ≤ cn ∧ cn ≤ maxLen ∧ Z.length = (cn - i) * 3 := by
  obtain ⟨i0, hi0, hz0, hz1, hz2⟩ := info35
  have hfc := run_firstCells_some (P := Try.prog) w.drew 3 i ⟨g, 0, none⟩ i cap (rowCells (l.take i)) (by rw [rowCells_length, List.length_take]; omega) (fun j u hu => by
    rw [add_lit, Nat.zero_add]
    show w.cell? _ = _
    have hj := (List.getElem?_eq_some_iff.1 hu).1
    rw [rowCells_length, List.length_take] at hj
    rw [hown.cellAt _ (by omega)]
    have e : rowCells l = rowCells (l.take i) ++ rowCells (l.drop i) := by rw [← rowCells_append, List.take_append_drop]
    rw [e, List.getElem?_append_left (by rw [rowCells_length, List.length_take]; omega)]
    exact hu)
  have hg := grownCap_ge w (i + (l.length + 1 - i)) cap 35
  have hr := Lib.run_append_grow_zeros (P := Try.prog) w 22 3 ty 35 i0 (.agg #[.string .empty, .string .empty, .slice none 0 0]) .i64 .i64 Try.underlying22 under3 hi0 hz0 (some ⟨g, 0, none⟩) i cap (rowCells (l.take i)) (by rw [hz1]; exact hfc)
    (l.length + 1 - i) (by omega) (by rw [hz1]; omega) (by omega) (by omega) (by rw [hz2]; have := Nat.mul_le_mul_right 56 (show l.length + 1 - i ≤ l.length + 1 by omega); omega) (growslice_fits (by omega) (by rw [hz2, show i + (l.length + 1 - i) = l.length + 1 by omega]; exact hreach))
  rw [show i + (l.length + 1 - i) = l.length + 1 by omega] at hr hg
  refine ⟨grownCap w (l.length + 1) cap 35, (Builtin.zeroCells #[.string .empty, .string .empty, .slice none 0 0] (l.length + 1 - i) ++ Builtin.zeroCells #[.string .empty, .string .empty, .slice none 0 0] (grownCap w (l.length + 1) cap 35 - (l.length + 1))).toList, _, ?_, heap_alloc_new w.drew _, ⟨rfl, rfl, rfl, by simp, fun k hk _ => heap_alloc_old _ _ hk⟩, hg, grownCap_le_maxLen _ _ _ _ (by unfold maxLen; omega), ?_⟩
  · rw [show ((l.length : Int) + 1 - i) = ((l.length + 1 - i : Nat) : Int) by omega, hr]
    congr 3
    apply Array.ext'
    simp [Value.cells]
  · rw [Array.length_toList, Array.size_append, size_zeroCells, size_zeroCells]
    simp
    omega

theorem grow_splice (Z : List Value) (l : List Rw) (r : Rw) (i : Nat) (hi : i ≤ l.length) :
    (splice (splice (rowCells (l.take i) ++ Z) (i * 3) (fileCells r)) ((i + 1) * 3) (rowCells (l.drop i))).toArray.toList.take ((l.length + 1) * 3) = rowCells (l.take i ++ r :: l.drop i) := by
  have hF : (fileCells r).length = 3 := rfl
  have hD : (rowCells (l.drop i)).length = (l.length - i) * 3 := by rw [rowCells_length, List.length_drop]
  have hAl : (rowCells (l.take i)).length = i * 3 := by rw [rowCells_length, List.length_take]; omega
  have hR : rowCells (l.take i ++ r :: l.drop i) = rowCells (l.take i) ++ (fileCells r ++ rowCells (l.drop i)) := by
    rw [rowCells_append]; rfl
  rw [hR]
  unfold splice
  rw [hD, hF]
  have e1 : (rowCells (l.take i) ++ Z).take (i * 3) = rowCells (l.take i) := List.take_left' hAl
  rw [e1]
  have e2 : (rowCells (l.take i) ++ (fileCells r ++ (rowCells (l.take i) ++ Z).drop (i * 3 + 3))).take ((i + 1) * 3) = rowCells (l.take i) ++ fileCells r := by
    rw [← List.append_assoc]
    exact List.take_left' (by rw [List.length_append, hAl, hF]; omega)
  rw [e2, List.toList_toArray, ← List.append_assoc (rowCells (l.take i)) (fileCells r) (rowCells (l.drop i)), ← List.append_assoc (rowCells (l.take i) ++ fileCells r) (rowCells (l.drop i))]
  exact List.take_left' (by simp only [List.length_append, hAl, hF, hD]; omega)

set_option maxRecDepth 100000 in
set_option maxHeartbeats 1000000 in
/-- A PLACE AHEAD OF THE END, AND THERE IS NO ROOM. -/
theorem insert_grow (l : List Rw) (v : Value) (r : Rw) (xb i : Nat) (B : Nat) (w : World) (hown : w.ownsRow B 35 3 v l.length (rowCells l)) (hB : B ≤ w.heap.size) (hi : i < l.length) (hone : ∀ u ∈ rowCells l, u.oneCell' = true)
    (hx : w.heap[xb]? = some (.cells #[.string r.name, .string r.safe, r.ov] 35 (0, 0))) (hr1 : r.ov.oneCell' = true) (hreach : (l.length + 1) * 56 ≤ 140737488355328) (hroom : ∀ p n c, v = .slice p n c → c = n) :
    Calls Try.prog 40 #[v, .int .i64 (i : Int), .slice (some ⟨xb, 0, none⟩) 1 1] w fun e w' => ∃ v', e = .returned v' ∧ w'.ownsRow B 35 3 v' (l.length + 1) (rowCells (l.take i ++ r :: l.drop i)) ∧ w.grownBy w' v.ownBlock := by
  have hown' := hown
  obtain ⟨hlen, h2⟩ := hown'
  rcases h2 with ⟨_, h2⟩ | ⟨g, cap, cur, rfl, hBg, hg, hnc, hcm, hcs, htake⟩
  · omega
  obtain rfl := hroom _ _ _ rfl
  have hxl : xb < w.heap.size := (Array.getElem?_eq_some_iff.1 hx).1
  have hgl : g < w.heap.size := (Array.getElem?_eq_some_iff.1 hg).1
  obtain ⟨cn, Z, W4, hzr, hW4, hgr4, hcn1, hcn2, hZ⟩ := zeros_run l g l.length i B w 22 hown (by omega) rfl hreach
  have Hx := Lib.hid hx
  have Ho := Lib.hid hown
  have Hg := Lib.hid hg
  have HZ := Lib.hid hzr
  have HZL := Lib.hid hZ
  have HW4 := Lib.hid hW4
  clear hx hown hg htake hroom hlen hzr hZ hW4
  have hci : ¬ l.length = i := by omega
  have hb1 : ((i : Int) == (l.length : Int)) = false := by rw [beq_eq_false_iff_ne]; omega
  have hsz35 : (Try.prog.info? 35).map (·.size) = some 3 := by kernel_rfl
  have hfl : (fileCells r).length = 1 * 3 := rfl
  have hx4 : W4.heap[xb]? = some (.cells #[.string r.name, .string r.safe, r.ov] 35 (0, 0)) := (hgr4.block xb hxl (by simp)).trans Hx.out
  have HX4 := Lib.hid hx4
  clear hx4
  have hcni : ¬ cn = i := by omega
  have hfit1 : i * 3 + (fileCells r).length ≤ (rowCells (l.take i) ++ Z).length := by rw [hfl, List.length_append, rowCells_length, HZL.out, List.length_take]; omega
  have HF1 := Lib.hid hfit1
  clear hfit1
  go_enter Try.func40, Try.ntmps40
  go_wp2_with (first | ((with_reducible refine wpList_copy_cells (o := ⟨some 45, _, _, _, _, _⟩) ?hgd2 (.tmp 43) (.tmp 44) 22 22 ?ho2 35 3 Try.underlying22 hsz35 w.heap.size (i * 3) (l.length + 1 - i) (cn - i) ?hd2 ⟨xb, 0, none⟩ 1 1 ?hs2 (rowCells (l.take i) ++ Z) 35 HW4.out (fileCells r) 1 ?hm2 hfl ?hsrc2 HF1.out (file_one r hr1) ?_); rotate_right 1; intro y2 hg2 hgr2) | (at_builtin; (with_reducible refine Lib.wpList_append_run _ (o := ⟨some 40, _, _, _, _, _⟩) ?hgd (.tmp 34) (.tmp 39) 22 3 ?ho _ _ ?hs ?hx _ _ HZ.out ?_); rotate_right 1))
  case hgd => rfl
  case ho => rfl
  case hs => rfl
  case hx => rfl
  case hgd2 => rfl
  case ho2 => rfl
  case hd2 => rfl
  case hs2 => rfl
  case hm2 => exact Nat.min_eq_left (by omega)
  case hsrc2 => exact three_cells _ _ _ _ _ _ _ HX4.out
  have hC1 : (rowCells (l.take i) ++ Z).length = cn * 3 := by rw [List.length_append, rowCells_length, HZL.out, List.length_take]; omega
  have hC2 : (splice (rowCells (l.take i) ++ Z) (i * 3) (fileCells r)).length = cn * 3 := by rw [length_splice _ _ _ HF1.out, hC1]
  have hg2d : (y2.drew).heap[w.heap.size]? = some (.cells (splice (rowCells (l.take i) ++ Z) (i * 3) (fileCells r)).toArray 35 (0, 0)) := hg2.out
  have HG2 := Lib.hid hg2d
  clear hg2d
  have hsr : ∀ j v, (rowCells (l.drop i))[j]? = some v → (y2.drew).cell? ((⟨g, i * 3, none⟩ : Addr).add j) = some v := fun j v hj => by
    rw [add_lit]
    show y2.cell? _ = _
    have hj2 : i * 3 + j < l.length * 3 := by
      have := (List.getElem?_eq_some_iff.1 hj).1
      rw [rowCells_length, List.length_drop] at this
      omega
    refine hgr2.cell (hgr4.cell (v := v) (a := ⟨g, i * 3 + j, none⟩) ?_ (by simp)) (by simp; omega)
    rw [Ho.out.cellAt _ hj2, ← rowCells_drop_get]
    exact hj
  have HSR := Lib.hid hsr
  clear hsr
  have hdl : (rowCells (l.drop i)).length = (l.length - i) * 3 := by rw [rowCells_length, List.length_drop]
  have HDL := Lib.hid hdl
  clear hdl
  have HONE := Lib.hid hone
  clear hone
  have hfit : (i + 1) * 3 + (rowCells (l.drop i)).length ≤ (splice (rowCells (l.take i) ++ Z) (i * 3) (fileCells r)).length := by rw [HDL.out, hC2]; omega
  have HFIT := Lib.hid hfit
  clear hfit
  have hmin : Nat.min (l.length - i) (l.length - i) = l.length - i := Nat.min_self _
  have HMIN := Lib.hid hmin
  have HC2 := Lib.hid hC2
  clear hmin hC2 hC1
  have hcni1 : ¬ cn = i + 1 := by omega
  have w1 : IntKind.i64.wrap ((i : Int) + 1) = (i : Int) + 1 := IntWalk.i64_in _ (by omega)
  have w2 : (0 : Int) ≤ (i : Int) + 1 := by omega
  have w4 : (i : Int) + 1 ≤ (l.length : Int) + 1 := by omega
  have w5 : (i : Int) ≤ (l.length : Int) := by omega
  have w3 : ((i : Int) + 1).toNat = i + 1 := by omega
  go_region_law (refine step_copy_cells (o := ⟨some 54, _, _, _, _, _⟩) rfl (.tmp 50) (.tmp 53) 22 22 rfl 35 3 Try.underlying22 (by kernel_rfl) w.heap.size ((i + 1) * 3) (l.length - i) (cn - (i + 1)) ?hd3 ⟨g, i * 3, none⟩ (l.length - i) (l.length - i) ?hs3 (splice (rowCells (l.take i) ++ Z) (i * 3) (fileCells r)) 35 HG2.out (rowCells (l.drop i)) (l.length - i) ?hm3 HDL.out HSR.out ?hfit3 ?h13 ?_; (case hd3 => (simp [Act.eval, Act.put]; done)); (case hs3 => (simp [Act.eval, Act.put]; done)); (case hm3 => exact HMIN.out); (case hfit3 => exact HFIT.out); (case h13 => exact fun u hu => HONE.out u (rowCells_drop_mem hu)); intro y3 hg3 hgr3)
  all_goals
    clear w1 w2 w3 w4 w5
    go_wp2_with fail
    go_ret
    refine ⟨.slice (some ⟨w.heap.size, 0, none⟩) (l.length + 1) cn, rfl, ?_, ?_⟩
    · refine ⟨by rw [rowCells_length]; simp [Nat.min_eq_left (Nat.le_of_lt hi)]; omega, .inr ⟨w.heap.size, cn, _, rfl, hB, hg3.out, hcn1, hcn2, ?_, ?_⟩⟩
      · rw [List.size_toArray, length_splice _ _ _ HFIT.out, HC2.out]
      · exact grow_splice Z l r i (by omega)
    · exact ⟨hgr3.os.trans (hgr2.os.trans hgr4.os), hgr3.tape.trans (hgr2.tape.trans hgr4.tape), hgr3.output.trans (hgr2.output.trans hgr4.output), Nat.le_trans hgr4.size (Nat.le_trans hgr2.size hgr3.size),
        fun k hk _ => (hgr3.block k (Nat.lt_of_lt_of_le hk (Nat.le_trans hgr4.size hgr2.size)) (by simp; omega)).trans ((hgr2.block k (Nat.lt_of_lt_of_le hk hgr4.size) (by simp; omega)).trans (hgr4.block k hk (by simp)))⟩
end Go.Proofs.Ytfpdfhncifcghaa
