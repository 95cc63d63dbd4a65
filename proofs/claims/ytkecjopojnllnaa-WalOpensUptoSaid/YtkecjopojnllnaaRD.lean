/- A frame, the program's. -/
import Derived.Test.YtkecjopojnllnaaRC
import Derived.Lib.AppendStr
import Derived.Deep.WholeRow
namespace Go.Proofs.Ytkecjopojnllnaa
open Go.RowKit Go.Deep Go.Joins

theorem st_row (W : World) (g o n : Nat) (t : ByteArray) (cur : Array Value) (hn : t.size = n) (hg : W.heap[g]? = some (.cells cur 5 (0, 0))) (hfit : o + n ≤ cur.size) :
    (storeCells ⟨g, o, none⟩ (List.take n (t.data.toList.map fun b => Value.int .u8 b.toNat))).run Try.prog W = .ok () (W.setRow g (cur.toList.take o ++ Lib.strCells t ++ cur.toList.drop (o + n)).toArray) := by
  have h := run_storeCells_at Try.prog g o 5 (Lib.strCells t) 0 cur W hg (by rw [Lib.strCells_length]; omega) (Lib.strCells_oneCell t)
  rw [Lib.strCells_length, hn, Nat.add_zero] at h
  rw [List.take_of_length_le (by rw [List.length_map, len_eq]; omega)]
  exact h
theorem frame_arm (s : ByteArray) (m : Nat) (w w1 w2 w3 : World) (cur1 cur2 cur3 : Array Value) (hz2 : (shortB m).size = 4) (hb1 : Below w.heap.size w w1) (hb2 : Below (w1.alloc (.cells cur1 5)).heap.size (w1.alloc (.cells cur1 5)) w2) (hb3 : Below w2.heap.size w2 w3)
    (hg3 : w3.heap[w1.heap.size]? = some (.cells cur1 5 (0, 0))) (hs1 : cur1.size = 9 + s.size) (hs2 : cur2.size = 9 + s.size) (hs3 : cur3.size = 9 + s.size)
    (hcur2 : (cur1.toList.take 4 ++ Lib.strCells (shortB m) ++ cur1.toList.drop (4 + 4)).toArray = cur2) (hcur3 : (cur2.toList.take 8 ++ Lib.strCells s ++ cur2.toList.drop (8 + s.size)).toArray = cur3)
    (hlast : cur3.setIfInBounds (8 + s.size) (.int .u8 255) = bcells (frameB s).data.toList) :
    (storeCells ⟨w1.heap.size, 4, none⟩ (List.take 4 ((shortB m).data.toList.map fun b => Value.int .u8 b.toNat))).run Try.prog w3 = .ok () (w3.setRow w1.heap.size cur2) ∧
    (storeCells ⟨w1.heap.size, 8, none⟩ (List.take s.size (s.data.toList.map fun b => Value.int .u8 b.toNat))).run Try.prog (w3.setRow w1.heap.size cur2) = .ok () ((w3.setRow w1.heap.size cur2).setRow w1.heap.size cur3) ∧
    (((w3.setRow w1.heap.size cur2).setRow w1.heap.size cur3).alloc (.cells #[.int .u8 255] 5)).frozen? ⟨w1.heap.size, 8 + s.size, none⟩ = false ∧
    (((w3.setRow w1.heap.size cur2).setRow w1.heap.size cur3).alloc (.cells #[.int .u8 255] 5)).cell? ⟨w1.heap.size, 8 + s.size, none⟩ = some cur3[8 + s.size] ∧
    (convert 86 9 (.slice (some ⟨w1.heap.size, 0, none⟩) (8 + s.size + 1) (9 + s.size))).run Try.prog ((((w3.setRow w1.heap.size cur2).setRow w1.heap.size cur3).alloc (.cells #[.int .u8 255] 5)).setCell ⟨w1.heap.size, 8 + s.size, none⟩ (.int .u8 255)) = .ok (.string (frameB s)) ((((w3.setRow w1.heap.size cur2).setRow w1.heap.size cur3).alloc (.cells #[.int .u8 255] 5)).setCell ⟨w1.heap.size, 8 + s.size, none⟩ (.int .u8 255)) ∧
    Below w.heap.size w ((((w3.setRow w1.heap.size cur2).setRow w1.heap.size cur3).alloc (.cells #[.int .u8 255] 5)).setCell ⟨w1.heap.size, 8 + s.size, none⟩ (.int .u8 255)) := by
  have st3 := st_row w3 w1.heap.size 4 4 (shortB m) cur1 hz2 hg3 (by omega)
  rw [hcur2] at st3
  have hg4 := setRow_heap w3 _ _ cur2 _ _ hg3
  have st4 := st_row (w3.setRow w1.heap.size cur2) w1.heap.size 8 s.size s cur2 rfl hg4 (by omega)
  rw [hcur3] at st4
  have hg5 := setRow_heap (w3.setRow w1.heap.size cur2) w1.heap.size cur2 cur3 5 (0, 0) hg4
  have hw8 : w1.heap.size < w3.heap.size := (Array.getElem?_eq_some_iff.1 hg3).1
  have hg6 : (((w3.setRow w1.heap.size cur2).setRow w1.heap.size cur3).alloc (.cells #[.int .u8 255] 5)).heap[w1.heap.size]? = some (.cells cur3 5 (0, 0)) := by
    rw [Below.heap_alloc _ _ _ (by simpa using hw8)]; exact hg5
  have hg7 := heap_setCell_same _ w1.heap.size (8 + s.size) cur3 5 (.int .u8 255) hg6
  rw [hlast] at hg7
  refine ⟨st3, st4, frozen_of_row _ w1.heap.size (8 + s.size) cur3 5 hg6, ?_, ?_, ?_⟩
  · rw [cell_of_row _ _ _ _ 5 _ hg6, Array.getElem?_eq_getElem (by omega)]
  · exact run_string_of_row (P := Try.prog) _ 86 9 5 w1.heap.size (8 + s.size + 1) (9 + s.size) (frameB s).data.toList 5 (0, 0) Try.underlying86 Try.underlying5 Try.underlying9 hg7 (by rw [len_eq, frameB_size]; omega)
  · have hx1 : Below w.heap.size w (w1.alloc (.cells cur1 5)) := hb1.alloc hb1.size _
    have hx := below_then hx1 (below_then hb2 hb3)
    have hx4 := below_setRow (below_setRow hx hb1.size cur2) hb1.size cur3
    have hx5 := hx4.alloc (by simp only [size_setRow]; exact Nat.le_trans hb1.size (Nat.le_of_lt hw8)) (.cells #[.int .u8 255] 5)
    exact hx5.setCell hb1.size _
set_option maxRecDepth 100000 in
set_option maxHeartbeats 1000000 in
theorem frame_any (s : ByteArray) (w : World) (hs : s.size ≤ 1099511627776) :
    Calls Try.prog 46 #[.string s] w fun e w' => e = .returned (frameV s) ∧ Below w.heap.size w w' := by
  by_cases h : s.size ≤ 131072
  · have h' : ¬ (131072 : Int) < (s.size : Int) := by omega
    have h4 : s.size < 4294967296 := by omega
    have hc := short_any s.size
    have HC := Lib.hid hc
    have hd := short_any (sumOf [shortB s.size, s])
    have HD := Lib.hid hd
    have hsl := sumOf_lt [shortB s.size, s]
    obtain ⟨m, hm⟩ : ∃ m, sumOf [shortB s.size, s] = m := ⟨_, rfl⟩
    have he := fun W => sum_two W (shortB s.size) s (by rw [shortB_size]; omega) hs
    rw [hm] at hsl HD he
    have HE := Lib.hid he
    have hz1 := shortB_size s.size
    have hz2 := shortB_size m
    clear hc hd he
    obtain ⟨i0, hi, hiz0, hiz1, hiz2⟩ := info_parts (show (Try.prog.info? 5).map (fun i => (i.zero, i.size, i.bytes)) = some (some (.int .u8 0), 1, 1) by kernel_rfl)
    obtain ⟨cur0, hcur0⟩ : ∃ cur0, madeCells (Value.int .u8 0).cells ((9 + (s.size : Int)).toNat * 1) = cur0 := ⟨_, rfl⟩
    have hmk : ∀ W, (Instr.makeSlice 86 (.int .i64 0) (.int .i64 (9 + (s.size : Int)))).run Try.prog W = .ok (.slice (some ⟨W.heap.size, 0, none⟩) 0 (9 + s.size)) (W.alloc (.cells cur0 5)) := by
      intro W
      have h := run_make (P := Try.prog) W 86 5 i0 (.int .u8 0) Try.underlying86 hi hiz0 .i64 .i64 0 (9 + (s.size : Int)) (by omega) (by omega) (by rw [hiz2]; omega) (by omega)
      rw [hiz1, hcur0] at h
      rw [h, show (9 + (s.size : Int)).toNat = 9 + s.size by omega]
      rfl
    obtain ⟨cur1, hcur1⟩ : ∃ cur1, (cur0.toList.take 0 ++ Lib.strCells (shortB s.size) ++ cur0.toList.drop (0 + 4)).toArray = cur1 := ⟨_, rfl⟩
    have hs0 : cur0.size = 9 + s.size := by rw [← hcur0, size_madeCells]; omega
    have hst1 : ∀ W : World, (storeCells ⟨W.heap.size, 0, none⟩ (List.take 4 ((shortB s.size).data.toList.map fun b => Value.int .u8 b.toNat))).run Try.prog (W.alloc (.cells cur0 5)) = .ok () (W.alloc (.cells cur1 5)) := by
      intro W
      rw [st_row (W.alloc (.cells cur0 5)) W.heap.size 0 4 (shortB s.size) cur0 hz1 (heap_alloc_new W _) (by omega), hcur1, World.setRow_alloc_new]
    have he2 : ∀ W : World, Calls Try.prog 65 #[.slice (some ⟨W.heap.size + 1, 0, none⟩) 2 2] ((W.alloc (.cells cur1 5)).alloc (.cells #[.string (shortB s.size), .string s] 9)) fun e w' => e = .returned (.int .u32 (m : Int)) ∧ Below (W.alloc (.cells cur1 5)).heap.size (W.alloc (.cells cur1 5)) w' := by
      intro W
      have h := HE.out (W.alloc (.cells cur1 5))
      rw [show (W.alloc (.cells cur1 5)).heap.size = W.heap.size + 1 by simp] at h ⊢
      exact h
    have hs1 : cur1.size = 9 + s.size := by
      rw [← hcur1, List.size_toArray, List.length_append, List.length_append, List.length_take, List.length_drop, Lib.strCells_length, Array.length_toList, hs0, hz1]
      omega
    have hrow : ∀ W w2 w3 : World, Below (W.alloc (.cells cur1 5)).heap.size (W.alloc (.cells cur1 5)) w2 → Below w2.heap.size w2 w3 → w3.heap[W.heap.size]? = some (.cells cur1 5 (0, 0)) := by
      intro W w2 w3 h2 h3
      have h4 := below_then h2 h3
      rw [h4.block _ (by simp), heap_alloc_new]
    obtain ⟨cur2, hcur2⟩ : ∃ cur2, (cur1.toList.take 4 ++ Lib.strCells (shortB m) ++ cur1.toList.drop (4 + 4)).toArray = cur2 := ⟨_, rfl⟩
    have hs2 : cur2.size = 9 + s.size := by
      rw [← hcur2, List.size_toArray, List.length_append, List.length_append, List.length_take, List.length_drop, Lib.strCells_length, Array.length_toList, hs1, hz2]
      omega
    obtain ⟨cur3, hcur3⟩ : ∃ cur3, (cur2.toList.take 8 ++ Lib.strCells s ++ cur2.toList.drop (8 + s.size)).toArray = cur3 := ⟨_, rfl⟩
    have hs3 : cur3.size = 9 + s.size := by
      rw [← hcur3, List.size_toArray, List.length_append, List.length_append, List.length_take, List.length_drop, Lib.strCells_length, Array.length_toList, hs2]
      omega
    have hlast : cur3.setIfInBounds (8 + s.size) (.int .u8 255) = bcells (frameB s).data.toList := by
      apply Array.ext'
      have z1 := Lib.strCells_length (shortB s.size)
      have z2 := Lib.strCells_length (shortB m)
      have z3 := Lib.strCells_length s
      rw [hz1] at z1
      rw [hz2] at z2
      have l1 : cur1.toList = Lib.strCells (shortB s.size) ++ cur0.toList.drop (0 + 4) := by rw [← hcur1]; simp
      have l2 : cur2.toList = Lib.strCells (shortB s.size) ++ Lib.strCells (shortB m) ++ cur1.toList.drop (4 + 4) := by
        rw [← hcur2, l1]
        simp [z1]
      have l3 : cur3.toList = Lib.strCells (shortB s.size) ++ Lib.strCells (shortB m) ++ Lib.strCells s ++ cur2.toList.drop (8 + s.size) := by
        rw [← hcur3, l2]
        simp only [List.take_append, z1, z2, List.length_append]
        rw [List.take_of_length_le (by rw [z1]; omega), List.take_of_length_le (by rw [z2]; omega)]
        simp
      have hd : (cur2.toList.drop (8 + s.size)).length = 1 := by rw [List.length_drop, Array.length_toList, hs2]; omega
      obtain ⟨x, hx⟩ := List.length_eq_one_iff.1 hd
      rw [hx] at l3
      rw [Array.toList_setIfInBounds, l3, List.set_append_right _ _ (by simp [z1, z2, z3]; omega)]
      have e0 : 8 + s.size - (Lib.strCells (shortB s.size) ++ Lib.strCells (shortB m) ++ Lib.strCells s).length = 0 := by simp [z1, z2, z3]; omega
      rw [e0]
      have hf : (frameB s).data.toList = (shortB s.size).data.toList ++ (shortB m).data.toList ++ s.data.toList ++ [255] := by unfold frameB; rw [hm]; simp
      rw [hf]
      unfold bcells Lib.strCells
      simp
    have HLAST := Lib.hid hlast
    clear hlast
    have HE2 := Lib.hid he2
    have HROW := Lib.hid hrow
    have HCU2 := Lib.hid hcur2
    have HCU3 := Lib.hid hcur3
    have HCU := Lib.hid hcur1
    clear he2 hrow hcur2 hcur3
    have HCU0 := Lib.hid hcur0
    clear hcur1 hcur0
    go_enter Try.func46, Try.ntmps46
    go_wp2_with first
      | (go_at_call 65; with_reducible refine (HE2.out _).mono ?_; rintro e w2 ⟨rfl, hb2⟩)
      | (go_at_call 64; with_reducible refine (HC.out _ h4).mono ?_; rintro e w1 ⟨rfl, hb1⟩)
      | (go_at_call 64; with_reducible refine (HD.out _ hsl).mono ?_; rintro e w3 ⟨rfl, hb3⟩; have hg3 := HROW.out w1 w2 w3 hb2 hb3
         obtain ⟨st3, st4, hz6, hc6, hcv, hb9⟩ := frame_arm s m w w1 w2 w3 cur1 cur2 cur3 hz2 hb1 hb2 hb3 hg3 hs1 hs2 hs3 HCU2.out HCU3.out HLAST.out
         have HB9 := Lib.hid hb9
         clear hb9 hg3)
      | fail
    go_ret2
    exact ⟨by unfold frameV; rw [if_pos h]; rfl, HB9.out⟩
  · have h' : (131072 : Int) < (s.size : Int) := by omega
    go_enter Try.func46, Try.ntmps46
    go_wp2_with fail
    go_ret2
    exact ⟨by unfold frameV; rw [if_neg h]; rfl, Below.refl _ _⟩
end Go.Proofs.Ytkecjopojnllnaa
