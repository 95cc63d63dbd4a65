/- The disk of the reference, and what of the disk the log calls (my own, from the seat of the disk): Tg. -/
import Derived.Test.YtkecjopojnllnaaM08
namespace Go.Proofs.Ytkecjopojnllnaa
open Go.RowKit Go.Deep Go.Joins
theorem letter_not {c : Int} : letterB c = false ↔ (c < 97 ∨ 122 < c) ∧ (c < 48 ∨ 57 < c) ∧ c ≠ 46 := by
  unfold letterB
  simp only [Bool.or_eq_false_iff, Bool.and_eq_false_iff, decide_eq_false_iff_not, beq_eq_false_iff_ne]
  omega
set_option maxHeartbeats 1000000 in
set_option maxRecDepth 100000 in
theorem name2_any (s : ByteArray) (w : World) (hs : s.size ≤ 1099511627776) :
    Calls Try.prog 66 #[.string s] w fun e w' => e = .returned (.bool (nameB s)) ∧ w = w' := by
  by_cases h0 : s.size < 1
  · go_enter Try.func66, Try.ntmps66
    go_wp2
    go_ret
    exact ⟨ret_bool (by unfold nameB; rw [show decide (1 ≤ s.size) = false from decide_eq_false (by omega)]; simp), rfl⟩
  by_cases h1 : 16 < s.size
  · go_enter Try.func66, Try.ntmps66
    go_wp2
    go_ret
    exact ⟨ret_bool (by unfold nameB; rw [show decide (s.size ≤ 16) = false from decide_eq_false (by omega)]; simp), rfl⟩
  have e : nameB s = s.data.toList.all fun c => letterB c.toNat := by
    unfold nameB
    rw [show decide (1 ≤ s.size) = true from decide_eq_true (by omega), show decide (s.size ≤ 16) = true from decide_eq_true (by omega)]
    rfl
  have E := Lib.hid e
  clear e
  go_enter Try.func66, Try.ntmps66
  go_wp2
  go_loop [3] (fun i => ∃ k : Nat, k ≤ s.size ∧ i = .int .i64 k ∧ Hid ((s.data.toList.take k).all (fun c => letterB c.toNat) = true)) (fun i => s.size - (intOf i).toNat)
  case atStart => exact ⟨0, Nat.zero_le _, rfl, rfl⟩
  case round =>
    obtain ⟨k, hk, rfl, Hall⟩ := hrel
    by_cases hlt : k < s.size
    · have hts := take_snoc s k hlt
      have Hts := Lib.hid hts
      clear hts
      have hbad : letterB (s[k].toNat : Int) = false → nameB s = false := fun hl => by
        rw [E.out, List.all_eq_false]
        exact ⟨s[k], mem_at s k hlt, by simp [hl]⟩
      have hgood : letterB (s[k].toNat : Int) = true → Hid ((s.data.toList.take (k + 1)).all (fun c => letterB c.toNat) = true) := fun hl => by
        show _ = _
        rw [Hts.out, List.all_append, Hall.out]
        simp [hl]
      have HBAD := Lib.hid hbad
      have HGOOD := Lib.hid hgood
      clear hbad hgood
      by_cases a1 : (s[k].toNat : Int) < 97
      · by_cases a2 : (s[k].toNat : Int) < 48
        · by_cases a3 : (s[k].toNat : Int) = 46
          · have hg := HGOOD.out (by unfold letterB; rw [a3]; rfl)
            have b3 : ((s[k].toNat : Int) != 46) = false := by rw [a3]; rfl
            have hn : s[k].toNat = 46 := by omega
            go_wp2_with fail
            go_round
            case rel => exact ⟨k + 1, by omega, by go_num, hg⟩
            case measure => simp [intOf]; omega
          · have hb := HBAD.out (letter_not.2 ⟨.inl a1, .inl a2, a3⟩)
            have HB := Lib.hid hb
            have b3 : ((s[k].toNat : Int) != 46) = true := by simpa using a3
            clear hb
            go_wp2_with fail
            go_ret
            exact ⟨ret_bool HB.out.symm, rfl⟩
        · by_cases a4 : 57 < (s[k].toNat : Int)
          · have hb := HBAD.out (letter_not.2 ⟨.inl a1, .inr a4, by omega⟩)
            have HB := Lib.hid hb
            have b3 : ((s[k].toNat : Int) != 46) = true := by simp; omega
            clear hb
            go_wp2_with fail
            go_ret
            exact ⟨ret_bool HB.out.symm, rfl⟩
          · have hg := HGOOD.out (by rcases Bool.eq_false_or_eq_true (letterB (s[k].toNat : Int)) with h | h; exact h; have := letter_not.1 h; omega)
            go_wp2_with fail
            go_round
            case rel => exact ⟨k + 1, by omega, by go_num, hg⟩
            case measure => simp [intOf]; omega
      · by_cases a2 : 122 < (s[k].toNat : Int)
        · have hb := HBAD.out (letter_not.2 ⟨.inr a2, .inr (by omega), by omega⟩)
          have HB := Lib.hid hb
          have b3 : ((s[k].toNat : Int) != 46) = true := by simp; omega
          have b4 : ¬ (s[k].toNat : Int) < 48 := by omega
          have b5 : 57 < (s[k].toNat : Int) := by omega
          clear hb
          go_wp2_with fail
          go_ret
          exact ⟨ret_bool HB.out.symm, rfl⟩
        · have hg := HGOOD.out (by rcases Bool.eq_false_or_eq_true (letterB (s[k].toNat : Int)) with h | h; exact h; have := letter_not.1 h; omega)
          go_wp2_with fail
          go_round
          case rel => exact ⟨k + 1, by omega, by go_num, hg⟩
          case measure => simp [intOf]; omega
    · go_wp2
      go_ret
      exact ⟨ret_bool (by rw [E.out, ← Hall.out, List.take_of_length_le (by rw [len_eq]; omega)]), rfl⟩
end Go.Proofs.Ytkecjopojnllnaa
namespace Go.Proofs.Ytkecjopojnllnaa
open Go.RowKit Go.Deep Go.Joins
theorem place_at {x : ByteArray} {l : List Rw} {k : Nat} (h : lowTo x l k) (hk : k < l.length) (hn : Op.bytesLess l[k].name.toList x.toList = false) (hs : idx (sameName x) l = -1) : placeOf x l = (k : Int) := by
  have hne : (l[k].name.toList == x.toList) = false := by
    rcases idx_cases (sameName x) l with ⟨h1, _⟩ | ⟨j, _, hj, _⟩
    · exact h1 k hk hk
    · rw [hs] at hj; omega
  have hi : idx (aboveName x) l = (k : Int) := idx_some hk (fun j hj hlt => by
    show above l[j].name x = false
    unfold above
    rw [h j hj hlt]; rfl) (by
    show above l[k].name x = true
    unfold above
    rw [hn, hne]; rfl)
  unfold placeOf
  rw [hi, if_neg (by omega)]
set_option maxRecDepth 100000 in
set_option maxHeartbeats 1000000 in
theorem add_nil (x : ByteArray) (w : World) : Calls Try.prog 67 #[.agg #[.slice none 0 0], .string x] w fun e w' => ∃ v' : Value, e = .returned (.tuple #[.agg #[v'], .int .i64 0]) ∧ w'.ownsRow w.heap.size 58 3 v' 1 (rowCells [⟨x, .empty, .slice none 0 0, []⟩]) ∧ Below w.heap.size w w' := by
  obtain ⟨i0, hi, hz0, hz1, hz2⟩ := info_parts (show (Try.prog.info? 58).map (fun i => (i.zero, i.size, i.bytes)) = some (some (.agg #[.string .empty, .string .empty, .slice none 0 0]), 3, 56) by kernel_rfl)
  go_enter Try.func67, Try.ntmps67
  go_wp2_with fail
  go_loop [6] (fun i => i = .int .i64 0) (fun _ => 0)
  case atStart => rfl
  case round =>
    subst hrel
    go_wp2_with (first
      | (at_builtin; refine wpList_append_copy rfl _ _ 22 rfl (w.heap.size + 2) 58 i0 (.agg #[.string .empty, .string .empty, .slice none 0 0]) 3 56 Try.underlying22 hi hz0 hz1 hz2 rfl (by decide) rfl _ rfl 0 [] ?a1 (fun u hu => absurd hu (List.not_mem_nil)) ?a3 ?a4 ?a5 ?_; rotate_right 1; intro q1 c1 w5 ho5 hg5; have HO5 := Lib.hid ho5; have D5 : VarAt w5 w.heap.size (.slice none 0 0) := (hg5.block _ (by simp; omega) (by simp)).trans ((VarAt.new _ _).old _); have R5 : VarAt w5 (w.heap.size + 1) (.slice none 0 0) := (hg5.block _ (by simp) (by simp)).trans (VarAt.new2 _ _ _); have HG5 := Lib.hid hg5; clear ho5 hg5)
      | (at_builtin; refine wpList_append_own _ rfl _ _ 22 rfl (w.heap.size + 2) 58 i0 (.agg #[.string .empty, .string .empty, .slice none 0 0]) 3 56 Try.underlying22 hi hz0 hz1 hz2 rfl (by decide) _ 0 [] rfl ?b1 ⟨w5.heap.size, 0, none⟩ 1 1 [.string x, .string .empty, .slice none 0 0] rfl rfl ?b2 ?b3 ?b4 ?b5 ?b6 ?_; rotate_right 1; intro v6 w6 ho6 hg6 _; obtain ⟨q2, c2, rfl⟩ := owns_shape ho6; have HO6 := Lib.hid ho6; have D6 := VarAt.grown (D5.old _) (owns_below HO5.out (below1 _ _)) (by decide) hg6; have R6 := VarAt.grown (R5.old _) (owns_below HO5.out (below1 _ _)) (by decide) hg6; have HG6 := Lib.hid hg6; have d6 := D6.c; have dl6 := D6.lt; clear ho6 hg6)
      | (at_builtin; refine wpList_append_reads rfl _ _ 22 rfl (w.heap.size + 2) 58 i0 (.agg #[.string .empty, .string .empty, .slice none 0 0]) 3 56 Try.underlying22 hi hz0 hz1 hz2 rfl (by decide) _ (0 + 1) ([] ++ [.string x, .string .empty, .slice none 0 0]) rfl ?c1 _ 0 [] rfl ?c2 (fun u hu => absurd hu (List.not_mem_nil)) ?c4 ?c5 ?c6 ?_; rotate_right 1; intro q3 c3 w7 HO7 hg7; have R7 := VarAt.grown R6 HO6.out (by decide) hg7; have HG7 := Lib.hid hg7; have r7 := R7.c; have rz7 := R7.f; have rl7 := R7.lt; clear hg7))
    case c1 => exact HO6.out
    case c2 => exact reads_nil _ 3
    case c4 => unfold maxLen; omega
    case c6 => have := R6.lt; omega
    case b1 => exact owns_below HO5.out (below1 _ _)
    case b2 => first | exact fun j u hu => hu | (intro j u hu; rw [add_lit, Nat.zero_add, cell_of_row _ _ _ _ 58 _ (heap_alloc_new _ _)]; simpa using hu)
    case b3 => exact ⟨rfl, rfl, rfl⟩
    case b4 => unfold maxLen; omega
    case b6 => have := R5.lt; omega
    case a1 => exact reads_nil _ 3
    have hb5 : Below w.heap.size w w5 := (below2 w _ _).grown HG5.out (by simp; omega) (fun k hk => by cases hk)
    have hb6 : Below w.heap.size w w6 := (hb5.alloc hb5.size _).grown HG6.out (by have := hb5.size; simp; omega) fun j hj => by have := (HO5.out.lt j hj).1; omega
    have hb7 : Below w.heap.size w w7 := hb6.grown HG7.out hb6.size fun j hj => by have := (HO6.out.lt j hj).1; omega
    have hfin := HO7.out
    have e2 : ([] ++ [.string x, .string .empty, .slice none 0 0] ++ [] : List Value) = rowCells [⟨x, .empty, .slice none 0 0, []⟩] := rfl
    rw [e2] at hfin
    refine bodyPost_ret (v := .tuple #[.agg #[.slice q3 1 c3], .int .i64 0]) (by simp [results, Try.results67, go_sem, r7]) rfl
      ⟨_, rfl, ?_, hb7.setCell (by simp) _⟩
    exact owns_mono (ownsRow_setCell_below hfin (by simp) _) (by omega)
set_option maxRecDepth 100000 in
set_option maxHeartbeats 1000000 in
theorem add_empty (g cap : Nat) (x : ByteArray) (w : World) (hc : cap ≤ maxLen) : Calls Try.prog 67 #[.agg #[.slice (some ⟨g, 0, none⟩) 0 cap], .string x] w fun e w' => ∃ v' : Value, e = .returned (.tuple #[.agg #[v'], .int .i64 0]) ∧ w'.ownsRow w.heap.size 58 3 v' 1 (rowCells [⟨x, .empty, .slice none 0 0, []⟩]) ∧ Below w.heap.size w w' := by
  obtain ⟨i0, hi, hz0, hz1, hz2⟩ := info_parts (show (Try.prog.info? 58).map (fun i => (i.zero, i.size, i.bytes)) = some (some (.agg #[.string .empty, .string .empty, .slice none 0 0]), 3, 56) by kernel_rfl)
  go_enter Try.func67, Try.ntmps67
  go_wp2_with fail
  go_loop [6] (fun i => i = .int .i64 0) (fun _ => 0)
  case atStart => rfl
  case round =>
    subst hrel
    go_wp2_with (first
      | (at_builtin; refine wpList_append_copy rfl _ _ 22 rfl (w.heap.size + 2) 58 i0 (.agg #[.string .empty, .string .empty, .slice none 0 0]) 3 56 Try.underlying22 hi hz0 hz1 hz2 rfl (by decide) rfl _ rfl 0 [] ?a1 (fun u hu => absurd hu (List.not_mem_nil)) ?a3 ?a4 ?a5 ?_; rotate_right 1; intro q1 c1 w5 ho5 hg5; have HO5 := Lib.hid ho5; have D5 : VarAt w5 w.heap.size (.slice (some ⟨g, 0, none⟩) 0 cap) := (hg5.block _ (by simp; omega) (by simp)).trans ((VarAt.new _ _).old _); have R5 : VarAt w5 (w.heap.size + 1) (.slice none 0 0) := (hg5.block _ (by simp) (by simp)).trans (VarAt.new2 _ _ _); have HG5 := Lib.hid hg5; clear ho5 hg5)
      | (at_builtin; refine wpList_append_own _ rfl _ _ 22 rfl (w.heap.size + 2) 58 i0 (.agg #[.string .empty, .string .empty, .slice none 0 0]) 3 56 Try.underlying22 hi hz0 hz1 hz2 rfl (by decide) _ 0 [] rfl ?b1 ⟨w5.heap.size, 0, none⟩ 1 1 [.string x, .string .empty, .slice none 0 0] rfl rfl ?b2 ?b3 ?b4 ?b5 ?b6 ?_; rotate_right 1; intro v6 w6 ho6 hg6 _; obtain ⟨q2, c2, rfl⟩ := owns_shape ho6; have HO6 := Lib.hid ho6; have D6 := VarAt.grown (D5.old _) (owns_below HO5.out (below1 _ _)) (by decide) hg6; have R6 := VarAt.grown (R5.old _) (owns_below HO5.out (below1 _ _)) (by decide) hg6; have HG6 := Lib.hid hg6; have d6 := D6.c; have dl6 := D6.lt; clear ho6 hg6)
      | (at_builtin; refine wpList_append_reads rfl _ _ 22 rfl (w.heap.size + 2) 58 i0 (.agg #[.string .empty, .string .empty, .slice none 0 0]) 3 56 Try.underlying22 hi hz0 hz1 hz2 rfl (by decide) _ (0 + 1) ([] ++ [.string x, .string .empty, .slice none 0 0]) rfl ?c1 _ 0 [] rfl ?c2 (fun u hu => absurd hu (List.not_mem_nil)) ?c4 ?c5 ?c6 ?_; rotate_right 1; intro q3 c3 w7 HO7 hg7; have R7 := VarAt.grown R6 HO6.out (by decide) hg7; have HG7 := Lib.hid hg7; have r7 := R7.c; have rz7 := R7.f; have rl7 := R7.lt; clear hg7))
    case c1 => exact HO6.out
    case c2 => exact ⟨rfl, .inr ⟨_, _, rfl, Nat.zero_le _, hc, fun j u hu => by simp at hu⟩⟩
    case c4 => unfold maxLen; omega
    case c6 => have := R6.lt; omega
    case b1 => exact owns_below HO5.out (below1 _ _)
    case b2 => first | exact fun j u hu => hu | (intro j u hu; rw [add_lit, Nat.zero_add, cell_of_row _ _ _ _ 58 _ (heap_alloc_new _ _)]; simpa using hu)
    case b3 => exact ⟨rfl, rfl, rfl⟩
    case b4 => unfold maxLen; omega
    case b6 => have := R5.lt; omega
    case a1 => exact ⟨rfl, .inr ⟨_, _, rfl, Nat.zero_le _, hc, fun j u hu => by simp at hu⟩⟩
    have hb5 : Below w.heap.size w w5 := (below2 w _ _).grown HG5.out (by simp; omega) (fun k hk => by cases hk)
    have hb6 : Below w.heap.size w w6 := (hb5.alloc hb5.size _).grown HG6.out (by have := hb5.size; simp; omega) fun j hj => by have := (HO5.out.lt j hj).1; omega
    have hb7 : Below w.heap.size w w7 := hb6.grown HG7.out hb6.size fun j hj => by have := (HO6.out.lt j hj).1; omega
    have hfin := HO7.out
    have e2 : ([] ++ [.string x, .string .empty, .slice none 0 0] ++ [] : List Value) = rowCells [⟨x, .empty, .slice none 0 0, []⟩] := rfl
    rw [e2] at hfin
    refine bodyPost_ret (v := .tuple #[.agg #[.slice q3 1 c3], .int .i64 0]) (by simp [results, Try.results67, go_sem, r7]) rfl
      ⟨_, rfl, ?_, hb7.setCell (by simp) _⟩
    exact owns_mono (ownsRow_setCell_below hfin (by simp) _) (by omega)
set_option maxRecDepth 100000 in
set_option maxHeartbeats 1000000 in
theorem add_any (l : List Rw) (v : Value) (x : ByteArray) (B : Nat) (w : World) (hown : w.ownsRow B 58 3 v l.length (rowCells l)) (hone : ∀ u ∈ rowCells l, u.oneCell' = true) (hidx : idx (sameName x) l = -1) (hm : l.length ≤ 1099511627776) :
    Calls Try.prog 67 #[.agg #[v], .string x] w fun e w' => ∃ (k : Nat) (v' : Value), e = .returned (.tuple #[.agg #[v'], .int .i64 (k : Int)]) ∧ k ≤ l.length ∧ placeOf x l = (k : Int) ∧
      w'.ownsRow w.heap.size 58 3 v' (l.length + 1) (rowCells (l.take k ++ ⟨x, .empty, .slice none 0 0, []⟩ :: l.drop k)) ∧ Below w.heap.size w w' := by
  obtain ⟨q, cap, rfl⟩ := owns_shape hown
  obtain ⟨i0, hi, hz0, hz1, hz2⟩ := info_parts (show (Try.prog.info? 58).map (fun i => (i.zero, i.size, i.bytes)) = some (some (.agg #[.string .empty, .string .empty, .slice none 0 0]), 3, 56) by kernel_rfl)
  have HOWN := Lib.hid hown
  have HIDX := Lib.hid hidx
  have HONE := Lib.hid hone
  by_cases hl0 : l.length = 0
  · obtain rfl := List.eq_nil_of_length_eq_zero hl0
    have hcase : (Value.slice q (List.length ([] : List Rw)) cap = .slice none 0 0) ∨ ∃ g, Value.slice q (List.length ([] : List Rw)) cap = .slice (some ⟨g, 0, none⟩) 0 cap ∧ cap ≤ maxLen := by
      rcases hown.2 with ⟨h1, _⟩ | ⟨g', cap', cur, h1, _, _, _, h4, _⟩
      · exact .inl h1
      · simp only [Value.slice.injEq] at h1
        obtain ⟨rfl, _, rfl⟩ := h1
        exact .inr ⟨g', rfl, h4⟩
    rcases hcase with h | ⟨g, h, hc⟩
    · rw [h]
      exact (add_nil x w).mono fun e w' ⟨v', h1, h2, h3⟩ => ⟨0, v', h1, Nat.le_refl _, rfl, h2, h3⟩
    · rw [h]
      exact (add_empty g cap x w hc).mono fun e w' ⟨v', h1, h2, h3⟩ => ⟨0, v', h1, Nat.le_refl _, rfl, h2, h3⟩
  obtain ⟨g, hq, hg1, hg2, _⟩ := owns_file hown 0 (by omega) (by omega)
  subst hq
  have hcapl : l.length ≤ cap := by
    rcases hown.2 with ⟨h1, _⟩ | ⟨g', cap', cur, h1, _, _, h3, h4, _⟩
    · cases h1
    · simp only [Value.slice.injEq, true_and] at h1
      obtain ⟨_, rfl⟩ := h1
      exact h3
  clear hown hidx hone
  go_enter Try.func67, Try.ntmps67
  go_wp2_with fail
  go_loop [6] (fun i => ∃ k : Nat, k ≤ l.length ∧ i = .int .i64 k ∧ Hid (lowTo x l k)) (fun i => l.length - (intOf i).toNat)
  case atStart => exact ⟨0, Nat.zero_le _, rfl, fun j _ h => absurd h (Nat.not_lt_zero _)⟩
  case round =>
    obtain ⟨k, hk, rfl, hlow⟩ := hrel
    by_cases hlt : k < l.length
    · obtain ⟨g', hq, _, _, c0, _⟩ := owns_file HOWN.out k hlt (by omega)
      obtain rfl : g = g' := by simpa using hq
      rcases Bool.eq_false_or_eq_true (Op.bytesLess l[k].name.toList x.toList) with hb | hb
      · have hnext : Hid (lowTo x l (k + 1)) := by
          intro j hj hjk
          by_cases e : j < k
          · exact hlow.out j hj e
          · obtain rfl : j = k := by omega
            exact hb
        go_wp2_with fail
        go_round
        case rel => exact ⟨k + 1, by omega, by go_num, hnext⟩
        case measure => simp [intOf]; omega
      · have hpl := place_at hlow.out hlt hb HIDX.out
        obtain ⟨hr1, hr2⟩ := reads_part HOWN.out rfl k hk
        have HR1 := Lib.hid hr1
        have HR2 := Lib.hid hr2
        have HPL := Lib.hid hpl
        have hkc : ¬ k = cap := by omega
        clear hr1 hr2 hpl
        have HONEA : Hid (∀ u ∈ rowCells (l.take k), u.oneCell' = true) := fun u hu => HONE.out u (by obtain ⟨r, hr, hu⟩ := List.mem_flatMap.1 hu; exact List.mem_flatMap.2 ⟨r, List.mem_of_mem_take hr, hu⟩)
        have HONEB : Hid (∀ u ∈ rowCells (l.drop k), u.oneCell' = true) := fun u hu => HONE.out u (by obtain ⟨r, hr, hu⟩ := List.mem_flatMap.1 hu; exact List.mem_flatMap.2 ⟨r, List.mem_of_mem_drop hr, hu⟩)
        go_wp2_with (first
          | (at_builtin; refine wpList_append_copy rfl _ _ 22 rfl (w.heap.size + 2) 58 i0 (.agg #[.string .empty, .string .empty, .slice none 0 0]) 3 56 Try.underlying22 hi hz0 hz1 hz2 rfl (by decide) rfl _ rfl k (rowCells (l.take k)) ?a1 (HONEA.out) ?a3 ?a4 ?a5 ?_; rotate_right 1; intro q1 c1 w5 ho5 hg5; have HO5 := Lib.hid ho5; have D5 : VarAt w5 w.heap.size (.slice (some ⟨g, 0, none⟩) l.length cap) := (hg5.block _ (by simp; omega) (by simp)).trans ((VarAt.new _ _).old _); have R5 : VarAt w5 (w.heap.size + 1) (.slice none 0 0) := (hg5.block _ (by simp) (by simp)).trans (VarAt.new2 _ _ _); have HG5 := Lib.hid hg5; clear ho5 hg5)
          | (at_builtin; refine wpList_append_own _ rfl _ _ 22 rfl (w.heap.size + 2) 58 i0 (.agg #[.string .empty, .string .empty, .slice none 0 0]) 3 56 Try.underlying22 hi hz0 hz1 hz2 rfl (by decide) _ k (rowCells (l.take k)) rfl ?b1 ⟨w5.heap.size, 0, none⟩ 1 1 [.string x, .string .empty, .slice none 0 0] rfl rfl ?b2 ?b3 ?b4 ?b5 ?b6 ?_; rotate_right 1; intro v6 w6 ho6 hg6 _; obtain ⟨q2, c2, rfl⟩ := owns_shape ho6; have HO6 := Lib.hid ho6; have D6 := VarAt.grown (D5.old _) (owns_below HO5.out (below1 _ _)) (by decide) hg6; have R6 := VarAt.grown (R5.old _) (owns_below HO5.out (below1 _ _)) (by decide) hg6; have HG6 := Lib.hid hg6; have d6 := D6.c; have dl6 := D6.lt; clear ho6 hg6)
          | (at_builtin; refine wpList_append_reads rfl _ _ 22 rfl (w.heap.size + 2) 58 i0 (.agg #[.string .empty, .string .empty, .slice none 0 0]) 3 56 Try.underlying22 hi hz0 hz1 hz2 rfl (by decide) _ (k + 1) (rowCells (l.take k) ++ [.string x, .string .empty, .slice none 0 0]) rfl ?c1 _ (l.length - k) (rowCells (l.drop k)) rfl ?c2 (HONEB.out) ?c4 ?c5 ?c6 ?_; rotate_right 1; intro q3 c3 w7 HO7 hg7; have R7 := VarAt.grown R6 HO6.out (by decide) hg7; have HG7 := Lib.hid hg7; have r7 := R7.c; have rz7 := R7.f; have rl7 := R7.lt; clear hg7))
        case a1 => exact HR1.out.below (below2 w _ _)
        case a3 => unfold maxLen; omega
        case a4 => omega
        case b1 => exact owns_below HO5.out (below1 _ _)
        case b2 =>
          intro j u hu
          first
            | exact hu
            | (rw [add_lit, Nat.zero_add, cell_of_row _ _ _ _ 58 _ (heap_alloc_new _ _)]; simpa using hu)
        case b3 =>
          exact ⟨rfl, rfl, rfl⟩
        case b4 => unfold maxLen; omega
        case b5 => omega
        case b6 => have := R5.lt; simp; omega
        case c1 => exact HO6.out
        case c2 => exact HR2.out.below (by have hb5 : Below w.heap.size w w5 := (below2 w _ _).grown HG5.out (by simp; omega) (fun k hk => by cases hk); exact (hb5.alloc hb5.size _).grown HG6.out (by have := hb5.size; simp; omega) fun j hj => by have := (HO5.out.lt j hj).1; omega)
        case c4 => unfold maxLen; omega
        case c5 => omega
        case c6 => have := R6.lt; omega
        have hb5 : Below w.heap.size w w5 := (below2 w _ _).grown HG5.out (by simp; omega) (fun k hk => by cases hk)
        have hb6 : Below w.heap.size w w6 := (hb5.alloc hb5.size _).grown HG6.out (by have := hb5.size; simp; omega) fun j hj => by have := (HO5.out.lt j hj).1; omega
        have hb7 : Below w.heap.size w w7 := hb6.grown HG7.out hb6.size fun j hj => by have := (HO6.out.lt j hj).1; omega
        have hfin := HO7.out
        have e1 : k + 1 + (l.length - k) = l.length + 1 := by omega
        have e2 : rowCells (l.take k) ++ [.string x, .string .empty, .slice none 0 0] ++ rowCells (l.drop k) = rowCells (l.take k ++ ⟨x, .empty, .slice none 0 0, []⟩ :: l.drop k) := by simp [rowCells]
        rw [e2, e1] at hfin
        refine bodyPost_ret (v := .tuple #[.agg #[.slice q3 (k + 1 + (l.length - k)) c3], .int .i64 (k : Int)]) (by simp [results, Try.results67, go_sem, r7]) rfl
          ⟨k, _, rfl, hk, HPL.out, ?_, hb7.setCell (by simp) _⟩
        rw [e1]
        exact owns_mono (ownsRow_setCell_below hfin (by simp) _) (by omega)
    · have hkl : k = l.length := by omega
      have hpl : placeOf x l = (k : Int) := by rw [hkl]; exact place_end (hkl ▸ hlow.out)
      obtain ⟨hr1, hr2⟩ := reads_part HOWN.out rfl k hk
      have HR1 := Lib.hid hr1
      have HR2 := Lib.hid hr2
      have HPL := Lib.hid hpl
      clear hr1 hr2 hpl hkl
      by_cases hkc : k = cap
      · have hcm : cap ≤ 1099511627776 := by omega
        obtain rfl : cap = k := hkc.symm
        have HONEA : Hid (∀ u ∈ rowCells (l.take cap), u.oneCell' = true) := fun u hu => HONE.out u (by obtain ⟨r, hr, hu⟩ := List.mem_flatMap.1 hu; exact List.mem_flatMap.2 ⟨r, List.mem_of_mem_take hr, hu⟩)
        have HONEB : Hid (∀ u ∈ rowCells (l.drop cap), u.oneCell' = true) := fun u hu => HONE.out u (by obtain ⟨r, hr, hu⟩ := List.mem_flatMap.1 hu; exact List.mem_flatMap.2 ⟨r, List.mem_of_mem_drop hr, hu⟩)
        go_wp2_with (first
          | (at_builtin; refine wpList_append_copy rfl _ _ 22 rfl (w.heap.size + 2) 58 i0 (.agg #[.string .empty, .string .empty, .slice none 0 0]) 3 56 Try.underlying22 hi hz0 hz1 hz2 rfl (by decide) rfl _ rfl cap (rowCells (l.take cap)) ?a1 (HONEA.out) ?a3 ?a4 ?a5 ?_; rotate_right 1; intro q1 c1 w5 ho5 hg5; have HO5 := Lib.hid ho5; have D5 : VarAt w5 w.heap.size (.slice (some ⟨g, 0, none⟩) l.length cap) := (hg5.block _ (by simp; omega) (by simp)).trans ((VarAt.new _ _).old _); have R5 : VarAt w5 (w.heap.size + 1) (.slice none 0 0) := (hg5.block _ (by simp) (by simp)).trans (VarAt.new2 _ _ _); have HG5 := Lib.hid hg5; clear ho5 hg5)
          | (at_builtin; refine wpList_append_own _ rfl _ _ 22 rfl (w.heap.size + 2) 58 i0 (.agg #[.string .empty, .string .empty, .slice none 0 0]) 3 56 Try.underlying22 hi hz0 hz1 hz2 rfl (by decide) _ cap (rowCells (l.take cap)) rfl ?b1 ⟨w5.heap.size, 0, none⟩ 1 1 [.string x, .string .empty, .slice none 0 0] rfl rfl ?b2 ?b3 ?b4 ?b5 ?b6 ?_; rotate_right 1; intro v6 w6 ho6 hg6 _; obtain ⟨q2, c2, rfl⟩ := owns_shape ho6; have HO6 := Lib.hid ho6; have D6 := VarAt.grown (D5.old _) (owns_below HO5.out (below1 _ _)) (by decide) hg6; have R6 := VarAt.grown (R5.old _) (owns_below HO5.out (below1 _ _)) (by decide) hg6; have HG6 := Lib.hid hg6; have d6 := D6.c; have dl6 := D6.lt; clear ho6 hg6)
          | (at_builtin; refine wpList_append_reads rfl _ _ 22 rfl (w.heap.size + 2) 58 i0 (.agg #[.string .empty, .string .empty, .slice none 0 0]) 3 56 Try.underlying22 hi hz0 hz1 hz2 rfl (by decide) _ (cap + 1) (rowCells (l.take cap) ++ [.string x, .string .empty, .slice none 0 0]) rfl ?c1 _ (l.length - cap) (rowCells (l.drop cap)) rfl ?c2 (HONEB.out) ?c4 ?c5 ?c6 ?_; rotate_right 1; intro q3 c3 w7 HO7 hg7; have R7 := VarAt.grown R6 HO6.out (by decide) hg7; have HG7 := Lib.hid hg7; have r7 := R7.c; have rz7 := R7.f; have rl7 := R7.lt; clear hg7))
        case a1 => exact HR1.out.below (below2 w _ _)
        case a3 => unfold maxLen; omega
        case a4 => omega
        case b1 => exact owns_below HO5.out (below1 _ _)
        case b2 =>
          intro j u hu
          first
            | exact hu
            | (rw [add_lit, Nat.zero_add, cell_of_row _ _ _ _ 58 _ (heap_alloc_new _ _)]; simpa using hu)
        case b3 =>
          exact ⟨rfl, rfl, rfl⟩
        case b4 => unfold maxLen; omega
        case b5 => omega
        case b6 => have := R5.lt; simp; omega
        case c1 => exact HO6.out
        case c2 =>
          have hz : l.length - cap = 0 := by omega
          have hdz : rowCells (l.drop cap) = [] := List.eq_nil_of_length_eq_zero (by rw [rowCells_length, List.length_drop, hz])
          rw [hdz]
          try rw [hz]
          exact ⟨rfl, .inr ⟨_, _, rfl, Nat.zero_le _, by unfold maxLen; omega, fun j u hu => by simp at hu⟩⟩
        case c4 => unfold maxLen; omega
        case c5 => omega
        case c6 => have := R6.lt; omega
        have hb5 : Below w.heap.size w w5 := (below2 w _ _).grown HG5.out (by simp; omega) (fun k hk => by cases hk)
        have hb6 : Below w.heap.size w w6 := (hb5.alloc hb5.size _).grown HG6.out (by have := hb5.size; simp; omega) fun j hj => by have := (HO5.out.lt j hj).1; omega
        have hb7 : Below w.heap.size w w7 := hb6.grown HG7.out hb6.size fun j hj => by have := (HO6.out.lt j hj).1; omega
        have hfin := HO7.out
        have e1 : cap + 1 + (l.length - cap) = l.length + 1 := by omega
        have e2 : rowCells (l.take cap) ++ [.string x, .string .empty, .slice none 0 0] ++ rowCells (l.drop cap) = rowCells (l.take cap ++ ⟨x, .empty, .slice none 0 0, []⟩ :: l.drop cap) := by simp [rowCells]
        rw [e2, e1] at hfin
        refine bodyPost_ret (v := .tuple #[.agg #[.slice q3 (cap + 1) c3], .int .i64 (cap : Int)]) (by simp [results, Try.results67, go_sem, r7]) rfl
          ⟨cap, _, rfl, hk, HPL.out, ?_, hb7.setCell (by simp) _⟩
        rw [show cap + 1 = l.length + 1 by omega]
        exact owns_mono (ownsRow_setCell_below hfin (by simp) _) (by omega)
      · have hlk : k ≤ cap := by omega
        have HONEA : Hid (∀ u ∈ rowCells (l.take k), u.oneCell' = true) := fun u hu => HONE.out u (by obtain ⟨r, hr, hu⟩ := List.mem_flatMap.1 hu; exact List.mem_flatMap.2 ⟨r, List.mem_of_mem_take hr, hu⟩)
        have HONEB : Hid (∀ u ∈ rowCells (l.drop k), u.oneCell' = true) := fun u hu => HONE.out u (by obtain ⟨r, hr, hu⟩ := List.mem_flatMap.1 hu; exact List.mem_flatMap.2 ⟨r, List.mem_of_mem_drop hr, hu⟩)
        go_wp2_with (first
          | (at_builtin; refine wpList_append_copy rfl _ _ 22 rfl (w.heap.size + 2) 58 i0 (.agg #[.string .empty, .string .empty, .slice none 0 0]) 3 56 Try.underlying22 hi hz0 hz1 hz2 rfl (by decide) rfl _ rfl k (rowCells (l.take k)) ?a1 (HONEA.out) ?a3 ?a4 ?a5 ?_; rotate_right 1; intro q1 c1 w5 ho5 hg5; have HO5 := Lib.hid ho5; have D5 : VarAt w5 w.heap.size (.slice (some ⟨g, 0, none⟩) l.length cap) := (hg5.block _ (by simp; omega) (by simp)).trans ((VarAt.new _ _).old _); have R5 : VarAt w5 (w.heap.size + 1) (.slice none 0 0) := (hg5.block _ (by simp) (by simp)).trans (VarAt.new2 _ _ _); have HG5 := Lib.hid hg5; clear ho5 hg5)
          | (at_builtin; refine wpList_append_own _ rfl _ _ 22 rfl (w.heap.size + 2) 58 i0 (.agg #[.string .empty, .string .empty, .slice none 0 0]) 3 56 Try.underlying22 hi hz0 hz1 hz2 rfl (by decide) _ k (rowCells (l.take k)) rfl ?b1 ⟨w5.heap.size, 0, none⟩ 1 1 [.string x, .string .empty, .slice none 0 0] rfl rfl ?b2 ?b3 ?b4 ?b5 ?b6 ?_; rotate_right 1; intro v6 w6 ho6 hg6 _; obtain ⟨q2, c2, rfl⟩ := owns_shape ho6; have HO6 := Lib.hid ho6; have D6 := VarAt.grown (D5.old _) (owns_below HO5.out (below1 _ _)) (by decide) hg6; have R6 := VarAt.grown (R5.old _) (owns_below HO5.out (below1 _ _)) (by decide) hg6; have HG6 := Lib.hid hg6; have d6 := D6.c; have dl6 := D6.lt; clear ho6 hg6)
          | (at_builtin; refine wpList_append_reads rfl _ _ 22 rfl (w.heap.size + 2) 58 i0 (.agg #[.string .empty, .string .empty, .slice none 0 0]) 3 56 Try.underlying22 hi hz0 hz1 hz2 rfl (by decide) _ (k + 1) (rowCells (l.take k) ++ [.string x, .string .empty, .slice none 0 0]) rfl ?c1 _ (l.length - k) (rowCells (l.drop k)) rfl ?c2 (HONEB.out) ?c4 ?c5 ?c6 ?_; rotate_right 1; intro q3 c3 w7 HO7 hg7; have R7 := VarAt.grown R6 HO6.out (by decide) hg7; have HG7 := Lib.hid hg7; have r7 := R7.c; have rz7 := R7.f; have rl7 := R7.lt; clear hg7))
        case a1 => exact HR1.out.below (below2 w _ _)
        case a3 => unfold maxLen; omega
        case a4 => omega
        case b1 => exact owns_below HO5.out (below1 _ _)
        case b2 =>
          intro j u hu
          first
            | exact hu
            | (rw [add_lit, Nat.zero_add, cell_of_row _ _ _ _ 58 _ (heap_alloc_new _ _)]; simpa using hu)
        case b3 =>
          exact ⟨rfl, rfl, rfl⟩
        case b4 => unfold maxLen; omega
        case b5 => omega
        case b6 => have := R5.lt; simp; omega
        case c1 => exact HO6.out
        case c2 => exact HR2.out.below (by have hb5 : Below w.heap.size w w5 := (below2 w _ _).grown HG5.out (by simp; omega) (fun k hk => by cases hk); exact (hb5.alloc hb5.size _).grown HG6.out (by have := hb5.size; simp; omega) fun j hj => by have := (HO5.out.lt j hj).1; omega)
        case c4 => unfold maxLen; omega
        case c5 => omega
        case c6 => have := R6.lt; omega
        have hb5 : Below w.heap.size w w5 := (below2 w _ _).grown HG5.out (by simp; omega) (fun k hk => by cases hk)
        have hb6 : Below w.heap.size w w6 := (hb5.alloc hb5.size _).grown HG6.out (by have := hb5.size; simp; omega) fun j hj => by have := (HO5.out.lt j hj).1; omega
        have hb7 : Below w.heap.size w w7 := hb6.grown HG7.out hb6.size fun j hj => by have := (HO6.out.lt j hj).1; omega
        have hfin := HO7.out
        have e1 : k + 1 + (l.length - k) = l.length + 1 := by omega
        have e2 : rowCells (l.take k) ++ [.string x, .string .empty, .slice none 0 0] ++ rowCells (l.drop k) = rowCells (l.take k ++ ⟨x, .empty, .slice none 0 0, []⟩ :: l.drop k) := by simp [rowCells]
        rw [e2, e1] at hfin
        refine bodyPost_ret (v := .tuple #[.agg #[.slice q3 (k + 1 + (l.length - k)) c3], .int .i64 (k : Int)]) (by simp [results, Try.results67, go_sem, r7]) rfl
          ⟨k, _, rfl, hk, HPL.out, ?_, hb7.setCell (by simp) _⟩
        rw [e1]
        exact owns_mono (ownsRow_setCell_below hfin (by simp) _) (by omega)
end Go.Proofs.Ytkecjopojnllnaa
namespace Go.Proofs.Ytkecjopojnllnaa
open Go.RowKit Go.Deep Go.Joins
abbrev opObj (o : DOp) : Obj := .cells #[.int .i64 o.kind, .string o.name, .int .i64 o.pos, .string o.bytes] 55
set_option maxRecDepth 100000 in
set_option maxHeartbeats 1000000 in
theorem one_bad (l : List Rw) (v : Value) (B : Nat) (o : DOp) (w : World) (hown : OwnR w B v l) (hbad : badOp o = true) (hn : o.name.size ≤ 1099511627776) :
    Calls Try.prog 47 #[.agg #[v], .agg #[.int .i64 o.kind, .string o.name, .int .i64 o.pos, .string o.bytes]] w (One w B v (l.map core) 1) := by
  have HOWN := Lib.hid hown
  obtain ⟨q, cap, rfl⟩ := owns_shape hown.1
  clear hown
  by_cases h1 : o.kind < 1
  · clear hbad
    go_enter Try.func47, Try.ntmps47
    go_wp2_with fail
    refine bodyPost_ret (v := .tuple #[.agg #[.slice q l.length cap], .int .i64 1]) (by simp [results, Try.results47, go_sem]) rfl (one_same HOWN.out ?_)
    exact ((below2 w _ _).alloc (by simp; omega) _)
  by_cases h2 : 4 < o.kind
  · clear hbad
    go_enter Try.func47, Try.ntmps47
    go_wp2_with fail
    refine bodyPost_ret (v := .tuple #[.agg #[.slice q l.length cap], .int .i64 1]) (by simp [results, Try.results47, go_sem]) rfl (one_same HOWN.out ?_)
    exact ((below2 w _ _).alloc (by simp; omega) _)
  have hnm : nameB o.name = false := by
    unfold badOp at hbad
    simp only [Bool.or_eq_true, decide_eq_true_eq, Bool.not_eq_true'] at hbad
    rcases hbad with (h | h) | h
    · exact absurd h h1
    · exact absurd h h2
    · exact h
  clear hbad
  go_enter Try.func47, Try.ntmps47
  go_wp2_with (go_at_call 66; refine (name2_any o.name _ hn).mono ?_; rintro e w1 ⟨rfl, rfl⟩; rw [hnm])
  refine bodyPost_ret (v := .tuple #[.agg #[.slice q l.length cap], .int .i64 1]) (by simp [results, Try.results47, go_sem]) rfl (one_same HOWN.out ?_)
  exact ((below2 w _ _).alloc (by simp; omega) _)
/-- The variables with which the function begins. -/
theorem start_keep {w w5 : World} {v : Value} {o : DOp} (hb : Below (((w.alloc (.cells #[v] 24)).alloc (opObj o)).alloc (.cells #[.slice none 0 0] 24)).heap.size (((w.alloc (.cells #[v] 24)).alloc (opObj o)).alloc (.cells #[.slice none 0 0] 24)) w5) :
    VarAt w5 w.heap.size v ∧ w5.heap[w.heap.size + 1]? = some (opObj o) ∧ VarAt w5 (w.heap.size + 1 + 1) (.slice none 0 0) := by
  refine ⟨VarAt.keep (((VarAt.new w v).old _).old _) hb, (hb.block _ (by simp)).trans ((heap_alloc_old _ _ (by simp)).trans (heap_alloc2_new w _ _)), VarAt.keep ?_ hb⟩
  have h := VarAt.new ((w.alloc (.cells #[v] 24)).alloc (opObj o)) (.slice none 0 0)
  rw [World.size_alloc, World.size_alloc] at h
  exact h
set_option maxRecDepth 100000 in
set_option maxHeartbeats 1000000 in
theorem one_gone (l : List Rw) (v : Value) (B : Nat) (o : DOp) (w : World) (hown : OwnR w B v l) (h2 : 2 ≤ o.kind) (h4 : o.kind ≤ 4) (hnm : nameB o.name = true) (hn : o.name.size ≤ 1099511627776) (hm : l.length ≤ 1099511627776) (hi : idx (sameName o.name) l = -1) :
    Calls Try.prog 47 #[.agg #[v], .agg #[.int .i64 o.kind, .string o.name, .int .i64 o.pos, .string o.bytes]] w (One w B v (l.map core) 20) := by
  have HOWN := Lib.hid hown
  obtain ⟨q, cap, rfl⟩ := owns_shape hown.1
  clear hown
  have a1 : ¬ o.kind < 1 := by omega
  have a2 : ¬ 4 < o.kind := by omega
  have a3 : (o.kind == 1) = false := by rw [beq_eq_false_iff_ne]; omega
  have hb0 : Below w.heap.size w (((w.alloc (.cells #[.slice q l.length cap] 24)).alloc (opObj o)).alloc (.cells #[.slice none 0 0] 24)) := (below2 w _ _).alloc (by simp; omega) _
  have HB0 := Lib.hid hb0
  have hfind := find2_any l (.slice q l.length cap) o.name _ ((reads_of_owns HOWN.out.1).below hb0) hm
  rw [hi] at hfind
  have HF := Lib.hid hfind
  clear hb0 hfind
  go_enter Try.func47, Try.ntmps47
  go_wp2_with (go_at_call 66; refine (name2_any o.name _ hn).mono ?_; rintro e w1 ⟨rfl, rfl⟩; rw [hnm])
  refine HF.out.mono ?_
  rintro e w5 ⟨rfl, hb5⟩
  obtain ⟨D5, O5, R5⟩ := start_keep hb5
  have d5 := D5.c
  have r5 := R5.c
  have z5 := R5.f
  have o5 : w5.cell? ⟨w.heap.size + 1, 0, none⟩ = some (.int .i64 o.kind) := by rw [cell_of_row _ _ _ _ 55 _ O5]; rfl
  have hb := below_then HB0.out hb5
  have HB := Lib.hid hb
  have l1 := lt_of_cell d5
  have l2 := lt_of_cell o5
  have l3 := lt_of_cell r5
  clear hb hb5
  go_wp2_with fail
  refine bodyPost_ret (v := .tuple #[.agg #[.slice q l.length cap], .int .i64 20]) (by simp [results, Try.results47, go_sem, r5]) rfl (one_same HOWN.out ?_)
  exact HB.out.setCell (by simp; omega) _
set_option maxRecDepth 100000 in
set_option maxHeartbeats 1000000 in
theorem one_sync (l : List Rw) (v : Value) (B k : Nat) (nm : ByteArray) (ps : Int) (bs : ByteArray) (w : World) (hown : OwnR w B v l) (hnm : nameB nm = true) (hn : nm.size ≤ 1099511627776) (hm : l.length ≤ 1099511627776) (hk : k < l.length)
    (hi : idx (sameName nm) l = (k : Int)) (hs : l[k].safe.size ≤ 1099511627776) (hol : l[k].opens.length ≤ 1099511627776) (hbs : ∀ x ∈ l[k].opens, x.bytes.size ≤ 1099510579200) :
    Calls Try.prog 47 #[.agg #[v], .agg #[.int .i64 2, .string nm, .int .i64 ps, .string bs]] w (One w B v ((l.map core).set k ⟨l[k].name, layB l[k].safe l[k].opens, []⟩) 0) := by
  have HOWN := Lib.hid hown
  have hop := reads_of_owns (hown.2 l[k] (List.getElem_mem _))
  obtain ⟨q, cap, rfl⟩ := owns_shape hown.1
  obtain ⟨g, hq, hg1, hg2, c0, c1, c2, fzz⟩ := owns_file hown.1 k hk (by omega)
  subst hq
  obtain ⟨p3, cap3, hov⟩ := hop.is
  rw [hov] at c2 hop
  have HOP := Lib.hid hop
  have HBS := Lib.hid hbs
  clear hown hop hov hbs
  have hb0 : Below w.heap.size w (((w.alloc (.cells #[.slice (some ⟨g, 0, none⟩) l.length cap] 24)).alloc (opObj ⟨2, nm, ps, bs⟩)).alloc (.cells #[.slice none 0 0] 24)) := (below2 w _ _).alloc (by simp; omega) _
  have HB0 := Lib.hid hb0
  have hfind := find2_any l (.slice (some ⟨g, 0, none⟩) l.length cap) nm _ ((reads_of_owns HOWN.out.1).below hb0) hm
  rw [hi] at hfind
  have HF := Lib.hid hfind
  clear hb0 hfind hi
  go_enter Try.func47, Try.ntmps47
  go_wp2_with (go_at_call 66; refine (name2_any nm _ hn).mono ?_; rintro e w1 ⟨rfl, rfl⟩; rw [hnm])
  refine HF.out.mono ?_
  rintro e w5 ⟨rfl, hb5⟩
  obtain ⟨D5, O5, R5⟩ := start_keep (o := ⟨2, nm, ps, bs⟩) hb5
  have d5 := D5.c
  have o5 : w5.cell? ⟨w.heap.size + 1, 0, none⟩ = some (.int .i64 2) := by rw [cell_of_row _ _ _ _ 55 _ O5]; rfl
  have hb := below_then HB0.out hb5
  have HB := Lib.hid hb
  have HD5 := Lib.hid D5
  have HR5 := Lib.hid R5
  have HO5 := Lib.hid O5
  have l1 := D5.lt
  have l2 := (Array.getElem?_eq_some_iff.1 O5).1
  have e0 := below_cell hb c0
  have e1 := below_cell hb c1
  have e2 := below_cell hb c2
  have lg := lt_of_cell e0
  clear hb hb5 D5 R5 O5
  go_wp2_with fail
  refine (whole_any l[k].name l[k].safe l[k].opens _ _ (HOP.out.below HB.out) hol hs HBS.out).mono ?_
  rintro e w6 ⟨rfl, hb6⟩
  have N6 := Lib.hid (below_then HB.out hb6)
  have D6 := HD5.out.keep hb6
  have R6 := HR5.out.keep hb6
  have O6 : w6.heap[w.heap.size + 1]? = some (opObj ⟨2, nm, ps, bs⟩) := (hb6.block _ l2).trans HO5.out
  have d6 := D6.c
  have dl6 := D6.lt
  have o6 : w6.cell? ⟨w.heap.size + 1, 0, none⟩ = some (.int .i64 2) := by rw [cell_of_row _ _ _ _ 55 _ O6]; rfl
  have ol6 := (Array.getElem?_eq_some_iff.1 O6).1
  have x0 := below_cell N6.out c0
  have x1 := below_cell N6.out c1
  have x2 := below_cell N6.out c2
  have y1 := (N6.out.frozen (p := ⟨g, k * 3 + 1, none⟩) hg2).trans (fzz _)
  have y2 := (N6.out.frozen (p := ⟨g, k * 3 + 2, none⟩) hg2).trans (fzz _)
  have hgw : g ≠ w.heap.size := by omega
  have hS1 : ∀ (w' : World) (j : Nat) (x : Value), w'.cell? ⟨w.heap.size, 0, none⟩ = some (.slice (some ⟨g, 0, none⟩) l.length cap) → (w'.setCell ⟨g, j, none⟩ x).cell? ⟨w.heap.size, 0, none⟩ = some (.slice (some ⟨g, 0, none⟩) l.length cap) := fun w' j x h => (World.cell?_setCell_far _ _ _ _ hgw).trans h
  have m5 : w6.drew.cell? ⟨w.heap.size, 0, none⟩ = some (.slice (some ⟨g, 0, none⟩) l.length cap) := d6
  have m6 := fun x => hS1 w6.drew (k * 3 + 1) x m5
  have m7 := fun x y => hS1 _ (k * 3 + 2) y (m6 x)
  have HD6 := Lib.hid D6
  have HR6 := Lib.hid R6
  clear hS1 hb6 D6 R6 O6 HF e0 e1 e2 d5 o5
  go_wp2_with fail
  go_region_held3 (fun w' => w'.cell? ⟨w.heap.size, 0, none⟩ = some (.slice (some ⟨g, 0, none⟩) l.length cap)) (first | with_reducible exact m5 | with_reducible exact m6 _ | with_reducible exact m7 _ _ | go_keep) (fail)
  have hput := put_file (HOWN.out.below N6.out) rfl hk (layB l[k].safe l[k].opens)
  have hgr : w.grownBy ((w6.setCell ⟨g, k * 3 + 1, none⟩ (.string (layB l[k].safe l[k].opens))).setCell ⟨g, k * 3 + 2, none⟩ (.slice none 0 0)) (some g) := grown_set (grown_set (below_grownBy N6.out) (.inl rfl) _ _) (.inl rfl) _ _
  have hd7 := (HD6.out.far hgw (k * 3 + 1) (.string (layB l[k].safe l[k].opens))).far hgw (k * 3 + 2) (.slice none 0 0)
  have hr7 := (HR6.out.far (show g ≠ w.heap.size + 1 + 1 by omega) (k * 3 + 1) (.string (layB l[k].safe l[k].opens))).far (show g ≠ w.heap.size + 1 + 1 by omega) (k * 3 + 2) (.slice none 0 0)
  refine one_end (W := (w6.setCell ⟨g, k * 3 + 1, none⟩ (.string (layB l[k].safe l[k].opens))).setCell ⟨g, k * 3 + 2, none⟩ (.slice none 0 0)) hput hgr hd7 hr7 ?_
  clear hput hgr hd7 hr7 m5 m6 m7 HD6 HR6 N6 HOWN x0 x1 x2 y1 y2 d6 o6 HB HD5 HR5 HO5 HOP HBS HB0 fzz c0 c1 c2
  intro W7 hput hgr hd7 hr7
  have d7 := hd7.c
  have r7 := hr7.c
  have z7 := hr7.f
  have l7 := hd7.lt
  have l8 := hr7.lt
  have HP := Lib.hid hput
  have HG := Lib.hid hgr
  have HR := Lib.hid hr7
  clear hput hgr hd7 hr7
  go_wp2_with fail
  have hgf : w.grownBy (W7.setCell ⟨w.heap.size + 1 + 1, 0, none⟩ (.slice (some ⟨g, 0, none⟩) l.length cap)) (some g) := grown_set HG.out (.inr (by omega)) 0 _
  refine bodyPost_ret (v := .tuple #[.agg #[.slice (some ⟨g, 0, none⟩) l.length cap], .int .i64 0]) (by simp [results, Try.results47, go_sem, r7]) rfl
    ⟨_, _, rfl, ?_, (HP.out.set HR.out _).drew, fun h => absurd rfl h, grown_drew hgf⟩
  rw [List.map_set]
  rfl
end Go.Proofs.Ytkecjopojnllnaa
namespace Go.Proofs.Ytkecjopojnllnaa
open Go.RowKit Go.Deep Go.Joins
set_option maxRecDepth 100000 in
set_option maxHeartbeats 1000000 in
theorem one_cut (l : List Rw) (v : Value) (B k : Nat) (nm : ByteArray) (t : Nat) (bs : ByteArray) (w : World) (hown : OwnR w B v l) (hnm : nameB nm = true) (hn : nm.size ≤ 1099511627776) (hm : l.length ≤ 1099511627776) (hk : k < l.length)
    (hi : idx (sameName nm) l = (k : Int)) (hs : l[k].safe.size ≤ 1099511627776) (hol : l[k].opens.length ≤ 1099511627776) (hbs : ∀ x ∈ l[k].opens, x.bytes.size ≤ 1099510579200) (hps : t ≤ (layB l[k].safe l[k].opens).size) :
    Calls Try.prog 47 #[.agg #[v], .agg #[.int .i64 3, .string nm, .int .i64 (t : Int), .string bs]] w (One w B v ((l.map core).set k ⟨l[k].name, (layB l[k].safe l[k].opens).extract 0 t, []⟩) 0) := by
  have HOWN := Lib.hid hown
  have hop := reads_of_owns (hown.2 l[k] (List.getElem_mem _))
  obtain ⟨q, cap, rfl⟩ := owns_shape hown.1
  obtain ⟨g, hq, hg1, hg2, c0, c1, c2, fzz⟩ := owns_file hown.1 k hk (by omega)
  subst hq
  obtain ⟨p3, cap3, hov⟩ := hop.is
  rw [hov] at c2 hop
  have HOP := Lib.hid hop
  have HBS := Lib.hid hbs
  clear hown hop hov hbs
  have hb0 : Below w.heap.size w (((w.alloc (.cells #[.slice (some ⟨g, 0, none⟩) l.length cap] 24)).alloc (opObj ⟨3, nm, (t : Int), bs⟩)).alloc (.cells #[.slice none 0 0] 24)) := (below2 w _ _).alloc (by simp; omega) _
  have HB0 := Lib.hid hb0
  have hfind := find2_any l (.slice (some ⟨g, 0, none⟩) l.length cap) nm _ ((reads_of_owns HOWN.out.1).below hb0) hm
  rw [hi] at hfind
  have HF := Lib.hid hfind
  clear hb0 hfind hi
  go_enter Try.func47, Try.ntmps47
  go_wp2_with (go_at_call 66; refine (name2_any nm _ hn).mono ?_; rintro e w1 ⟨rfl, rfl⟩; rw [hnm])
  refine HF.out.mono ?_
  rintro e w5 ⟨rfl, hb5⟩
  have hps2 : (t : Int) ≤ ((layB l[k].safe l[k].opens).size : Int) := by omega
  obtain ⟨D5, O5, R5⟩ := start_keep (o := ⟨3, nm, (t : Int), bs⟩) hb5
  have d5 := D5.c
  have o5 : w5.cell? ⟨w.heap.size + 1, 0, none⟩ = some (.int .i64 3) := by rw [cell_of_row _ _ _ _ 55 _ O5]; rfl
  have hb := below_then HB0.out hb5
  have HB := Lib.hid hb
  have HD5 := Lib.hid D5
  have HR5 := Lib.hid R5
  have HO5 := Lib.hid O5
  have l1 := D5.lt
  have l2 := (Array.getElem?_eq_some_iff.1 O5).1
  have e0 := below_cell hb c0
  have e1 := below_cell hb c1
  have e2 := below_cell hb c2
  have lg := lt_of_cell e0
  clear hb hb5 D5 R5 O5
  go_wp2_with fail
  refine (whole_any l[k].name l[k].safe l[k].opens _ _ (HOP.out.below HB.out) hol hs HBS.out).mono ?_
  rintro e w6 ⟨rfl, hb6⟩
  have N6 := Lib.hid (below_then HB.out hb6)
  have D6 := HD5.out.keep hb6
  have R6 := HR5.out.keep hb6
  have O6 : w6.heap[w.heap.size + 1]? = some (opObj ⟨3, nm, (t : Int), bs⟩) := (hb6.block _ l2).trans HO5.out
  have d6 := D6.c
  have dl6 := D6.lt
  have o6 : w6.cell? ⟨w.heap.size + 1, 0, none⟩ = some (.int .i64 3) := by rw [cell_of_row _ _ _ _ 55 _ O6]; rfl
  have ol6 := (Array.getElem?_eq_some_iff.1 O6).1
  have p6 : w6.cell? ⟨w.heap.size + 1, 2, none⟩ = some (.int .i64 (t : Int)) := by rw [cell_of_row _ _ _ _ 55 _ O6]; rfl
  have x0 := below_cell N6.out c0
  have x1 := below_cell N6.out c1
  have x2 := below_cell N6.out c2
  have y1 := (N6.out.frozen (p := ⟨g, k * 3 + 1, none⟩) hg2).trans (fzz _)
  have y2 := (N6.out.frozen (p := ⟨g, k * 3 + 2, none⟩) hg2).trans (fzz _)
  have hgw : g ≠ w.heap.size := by omega
  have hS1 : ∀ (w' : World) (j : Nat) (x : Value), w'.cell? ⟨w.heap.size, 0, none⟩ = some (.slice (some ⟨g, 0, none⟩) l.length cap) ∧ w'.cell? ⟨w.heap.size + 1, 2, none⟩ = some (.int .i64 (t : Int)) → (w'.setCell ⟨g, j, none⟩ x).cell? ⟨w.heap.size, 0, none⟩ = some (.slice (some ⟨g, 0, none⟩) l.length cap) ∧ (w'.setCell ⟨g, j, none⟩ x).cell? ⟨w.heap.size + 1, 2, none⟩ = some (.int .i64 (t : Int)) := fun w' j x h => ⟨(World.cell?_setCell_far _ _ _ _ hgw).trans h.1, (World.cell?_setCell_far _ _ _ _ (show g ≠ w.heap.size + 1 by omega)).trans h.2⟩
  have HS1 := Lib.hid hS1
  have m5 : w6.drew.cell? ⟨w.heap.size, 0, none⟩ = some (.slice (some ⟨g, 0, none⟩) l.length cap) ∧ w6.drew.cell? ⟨w.heap.size + 1, 2, none⟩ = some (.int .i64 (t : Int)) := ⟨d6, p6⟩
  have m6 := fun x => hS1 w6.drew (k * 3 + 1) x m5
  have m7 := fun x y => hS1 _ (k * 3 + 2) y (m6 x)
  have HD6 := Lib.hid D6
  have HR6 := Lib.hid R6
  clear hS1 hb6 D6 R6 O6 HF e0 e1 e2 d5 o5
  go_wp2_with fail
  go_region_held3 (fun w' => w'.cell? ⟨w.heap.size, 0, none⟩ = some (.slice (some ⟨g, 0, none⟩) l.length cap) ∧ w'.cell? ⟨w.heap.size + 1, 2, none⟩ = some (.int .i64 (t : Int))) (first | with_reducible exact m5 | with_reducible exact m6 _ | with_reducible exact m7 _ _ | exact HS1.out w6 _ _ m5 | exact HS1.out _ _ _ (HS1.out w6 (k * 3 + 1) _ m5) | go_keep) (fail)
  have hput := put_file (HOWN.out.below N6.out) rfl hk ((layB l[k].safe l[k].opens).extract 0 t)
  have hgr : w.grownBy ((w6.setCell ⟨g, k * 3 + 1, none⟩ (.string ((layB l[k].safe l[k].opens).extract 0 t))).setCell ⟨g, k * 3 + 2, none⟩ (.slice none 0 0)) (some g) := grown_set (grown_set (below_grownBy N6.out) (.inl rfl) _ _) (.inl rfl) _ _
  have hd7 := (HD6.out.far hgw (k * 3 + 1) (.string ((layB l[k].safe l[k].opens).extract 0 t))).far hgw (k * 3 + 2) (.slice none 0 0)
  have hr7 := (HR6.out.far (show g ≠ w.heap.size + 1 + 1 by omega) (k * 3 + 1) (.string ((layB l[k].safe l[k].opens).extract 0 t))).far (show g ≠ w.heap.size + 1 + 1 by omega) (k * 3 + 2) (.slice none 0 0)
  refine one_end (W := (w6.setCell ⟨g, k * 3 + 1, none⟩ (.string ((layB l[k].safe l[k].opens).extract 0 t))).setCell ⟨g, k * 3 + 2, none⟩ (.slice none 0 0)) hput hgr hd7 hr7 ?_
  clear hput hgr hd7 hr7 m5 m6 m7 HD6 HR6 N6 HOWN x0 x1 x2 y1 y2 d6 o6 p6 HB HD5 HR5 HO5 HOP HBS HB0 fzz c0 c1 c2
  intro W7 hput hgr hd7 hr7
  have d7 := hd7.c
  have r7 := hr7.c
  have z7 := hr7.f
  have l7 := hd7.lt
  have l8 := hr7.lt
  have HP := Lib.hid hput
  have HG := Lib.hid hgr
  have HR := Lib.hid hr7
  clear hput hgr hd7 hr7
  go_wp2_with fail
  have hgf : w.grownBy (W7.setCell ⟨w.heap.size + 1 + 1, 0, none⟩ (.slice (some ⟨g, 0, none⟩) l.length cap)) (some g) := grown_set HG.out (.inr (by omega)) 0 _
  refine bodyPost_ret (v := .tuple #[.agg #[.slice (some ⟨g, 0, none⟩) l.length cap], .int .i64 0]) (by simp [results, Try.results47, go_sem, r7]) rfl
    ⟨_, _, rfl, ?_, (HP.out.set HR.out _).drew, fun h => absurd rfl h, grown_drew hgf⟩
  rw [List.map_set]
  rfl
set_option maxRecDepth 100000 in
set_option maxHeartbeats 1000000 in
theorem one_nocut (l : List Rw) (v : Value) (B k : Nat) (nm : ByteArray) (ps : Int) (bs : ByteArray) (w : World) (hown : OwnR w B v l) (hnm : nameB nm = true) (hn : nm.size ≤ 1099511627776) (hm : l.length ≤ 1099511627776) (hk : k < l.length)
    (hi : idx (sameName nm) l = (k : Int)) (hs : l[k].safe.size ≤ 1099511627776) (hol : l[k].opens.length ≤ 1099511627776) (hbs : ∀ x ∈ l[k].opens, x.bytes.size ≤ 1099510579200) (hps : ps < 0 ∨ ((layB l[k].safe l[k].opens).size : Int) < ps) :
    Calls Try.prog 47 #[.agg #[v], .agg #[.int .i64 3, .string nm, .int .i64 ps, .string bs]] w (One w B v (l.map core) 1) := by
  have HOWN := Lib.hid hown
  have hop := reads_of_owns (hown.2 l[k] (List.getElem_mem _))
  obtain ⟨q, cap, rfl⟩ := owns_shape hown.1
  obtain ⟨g, hq, hg1, hg2, c0, c1, c2, fzz⟩ := owns_file hown.1 k hk (by omega)
  subst hq
  obtain ⟨p3, cap3, hov⟩ := hop.is
  rw [hov] at c2 hop
  have HOP := Lib.hid hop
  have HBS := Lib.hid hbs
  clear hown hop hov hbs
  have hb0 : Below w.heap.size w (((w.alloc (.cells #[.slice (some ⟨g, 0, none⟩) l.length cap] 24)).alloc (opObj ⟨3, nm, ps, bs⟩)).alloc (.cells #[.slice none 0 0] 24)) := (below2 w _ _).alloc (by simp; omega) _
  have HB0 := Lib.hid hb0
  have hfind := find2_any l (.slice (some ⟨g, 0, none⟩) l.length cap) nm _ ((reads_of_owns HOWN.out.1).below hb0) hm
  rw [hi] at hfind
  have HF := Lib.hid hfind
  clear hb0 hfind hi
  go_enter Try.func47, Try.ntmps47
  go_wp2_with (go_at_call 66; refine (name2_any nm _ hn).mono ?_; rintro e w1 ⟨rfl, rfl⟩; rw [hnm])
  refine HF.out.mono ?_
  rintro e w5 ⟨rfl, hb5⟩
  obtain ⟨D5, O5, R5⟩ := start_keep (o := ⟨3, nm, ps, bs⟩) hb5
  have d5 := D5.c
  have o5 : w5.cell? ⟨w.heap.size + 1, 0, none⟩ = some (.int .i64 3) := by rw [cell_of_row _ _ _ _ 55 _ O5]; rfl
  have hb := below_then HB0.out hb5
  have HB := Lib.hid hb
  have HD5 := Lib.hid D5
  have HR5 := Lib.hid R5
  have HO5 := Lib.hid O5
  have l1 := D5.lt
  have l2 := (Array.getElem?_eq_some_iff.1 O5).1
  have e0 := below_cell hb c0
  have e1 := below_cell hb c1
  have e2 := below_cell hb c2
  have lg := lt_of_cell e0
  clear hb hb5 D5 R5 O5
  go_wp2_with fail
  refine (whole_any l[k].name l[k].safe l[k].opens _ _ (HOP.out.below HB.out) hol hs HBS.out).mono ?_
  rintro e w6 ⟨rfl, hb6⟩
  have N6 := Lib.hid (below_then HB.out hb6)
  have D6 := HD5.out.keep hb6
  have R6 := HR5.out.keep hb6
  have O6 : w6.heap[w.heap.size + 1]? = some (opObj ⟨3, nm, ps, bs⟩) := (hb6.block _ l2).trans HO5.out
  have d6 := D6.c
  have dl6 := D6.lt
  have o6 : w6.cell? ⟨w.heap.size + 1, 0, none⟩ = some (.int .i64 3) := by rw [cell_of_row _ _ _ _ 55 _ O6]; rfl
  have ol6 := (Array.getElem?_eq_some_iff.1 O6).1
  have p6 : w6.cell? ⟨w.heap.size + 1, 2, none⟩ = some (.int .i64 ps) := by rw [cell_of_row _ _ _ _ 55 _ O6]; rfl
  have r6 := R6.c
  have z6 := R6.f
  have rl6 := R6.lt
  clear hb6 D6 R6 O6 HF e0 e1 e2 d5 o5
  by_cases hneg : ps < 0
  · go_wp2_with fail
    refine bodyPost_ret (v := .tuple #[.agg #[.slice (some ⟨g, 0, none⟩) l.length cap], .int .i64 1]) (by simp [results, Try.results47, go_sem, r6]) rfl (one_same HOWN.out ?_)
    exact N6.out.setCell (by simp; omega) _
  · have hgt : ((layB l[k].safe l[k].opens).size : Int) < ps := hps.resolve_left hneg
    go_wp2_with fail
    refine bodyPost_ret (v := .tuple #[.agg #[.slice (some ⟨g, 0, none⟩) l.length cap], .int .i64 1]) (by simp [results, Try.results47, go_sem, r6]) rfl (one_same HOWN.out ?_)
    exact N6.out.setCell (by simp; omega) _
end Go.Proofs.Ytkecjopojnllnaa
namespace Go.Proofs.Ytkecjopojnllnaa
open Go.RowKit Go.Deep Go.Joins
set_option maxRecDepth 100000 in
set_option maxHeartbeats 1000000 in
theorem one_drop (l : List Rw) (v : Value) (B k : Nat) (nm : ByteArray) (ps : Int) (bs : ByteArray) (w : World) (hown : OwnR w B v l) (hnm : nameB nm = true) (hn : nm.size ≤ 1099511627776) (hm : l.length ≤ 1099511627776) (hk : k < l.length)
    (hi : idx (sameName nm) l = (k : Int)) (hs : l[k].safe.size ≤ 1099511627776) (hol : l[k].opens.length ≤ 1099511627776) (hbs : ∀ x ∈ l[k].opens, x.bytes.size ≤ 1099510579200) :
    Calls Try.prog 47 #[.agg #[v], .agg #[.int .i64 4, .string nm, .int .i64 ps, .string bs]] w (One w B v ((l.map core).eraseIdx k) 0) := by
  have HOWN := Lib.hid hown
  have HONE := Lib.hid (rows_one hown)
  have hop := reads_of_owns (hown.2 l[k] (List.getElem_mem _))
  obtain ⟨q, cap, rfl⟩ := owns_shape hown.1
  obtain ⟨g, hq, hg1, hg2, c0, c1, c2, fzz⟩ := owns_file hown.1 k hk (by omega)
  subst hq
  obtain ⟨p3, cap3, hov⟩ := hop.is
  rw [hov] at c2 hop
  have HOP := Lib.hid hop
  have HBS := Lib.hid hbs
  have hlc : l.length ≤ cap ∧ cap ≤ maxLen := by
    rcases hown.1.2 with ⟨h1, _⟩ | ⟨g', cap', cur, h1, _, _, h3, h4, _⟩
    · cases h1
    · simp only [Value.slice.injEq, true_and] at h1
      obtain ⟨_, rfl⟩ := h1
      exact ⟨h3, h4⟩
  have hcm : cap ≤ 9223372036854775807 := by have := hlc.2; unfold maxLen at this; omega
  have hlc := hlc.1
  obtain ⟨i0, hi0, hz0, hz1, hz2⟩ := info_parts (show (Try.prog.info? 58).map (fun i => (i.zero, i.size, i.bytes)) = some (some (.agg #[.string .empty, .string .empty, .slice none 0 0]), 3, 56) by kernel_rfl)
  clear hown hop hov hbs
  have hb0 : Below w.heap.size w (((w.alloc (.cells #[.slice (some ⟨g, 0, none⟩) l.length cap] 24)).alloc (opObj ⟨4, nm, ps, bs⟩)).alloc (.cells #[.slice none 0 0] 24)) := (below2 w _ _).alloc (by simp; omega) _
  have HB0 := Lib.hid hb0
  have hfind := find2_any l (.slice (some ⟨g, 0, none⟩) l.length cap) nm _ ((reads_of_owns HOWN.out.1).below hb0) hm
  rw [hi] at hfind
  have HF := Lib.hid hfind
  clear hb0 hfind hi
  go_enter Try.func47, Try.ntmps47
  go_wp2_with (go_at_call 66; refine (name2_any nm _ hn).mono ?_; rintro e w1 ⟨rfl, rfl⟩; rw [hnm])
  refine HF.out.mono ?_
  rintro e w5 ⟨rfl, hb5⟩
  obtain ⟨D5, O5, R5⟩ := start_keep (o := ⟨4, nm, ps, bs⟩) hb5
  have d5 := D5.c
  have o5 : w5.cell? ⟨w.heap.size + 1, 0, none⟩ = some (.int .i64 4) := by rw [cell_of_row _ _ _ _ 55 _ O5]; rfl
  have hb := below_then HB0.out hb5
  have HB := Lib.hid hb
  have HD5 := Lib.hid D5
  have HR5 := Lib.hid R5
  have HO5 := Lib.hid O5
  have l1 := D5.lt
  have l2 := (Array.getElem?_eq_some_iff.1 O5).1
  have e0 := below_cell hb c0
  have e1 := below_cell hb c1
  have e2 := below_cell hb c2
  have lg := lt_of_cell e0
  clear hb hb5 D5 R5 O5
  go_wp2_with fail
  refine (whole_any l[k].name l[k].safe l[k].opens _ _ (HOP.out.below HB.out) hol hs HBS.out).mono ?_
  rintro e w6 ⟨rfl, hb6⟩
  have N6 := Lib.hid (below_then HB.out hb6)
  have D6 := HD5.out.keep hb6
  have R6 := HR5.out.keep hb6
  have O6 : w6.heap[w.heap.size + 1]? = some (opObj ⟨4, nm, ps, bs⟩) := (hb6.block _ l2).trans HO5.out
  have d6 := D6.c
  have dl6 := D6.lt
  have o6 : w6.cell? ⟨w.heap.size + 1, 0, none⟩ = some (.int .i64 4) := by rw [cell_of_row _ _ _ _ 55 _ O6]; rfl
  have ol6 := (Array.getElem?_eq_some_iff.1 O6).1
  have HD6 := Lib.hid D6
  have HR6 := Lib.hid R6
  have hrl := R6.lt
  obtain ⟨hr1, _⟩ := reads_part (HOWN.out.below N6.out).1 rfl k (by omega)
  obtain ⟨_, hr2⟩ := reads_part (HOWN.out.below N6.out).1 rfl (k + 1) (by omega)
  have HR1 : Hid (∀ W, Below w6.heap.size w6 W → _) := Lib.hid fun W hW => hr1.below hW
  have HR2 : Hid (∀ W, Below w6.heap.size w6 W → _) := Lib.hid fun W hW => hr2.below hW
  have HONEA := Lib.hid (rows_one_part HONE.out fun r hr => List.mem_of_mem_take (i := k) hr)
  have HONEB := Lib.hid (rows_one_part HONE.out fun r hr => List.mem_of_mem_drop (i := k + 1) hr)
  clear hb6 D6 R6 O6 HF e0 e1 e2 d5 o5 hr1 hr2 c0 c1 c2 fzz
  go_wp2_with fail
  have hw1 : IntKind.i64.wrap ((k : Int) + 1) = (k : Int) + 1 := IntWalk.i64_in _ (by omega)
  have i1 : (0 : Int) ≤ (k : Int) := by omega
  have i2 : (k : Int) ≤ (cap : Int) := by omega
  have i3 : (0 : Int) ≤ (k : Int) + 1 := by omega
  have i4 : (k : Int) + 1 ≤ (l.length : Int) := by omega
  have i5 : (l.length : Int) ≤ (cap : Int) := by omega
  by_cases hkc : k + 1 = cap
  · obtain rfl : cap = k + 1 := hkc.symm
    have i6 : (k : Int) ≤ (k : Int) + 1 := by omega
    go_region_law
      (first
        | (refine step_append_first rfl _ _ 22 rfl w6.heap.size 58 i0 (.agg #[.string .empty, .string .empty, .slice none 0 0]) 3 56 Try.underlying22 hi0 hz0 hz1 hz2 rfl (by decide) _ rfl ?own _ k (rowCells (l.take k)) rfl ?rd HONEA.out ?m1 ?m2 ?m3 ?_; (case own => (show EmpF _ _ _; (repeat (first | with_reducible exact empF_new | with_reducible refine empF_drew ?_ | with_reducible refine empF_old ?_ _)))); (case rd => exact HR1.out _ (by (repeat (first | with_reducible exact N8 | with_reducible exact N7 | with_reducible exact nb_refl _ | with_reducible refine nb_drew ?_ | with_reducible refine nb_alloc ?_ _)))); (case m1 => unfold maxLen; omega); (case m2 => omega); (case m3 => exact Below.size (by (repeat (first | with_reducible exact N8 | with_reducible exact N7 | with_reducible exact nb_refl _ | with_reducible refine nb_drew ?_ | with_reducible refine nb_alloc ?_ _)))); intro p4 c4 w7 hO7 hg7; have N7 : Below w6.heap.size w6 w7 := below_grown (by (repeat (first | with_reducible exact N8 | with_reducible exact N7 | with_reducible exact nb_refl _ | with_reducible refine nb_drew ?_ | with_reducible refine nb_alloc ?_ _))) (show EmpF _ _ _ by (repeat (first | with_reducible exact empF_new | with_reducible refine empF_drew ?_ | with_reducible refine empF_old ?_ _))) hg7; have d7 := below_cell N7 d6)
        | (refine step_append_reads rfl _ _ 22 rfl w6.heap.size 58 i0 (.agg #[.string .empty, .string .empty, .slice none 0 0]) 3 56 Try.underlying22 hi0 hz0 hz1 hz2 rfl (by decide) _ k (rowCells (l.take k)) rfl ?own _ (l.length - (k + 1)) (rowCells (l.drop (k + 1))) rfl ?rd HONEB.out ?m1 ?m2 ?m3 ?_; (case own => exact hO7.out); (case rd => (have hz : l.length - (k + 1) = 0 := by omega); (have hdz : rowCells (l.drop (k + 1)) = [] := List.eq_nil_of_length_eq_zero (by rw [rowCells_length, List.length_drop, hz])); rw [hdz]; (try rw [hz]); exact ⟨rfl, .inr ⟨_, _, rfl, Nat.zero_le _, by unfold maxLen; omega, fun j u hu => by simp at hu⟩⟩); (case m1 => unfold maxLen; omega); (case m2 => omega); (case m3 => exact Below.size (by (repeat (first | with_reducible exact N8 | with_reducible exact N7 | with_reducible exact nb_refl _ | with_reducible refine nb_drew ?_ | with_reducible refine nb_alloc ?_ _)))); intro p5 c5 w8 hO8 hg8; have N8 : Below w6.heap.size w6 w8 := below_grown (by (repeat (first | with_reducible exact N8 | with_reducible exact N7 | with_reducible exact nb_refl _ | with_reducible refine nb_drew ?_ | with_reducible refine nb_alloc ?_ _))) hO7.out hg8; have d8 := below_cell N8 d6; have D8 := HD6.out.keep N8; have z8 := D8.f; have l8 := D8.lt)
        | fail)
    all_goals
      clear hg7 hg8
      have hfin : w8.ownsRow w6.heap.size 58 3 (.slice p5 k c5) (l.eraseIdx k).length (rowCells (l.eraseIdx k)) := by
        have h0 := hO8.out
        rw [rowCells_split, show k + (l.length - (k + 1)) = k by omega] at h0
        rw [List.length_eraseIdx, if_pos hk, show l.length - 1 = k by omega]
        exact h0
      have hB : B ≤ w6.heap.size := by have := N6.out.size; omega
      have hbz := below_then N6.out N8
      have h1 : OwnR (w8.setCell ⟨w.heap.size, 0, none⟩ (.slice p5 k c5)) B (.slice p5 k c5) (l.eraseIdx k) :=
        OwnR.set ⟨owns_mono hfin hB, fun r hr => owns_below (HOWN.out.2 r (List.mem_of_mem_eraseIdx hr)) hbz⟩ D8 _
      have h2 : w.grownBy (w8.setCell ⟨w.heap.size, 0, none⟩ (.slice p5 k c5)) (some g) := below_grownBy (hbz.setCell (Nat.le_refl _) _)
      have h3 := D8.same (.slice p5 k c5)
      have h4 := (HR6.out.keep N8).other (show w.heap.size ≠ w.heap.size + 1 + 1 by omega) (.slice p5 k c5)
      refine one_end2 (row := some g) h1 h2 h3 h4 ?_
      clear h1 h2 h3 h4 hfin hbz hO8 hO7 N8 N7 D8 d8 d7 z8 l8 d6 o6 HR1 HR2 HD6 HR6 N6
      intro W7 hput hgr hd7 hr7
      have d7 := hd7.c
      have r7 := hr7.c
      have z7 := hr7.f
      have l7 := hd7.lt
      have l8 := hr7.lt
      have HP := Lib.hid hput
      have HG := Lib.hid hgr
      have HR := Lib.hid hr7
      clear hput hgr hd7 hr7
      go_wp2_with fail
      have hgf : w.grownBy (W7.setCell ⟨w.heap.size + 1 + 1, 0, none⟩ (.slice p5 k c5)) (some g) := grown_set HG.out (.inr (by omega)) 0 _
      refine bodyPost_ret (v := .tuple #[.agg #[.slice p5 k c5], .int .i64 0]) (by simp [results, Try.results47, go_sem, r7]) rfl
        ⟨_, _, rfl, ?_, HP.out.set HR.out _, fun h => absurd rfl h, hgf⟩
      exact map_erase _ _ _
  · have hkd : ¬ cap = k + 1 := by omega
    go_region_law
      (first
        | (refine step_append_first rfl _ _ 22 rfl w6.heap.size 58 i0 (.agg #[.string .empty, .string .empty, .slice none 0 0]) 3 56 Try.underlying22 hi0 hz0 hz1 hz2 rfl (by decide) _ rfl ?own _ k (rowCells (l.take k)) rfl ?rd HONEA.out ?m1 ?m2 ?m3 ?_; (case own => (show EmpF _ _ _; (repeat (first | with_reducible exact empF_new | with_reducible refine empF_drew ?_ | with_reducible refine empF_old ?_ _)))); (case rd => exact HR1.out _ (by (repeat (first | with_reducible exact N8 | with_reducible exact N7 | with_reducible exact nb_refl _ | with_reducible refine nb_drew ?_ | with_reducible refine nb_alloc ?_ _)))); (case m1 => unfold maxLen; omega); (case m2 => omega); (case m3 => exact Below.size (by (repeat (first | with_reducible exact N8 | with_reducible exact N7 | with_reducible exact nb_refl _ | with_reducible refine nb_drew ?_ | with_reducible refine nb_alloc ?_ _)))); intro p4 c4 w7 hO7 hg7; have N7 : Below w6.heap.size w6 w7 := below_grown (by (repeat (first | with_reducible exact N8 | with_reducible exact N7 | with_reducible exact nb_refl _ | with_reducible refine nb_drew ?_ | with_reducible refine nb_alloc ?_ _))) (show EmpF _ _ _ by (repeat (first | with_reducible exact empF_new | with_reducible refine empF_drew ?_ | with_reducible refine empF_old ?_ _))) hg7; have d7 := below_cell N7 d6)
        | (refine step_append_reads rfl _ _ 22 rfl w6.heap.size 58 i0 (.agg #[.string .empty, .string .empty, .slice none 0 0]) 3 56 Try.underlying22 hi0 hz0 hz1 hz2 rfl (by decide) _ k (rowCells (l.take k)) rfl ?own _ (l.length - (k + 1)) (rowCells (l.drop (k + 1))) rfl ?rd HONEB.out ?m1 ?m2 ?m3 ?_; (case own => exact hO7.out); (case rd => first | exact HR2.out _ (by (repeat (first | with_reducible exact N8 | with_reducible exact N7 | with_reducible exact nb_refl _ | with_reducible refine nb_drew ?_ | with_reducible refine nb_alloc ?_ _))) | (dsimp [Act.eval]; trace_state; fail)); (case m1 => unfold maxLen; omega); (case m2 => omega); (case m3 => exact Below.size (by (repeat (first | with_reducible exact N8 | with_reducible exact N7 | with_reducible exact nb_refl _ | with_reducible refine nb_drew ?_ | with_reducible refine nb_alloc ?_ _)))); intro p5 c5 w8 hO8 hg8; have N8 : Below w6.heap.size w6 w8 := below_grown (by (repeat (first | with_reducible exact N8 | with_reducible exact N7 | with_reducible exact nb_refl _ | with_reducible refine nb_drew ?_ | with_reducible refine nb_alloc ?_ _))) hO7.out hg8; have d8 := below_cell N8 d6; have D8 := HD6.out.keep N8; have z8 := D8.f; have l8 := D8.lt)
        | fail)
    all_goals
      clear hg7 hg8
      have hfin : w8.ownsRow w6.heap.size 58 3 (.slice p5 (k + (l.length - (k + 1))) c5) (l.eraseIdx k).length (rowCells (l.eraseIdx k)) := by
        have h0 := hO8.out
        rw [rowCells_split, show k + (l.length - (k + 1)) = (k + (l.length - (k + 1))) by omega] at h0
        rw [List.length_eraseIdx, if_pos hk, show l.length - 1 = (k + (l.length - (k + 1))) by omega]
        exact h0
      have hB : B ≤ w6.heap.size := by have := N6.out.size; omega
      have hbz := below_then N6.out N8
      have h1 : OwnR (w8.setCell ⟨w.heap.size, 0, none⟩ (.slice p5 (k + (l.length - (k + 1))) c5)) B (.slice p5 (k + (l.length - (k + 1))) c5) (l.eraseIdx k) :=
        OwnR.set ⟨owns_mono hfin hB, fun r hr => owns_below (HOWN.out.2 r (List.mem_of_mem_eraseIdx hr)) hbz⟩ D8 _
      have h2 : w.grownBy (w8.setCell ⟨w.heap.size, 0, none⟩ (.slice p5 (k + (l.length - (k + 1))) c5)) (some g) := below_grownBy (hbz.setCell (Nat.le_refl _) _)
      have h3 := D8.same (.slice p5 (k + (l.length - (k + 1))) c5)
      have h4 := (HR6.out.keep N8).other (show w.heap.size ≠ w.heap.size + 1 + 1 by omega) (.slice p5 (k + (l.length - (k + 1))) c5)
      refine one_end2 (row := some g) h1 h2 h3 h4 ?_
      clear h1 h2 h3 h4 hfin hbz hO8 hO7 N8 N7 D8 d8 d7 z8 l8 d6 o6 HR1 HR2 HD6 HR6 N6
      intro W7 hput hgr hd7 hr7
      have d7 := hd7.c
      have r7 := hr7.c
      have z7 := hr7.f
      have l7 := hd7.lt
      have l8 := hr7.lt
      have HP := Lib.hid hput
      have HG := Lib.hid hgr
      have HR := Lib.hid hr7
      clear hput hgr hd7 hr7
      go_wp2_with fail
      have hgf : w.grownBy (W7.setCell ⟨w.heap.size + 1 + 1, 0, none⟩ (.slice p5 (k + (l.length - (k + 1))) c5)) (some g) := grown_set HG.out (.inr (by omega)) 0 _
      refine bodyPost_ret (v := .tuple #[.agg #[.slice p5 (k + (l.length - (k + 1))) c5], .int .i64 0]) (by simp [results, Try.results47, go_sem, r7]) rfl
        ⟨_, _, rfl, ?_, HP.out.set HR.out _, fun h => absurd rfl h, hgf⟩
      exact map_erase _ _ _
end Go.Proofs.Ytkecjopojnllnaa
namespace Go.Proofs.Ytkecjopojnllnaa
open Go.RowKit Go.Deep Go.Joins
structure FitsS (fs : List Fl) : Prop where
  safe : ∀ f ∈ fs, f.safe.size ≤ 2097152
  bytes : ∀ f ∈ fs, ∀ x ∈ f.opens, x.bytes.size ≤ 1048576
theorem sizeUp_small (n : Nat) (l : List Wr) (hs : n ≤ 2097152) (hb : ∀ x ∈ l, x.bytes.size ≤ 1048576) : sizeUp n l ≤ 2097152 := by
  induction l generalizing n with
  | nil => exact hs
  | cons x l ih =>
    refine ih _ ?_ fun y hy => hb y (List.mem_cons_of_mem _ hy)
    have h1 := hb x (by simp)
    unfold grow
    split
    · rename_i hw
      have := wk_pos hw
      split <;> omega
    · exact hs
theorem layB_small (s : ByteArray) (l : List Wr) (hs : s.size ≤ 2097152) (hb : ∀ x ∈ l, x.bytes.size ≤ 1048576) : (layB s l).size ≤ 2097152 := by
  unfold layB
  split
  · exact hs
  · have h1 : (overAll (spliceB (List.replicate (sizeUp s.size l) 0) 0 s) l).length = sizeUp s.size l := by
      have h0 : (spliceB (List.replicate (sizeUp s.size l) 0) 0 s).length = sizeUp s.size l := by
        unfold spliceB
        rw [length_splice _ _ _ (by rw [len_eq]; simpa using sizeUp_ge _ _)]
        simp
      have : ∀ (m : List Wr) (L : List UInt8), (∀ x ∈ m, wk x = true → x.pos.toNat + x.bytes.size ≤ L.length) → (overAll L m).length = L.length := by
        intro m
        induction m with
        | nil => intro L _; rfl
        | cons x m ih =>
          intro L h
          have hx := length_over L x (h x (by simp))
          show (overAll (over L x) m).length = _
          rw [ih (over L x) (fun y hy hw => by rw [hx]; exact h y (by simp [hy]) hw), hx]
      rw [this l _ (fun x hx hw => by rw [h0]; exact sizeUp_has _ _ _ hx hw), h0]
    have h2 : (ByteArray.mk (overAll (spliceB (List.replicate (sizeUp s.size l) 0) 0 s) l).toArray).size = sizeUp s.size l := by
      refine Eq.trans ?_ h1
      show (overAll _ l).toArray.size = _
      rw [List.size_toArray]
    rw [h2]
    exact sizeUp_small _ _ hs hb
theorem mem_modify {fs : List Fl} {k : Nat} {g : Fl → Fl} {f : Fl} (hf : f ∈ fs.modify k g) : f ∈ fs ∨ ∃ f0 ∈ fs, f = g f0 := by
  obtain ⟨i, hi⟩ := List.mem_iff_getElem?.1 hf
  rw [List.getElem?_modify] at hi
  cases hx : fs[i]? with
  | none => rw [hx] at hi; cases hi
  | some y =>
    rw [hx] at hi
    have hy := List.mem_of_getElem? hx
    by_cases e : k = i
    · simp [e] at hi; exact .inr ⟨y, hy, hi.symm⟩
    · simp [e] at hi; exact .inl (hi ▸ hy)
theorem FitsS.modify {fs : List Fl} (h : FitsS fs) (k : Nat) (g : Fl → Fl) (h1 : ∀ f ∈ fs, (g f).safe.size ≤ 2097152) (h2 : ∀ f ∈ fs, ∀ x ∈ (g f).opens, x.bytes.size ≤ 1048576) : FitsS (fs.modify k g) := by
  refine ⟨fun f hf => ?_, fun f hf => ?_⟩
  all_goals rcases mem_modify hf with h0 | ⟨f0, h0, rfl⟩
  · exact h.safe f h0
  · exact h1 f0 h0
  · exact h.bytes f h0
  · exact h2 f0 h0
theorem FitsS.sub {fs gs : List Fl} (h : FitsS fs) (hs : ∀ f ∈ gs, f ∈ fs) : FitsS gs := ⟨fun f hf => h.safe f (hs f hf), fun f hf => h.bytes f (hs f hf)⟩
theorem changeF_small {fs : List Fl} (h : FitsS fs) (o : DOp) : FitsS (changeF fs o).1 := by
  have happ : ∀ {gs : List Fl}, FitsS gs → ∀ k, (o.bytes.size : Int) ≤ 1048576 → FitsS (gs.modify k (fun f => ⟨f.name, f.safe, f.opens ++ [⟨o.pos, o.bytes⟩]⟩)) := fun {gs} hg k hb =>
    hg.modify k _ (fun f hf => hg.safe f hf) (fun f hf x hx => by
      rcases List.mem_append.1 hx with hx | hx
      · exact hg.bytes f hf x hx
      · rw [List.mem_singleton] at hx; subst hx; show o.bytes.size ≤ _; omega)
  unfold changeF
  split
  · exact h
  split
  · unfold putF
    split
    · exact h
    split
    · exact h
    · rename_i hp hlong
      have hb : (o.bytes.size : Int) ≤ 1048576 := by omega
      split
      · split
        · exact h
        · have hmem : ∀ f ∈ insertAt fs (placeF o.name fs) (newFile o.name), f ∈ fs ∨ f = newFile o.name := fun f hf => by
            unfold insertAt at hf
            rcases List.mem_append.1 hf with hf | hf
            · exact .inl (List.mem_of_mem_take hf)
            · rcases List.mem_cons.1 hf with rfl | hf
              · exact .inr rfl
              · exact .inl (List.mem_of_mem_drop hf)
          refine happ (gs := insertAt fs (placeF o.name fs) (newFile o.name)) ⟨fun f hf => ?_, fun f hf => ?_⟩ _ hb
          · rcases hmem f hf with h0 | rfl
            · exact h.safe f h0
            · exact Nat.zero_le _
          · rcases hmem f hf with h0 | rfl
            · exact h.bytes f h0
            · intro x hx; cases hx
      · exact happ h _ hb
  split
  · exact h
  split
  · exact h.modify _ _ (fun f hf => layB_small _ _ (h.safe f hf) (h.bytes f hf)) (fun f _ x hx => by cases hx)
  split
  · split
    · exact h
    · rename_i f hf
      have hfm := List.mem_of_getElem? hf
      split
      · exact h
      · refine ⟨fun g hg => ?_, fun g hg => ?_⟩
        all_goals rcases List.mem_or_eq_of_mem_set hg with hg | rfl
        · exact h.safe g hg
        · show ((allF f).extract 0 o.pos.toNat).size ≤ _
          rw [ByteArray.size_extract]
          have := layB_small _ _ (h.safe f hfm) (h.bytes f hfm)
          unfold allF
          omega
        · exact h.bytes g hg
        · intro x hx; cases hx
  · exact h.sub fun f hf => List.mem_of_mem_eraseIdx hf
end Go.Proofs.Ytkecjopojnllnaa
namespace Go.Proofs.Ytkecjopojnllnaa
open Go.RowKit Go.Deep Go.Joins
set_option maxRecDepth 100000 in
set_option maxHeartbeats 1000000 in
theorem one_putbad (l : List Rw) (v : Value) (B : Nat) (nm : ByteArray) (ps : Int) (bs : ByteArray) (w : World) (hown : OwnR w B v l) (hnm : nameB nm = true) (hn : nm.size ≤ 1099511627776) (hm : l.length ≤ 1099511627776) (k : Int) (hi : idx (sameName nm) l = k) (er : Int) (hbad : (ps < 0 ∧ er = 1) ∨ (0 ≤ ps ∧ 1048576 < ps ∧ er = 2) ∨ (0 ≤ ps ∧ ps ≤ 1048576 ∧ 1048576 - ps < (bs.size : Int) ∧ er = 2)) :
    Calls Try.prog 47 #[.agg #[v], .agg #[.int .i64 1, .string nm, .int .i64 ps, .string bs]] w (One w B v (l.map core) er) := by
  have HOWN := Lib.hid hown
  obtain ⟨q, cap, rfl⟩ := owns_shape hown.1
  clear hown
  have hb0 : Below w.heap.size w (((w.alloc (.cells #[.slice q l.length cap] 24)).alloc (opObj ⟨1, nm, ps, bs⟩)).alloc (.cells #[.slice none 0 0] 24)) := (below2 w _ _).alloc (by simp; omega) _
  have HB0 := Lib.hid hb0
  have hfind := find2_any l (.slice q l.length cap) nm _ ((reads_of_owns HOWN.out.1).below hb0) hm
  have HF := Lib.hid hfind
  have HI := Lib.hid hi
  clear hb0 hfind hi
  go_enter Try.func47, Try.ntmps47
  go_wp2_with (go_at_call 66; refine (name2_any nm _ hn).mono ?_; rintro e w1 ⟨rfl, rfl⟩; rw [hnm])
  refine HF.out.mono ?_
  rw [HI.out]
  rintro e w5 ⟨rfl, hb5⟩
  obtain ⟨D5, O5, R5⟩ := start_keep (o := ⟨1, nm, ps, bs⟩) hb5
  have d5 := D5.c
  have l1 := D5.lt
  have r5 := R5.c
  have z5 := R5.f
  have l3 := R5.lt
  have o5 : w5.cell? ⟨w.heap.size + 1, 0, none⟩ = some (.int .i64 1) := by rw [cell_of_row _ _ _ _ 55 _ O5]; rfl
  have p5 : w5.cell? ⟨w.heap.size + 1, 2, none⟩ = some (.int .i64 ps) := by rw [cell_of_row _ _ _ _ 55 _ O5]; rfl
  have b5 : w5.cell? ⟨w.heap.size + 1, 3, none⟩ = some (.string bs) := by rw [cell_of_row _ _ _ _ 55 _ O5]; rfl
  have l2 := (Array.getElem?_eq_some_iff.1 O5).1
  have HB := Lib.hid (below_then HB0.out hb5)
  have HD5 := Lib.hid D5
  have HR5 := Lib.hid R5
  have HO5 := Lib.hid O5
  clear hb5 D5 R5 O5
  rcases hbad with ⟨h1, rfl⟩ | ⟨h0, h1, rfl⟩ | ⟨h0, h1, h2, rfl⟩
  · go_wp2_with fail
    refine bodyPost_ret (v := .tuple #[.agg #[.slice q l.length cap], .int .i64 1]) (by simp [results, Try.results47, go_sem, r5]) rfl (one_same HOWN.out ?_)
    exact HB.out.setCell (by simp; omega) _
  · go_wp2_with fail
    refine bodyPost_ret (v := .tuple #[.agg #[.slice q l.length cap], .int .i64 2]) (by simp [results, Try.results47, go_sem, r5]) rfl (one_same HOWN.out ?_)
    exact HB.out.setCell (by simp; omega) _
  · go_wp2_with fail
    refine bodyPost_ret (v := .tuple #[.agg #[.slice q l.length cap], .int .i64 2]) (by simp [results, Try.results47, go_sem, r5]) rfl (one_same HOWN.out ?_)
    exact HB.out.setCell (by simp; omega) _
set_option maxRecDepth 100000 in
set_option maxHeartbeats 1000000 in
theorem one_putfull (l : List Rw) (v : Value) (B : Nat) (nm : ByteArray) (ps : Int) (bs : ByteArray) (w : World) (hown : OwnR w B v l) (hnm : nameB nm = true) (hn : nm.size ≤ 1099511627776) (hm : l.length ≤ 1099511627776) (hi : idx (sameName nm) l = -1) (h0 : 0 ≤ ps) (h1 : ps ≤ 1048576) (h2 : (bs.size : Int) ≤ 1048576 - ps) (hlen : 32 ≤ l.length) :
    Calls Try.prog 47 #[.agg #[v], .agg #[.int .i64 1, .string nm, .int .i64 ps, .string bs]] w (One w B v (l.map core) 4) := by
  have hlen2 : (32 : Int) ≤ (l.length : Int) := by omega
  have HOWN := Lib.hid hown
  obtain ⟨q, cap, rfl⟩ := owns_shape hown.1
  clear hown
  have hb0 : Below w.heap.size w (((w.alloc (.cells #[.slice q l.length cap] 24)).alloc (opObj ⟨1, nm, ps, bs⟩)).alloc (.cells #[.slice none 0 0] 24)) := (below2 w _ _).alloc (by simp; omega) _
  have HB0 := Lib.hid hb0
  have hfind := find2_any l (.slice q l.length cap) nm _ ((reads_of_owns HOWN.out.1).below hb0) hm
  have HF := Lib.hid hfind
  have HI := Lib.hid hi
  clear hb0 hfind hi
  go_enter Try.func47, Try.ntmps47
  go_wp2_with (go_at_call 66; refine (name2_any nm _ hn).mono ?_; rintro e w1 ⟨rfl, rfl⟩; rw [hnm])
  refine HF.out.mono ?_
  rw [HI.out]
  rintro e w5 ⟨rfl, hb5⟩
  obtain ⟨D5, O5, R5⟩ := start_keep (o := ⟨1, nm, ps, bs⟩) hb5
  have d5 := D5.c
  have l1 := D5.lt
  have r5 := R5.c
  have z5 := R5.f
  have l3 := R5.lt
  have o5 : w5.cell? ⟨w.heap.size + 1, 0, none⟩ = some (.int .i64 1) := by rw [cell_of_row _ _ _ _ 55 _ O5]; rfl
  have p5 : w5.cell? ⟨w.heap.size + 1, 2, none⟩ = some (.int .i64 ps) := by rw [cell_of_row _ _ _ _ 55 _ O5]; rfl
  have b5 : w5.cell? ⟨w.heap.size + 1, 3, none⟩ = some (.string bs) := by rw [cell_of_row _ _ _ _ 55 _ O5]; rfl
  have l2 := (Array.getElem?_eq_some_iff.1 O5).1
  have HB := Lib.hid (below_then HB0.out hb5)
  have HD5 := Lib.hid D5
  have HR5 := Lib.hid R5
  have HO5 := Lib.hid O5
  clear hb5 D5 R5 O5
  go_wp2_with fail
  refine bodyPost_ret (v := .tuple #[.agg #[.slice q l.length cap], .int .i64 4]) (by simp [results, Try.results47, go_sem, r5]) rfl (one_same HOWN.out ?_)
  exact HB.out.setCell (by simp; omega) _
end Go.Proofs.Ytkecjopojnllnaa
