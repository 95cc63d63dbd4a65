/- The reference's add: a file more. -/
import Derived.Test.YtfpdfhncifcghaaTa
namespace Go
open Go.RowKit
theorem wpList_append_reads {P : Program} {w : World} {ops : Array Oper} {rest : List Oper} {o : Oper} {a : Act} {Q : Exit → Act → World → Prop} (hgd : o.guard = none) (s x : Operand) (t : TypeId)
    (ho : o.op = .call { callee := .builtin .append, args := #[s, x], argTypes := #[t, t] })
    (base : Nat) (e : TypeId) (i : TypeInfo) (z : Value) (size bytes : Nat) (ht : P.underlying t = some (.slice e)) (hi : P.info? e = some i) (hz : i.zero = some z)
    (hsize : i.size = size) (hby : i.bytes = bytes) (hzs : z.cells.size = size) (hsz : 0 < size)
    (v : Value) (n : Nat) (xs : List Value) (hs : a.eval s = v) (hown : w.ownsRow base e size v n xs)
    (src : Value) (m : Nat) (cells : List Value) (hx : a.eval x = src) (hr : Proofs.Ytfpdfhncifcghaa.Reads w src size m cells) (h1 : ∀ u ∈ cells, u.oneCell' = true)
    (h63 : n + m ≤ maxLen) (hbytes : (n + m) * bytes ≤ 140737488355328) (hbase : base ≤ w.heap.size)
    (h : ∀ p cap w', Hid (w'.ownsRow base e size (.slice p (n + m) cap) (n + m) (xs ++ cells)) → w.grownBy w' v.ownBlock → wpList P ops Q rest (a.put o.dst (.slice p (n + m) cap)) w') : wpList P ops Q (o :: rest) a w := by
  obtain ⟨hl, hr⟩ := hr
  rcases hr with ⟨rfl, rfl⟩ | ⟨ad, cap, rfl, _, _, hc⟩
  · have hnil : cells = [] := List.eq_nil_of_length_eq_zero (by simpa using hl)
    subst hnil
    obtain ⟨p, cap, rfl⟩ := Proofs.Ytfpdfhncifcghaa.owns_shape hown
    refine wpList_append_own_none hgd s x t ho base e i size ht hi _ n xs hs hown hx (h p cap w ?_ ⟨rfl, rfl, rfl, Nat.le_refl _, fun _ _ _ => rfl⟩)
    show w.ownsRow base e size _ _ _
    rw [List.append_nil]
    exact hown
  · refine wpList_append_own w hgd s x t ho base e i z size bytes ht hi hz hsize hby hzs hsz v n xs hs hown ad m cap cells hx hl hc h1 h63 hbytes hbase ?_
    intro v' w' h2 h3 _
    obtain ⟨p, cap', rfl⟩ := Proofs.Ytfpdfhncifcghaa.owns_shape h2
    exact h p cap' w' h2 h3
end Go
namespace Go.Proofs.Ytfpdfhncifcghaa
open Go.RowKit Go.Deep Go.Joins

/-- All files ahead of number k have smaller names. -/
def lowTo (x : ByteArray) (l : List Rw) (k : Nat) : Prop := ∀ j (h : j < l.length), j < k → Op.bytesLess l[j].name.toList x.toList = true
theorem place_end {x : ByteArray} {l : List Rw} (h : lowTo x l l.length) : placeOf x l = (l.length : Int) := by
  have hi : idx (aboveName x) l = -1 := idx_none fun j hj _ => by
    show above l[j].name x = false
    unfold above
    rw [h j hj hj]; rfl
  unfold placeOf
  rw [hi]; rfl
theorem place_at {x : ByteArray} {l : List Rw} {k : Nat} (h : lowTo x l k) (hk : k < l.length) (hn : Op.bytesLess l[k].name.toList x.toList = false) (hs : idx (sameName x) l = -1) : placeOf x l = (k : Int) := by
  have hne : (l[k].name.toList == x.toList) = false := by
    rcases idx_cases (sameName x) l with ⟨h1, _⟩ | ⟨j, _, hj, _⟩
    · exact h1 k hk hk
    · rw [hs] at hj; omega
  have hi : idx (aboveName x) l = (k : Int) := idx_some hk (fun j hj hlt => by
    show above l[j].name x = false
    unfold above
    rw [h j hj hlt]; rfl) (by
    show above l[k].name x = true
    unfold above
    rw [hn, hne]; rfl)
  unfold placeOf
  rw [hi, if_neg (by omega)]
theorem reads_part {w : World} {B n cap g : Nat} {l : List Rw} (h : w.ownsRow B 35 3 (.slice (some ⟨g, 0, none⟩) n cap) n (rowCells l)) (hn : n = l.length) (k : Nat) (hk : k ≤ n) :
    Reads w (.slice (some ⟨g, 0, none⟩) k cap) 3 k (rowCells (l.take k)) ∧ Reads w (.slice (some ⟨g, k * 3, none⟩) (n - k) (cap - k)) 3 (n - k) (rowCells (l.drop k)) := by
  have hsplit : rowCells l = rowCells (l.take k) ++ rowCells (l.drop k) := by
    unfold rowCells
    rw [← List.flatMap_append, List.take_append_drop]
  have hlen : (rowCells (l.take k)).length = k * 3 := by rw [rowCells_length, List.length_take, Nat.min_eq_left (by omega)]
  have hcells := h.cells (g := g) rfl
  have hcap : n ≤ cap ∧ cap ≤ maxLen := by
    rcases h.2 with ⟨h1, _⟩ | ⟨g', cap', cur, h1, _, _, h3, h4, _⟩
    · cases h1
    · simp only [Value.slice.injEq, true_and] at h1
      obtain ⟨_, rfl⟩ := h1
      exact ⟨h3, h4⟩
  refine ⟨⟨hlen, .inr ⟨_, cap, rfl, by omega, hcap.2, fun j u hu => hcells j u ?_⟩⟩, ⟨by rw [rowCells_length, List.length_drop, hn], .inr ⟨_, cap - k, rfl, by omega, by omega, fun j u hu => ?_⟩⟩⟩
  · rw [hsplit, List.getElem?_append_left (List.getElem?_eq_some_iff.1 hu).1]
    exact hu
  · have h2 := hcells (k * 3 + j) u (by rw [hsplit, List.getElem?_append_right (by omega), hlen, Nat.add_sub_cancel_left]; exact hu)
    rw [add_lit] at h2 ⊢
    rw [Nat.zero_add] at h2
    exact h2

set_option maxRecDepth 100000 in
set_option maxHeartbeats 1000000 in
theorem add_nil (x : ByteArray) (w : World) : Calls Try.prog 34 #[.agg #[.slice none 0 0], .string x] w fun e w' => ∃ v' : Value, e = .returned (.tuple #[.agg #[v'], .int .i64 0]) ∧ w'.ownsRow w.heap.size 35 3 v' 1 (rowCells [⟨x, .empty, .slice none 0 0, []⟩]) ∧ Below w.heap.size w w' := by
  obtain ⟨i0, hi, hz0, hz1, hz2⟩ := info_parts (show (Try.prog.info? 35).map (fun i => (i.zero, i.size, i.bytes)) = some (some (.agg #[.string .empty, .string .empty, .slice none 0 0]), 3, 56) by kernel_rfl)
  go_enter Try.func34, Try.ntmps34
  go_wp2_with fail
  go_loop [6] (fun i => i = .int .i64 0) (fun _ => 0)
  case atStart => rfl
  case round =>
    subst hrel
    go_wp2_with (first
      | (at_builtin; refine wpList_append_copy rfl _ _ 22 rfl (w.heap.size + 2) 35 i0 (.agg #[.string .empty, .string .empty, .slice none 0 0]) 3 56 Try.underlying22 hi hz0 hz1 hz2 rfl (by decide) rfl _ rfl 0 [] ?a1 (fun u hu => absurd hu (List.not_mem_nil)) ?a3 ?a4 ?a5 ?_; rotate_right 1; intro q1 c1 w5 ho5 hg5; have HO5 := Lib.hid ho5; have D5 : VarAt w5 w.heap.size (.slice none 0 0) := (hg5.block _ (by simp; omega) (by simp)).trans ((VarAt.new _ _).old _); have R5 : VarAt w5 (w.heap.size + 1) (.slice none 0 0) := (hg5.block _ (by simp) (by simp)).trans (VarAt.new2 _ _ _); have HG5 := Lib.hid hg5; clear ho5 hg5)
      | (at_builtin; refine wpList_append_own _ rfl _ _ 22 rfl (w.heap.size + 2) 35 i0 (.agg #[.string .empty, .string .empty, .slice none 0 0]) 3 56 Try.underlying22 hi hz0 hz1 hz2 rfl (by decide) _ 0 [] rfl ?b1 ⟨w5.heap.size, 0, none⟩ 1 1 [.string x, .string .empty, .slice none 0 0] rfl rfl ?b2 ?b3 ?b4 ?b5 ?b6 ?_; rotate_right 1; intro v6 w6 ho6 hg6 _; obtain ⟨q2, c2, rfl⟩ := owns_shape ho6; have HO6 := Lib.hid ho6; have D6 := VarAt.grown (D5.old _) (owns_below HO5.out (below1 _ _)) (by decide) hg6; have R6 := VarAt.grown (R5.old _) (owns_below HO5.out (below1 _ _)) (by decide) hg6; have HG6 := Lib.hid hg6; have d6 := D6.c; have dl6 := D6.lt; clear ho6 hg6)
      | (at_builtin; refine wpList_append_reads rfl _ _ 22 rfl (w.heap.size + 2) 35 i0 (.agg #[.string .empty, .string .empty, .slice none 0 0]) 3 56 Try.underlying22 hi hz0 hz1 hz2 rfl (by decide) _ (0 + 1) ([] ++ [.string x, .string .empty, .slice none 0 0]) rfl ?c1 _ 0 [] rfl ?c2 (fun u hu => absurd hu (List.not_mem_nil)) ?c4 ?c5 ?c6 ?_; rotate_right 1; intro q3 c3 w7 HO7 hg7; have R7 := VarAt.grown R6 HO6.out (by decide) hg7; have HG7 := Lib.hid hg7; have r7 := R7.c; have rz7 := R7.f; have rl7 := R7.lt; clear hg7))
    case c1 => exact HO6.out
    case c2 => exact reads_nil _ 3
    case c4 => unfold maxLen; omega
    case c6 => have := R6.lt; omega
    case b1 => exact owns_below HO5.out (below1 _ _)
    case b2 => first | exact fun j u hu => hu | (intro j u hu; rw [add_lit, Nat.zero_add, cell_of_row _ _ _ _ 35 _ (heap_alloc_new _ _)]; simpa using hu)
    case b3 => exact ⟨rfl, rfl, rfl⟩
    case b4 => unfold maxLen; omega
    case b6 => have := R5.lt; omega
    case a1 => exact reads_nil _ 3
    have hb5 : Below w.heap.size w w5 := (below2 w _ _).grown HG5.out (by simp; omega) (fun k hk => by cases hk)
    have hb6 : Below w.heap.size w w6 := (hb5.alloc hb5.size _).grown HG6.out (by have := hb5.size; simp; omega) fun j hj => by have := (HO5.out.lt j hj).1; omega
    have hb7 : Below w.heap.size w w7 := hb6.grown HG7.out hb6.size fun j hj => by have := (HO6.out.lt j hj).1; omega
    have hfin := HO7.out
    have e2 : ([] ++ [.string x, .string .empty, .slice none 0 0] ++ [] : List Value) = rowCells [⟨x, .empty, .slice none 0 0, []⟩] := rfl
    rw [e2] at hfin
    refine bodyPost_ret (v := .tuple #[.agg #[.slice q3 1 c3], .int .i64 0]) (by simp [results, Try.results34, go_sem, r7]) rfl
      ⟨_, rfl, ?_, hb7.setCell (by simp) _⟩
    exact owns_mono (ownsRow_setCell_below hfin (by simp) _) (by omega)

set_option maxRecDepth 100000 in
set_option maxHeartbeats 1000000 in
theorem add_empty (g cap : Nat) (x : ByteArray) (w : World) (hc : cap ≤ maxLen) : Calls Try.prog 34 #[.agg #[.slice (some ⟨g, 0, none⟩) 0 cap], .string x] w fun e w' => ∃ v' : Value, e = .returned (.tuple #[.agg #[v'], .int .i64 0]) ∧ w'.ownsRow w.heap.size 35 3 v' 1 (rowCells [⟨x, .empty, .slice none 0 0, []⟩]) ∧ Below w.heap.size w w' := by
  obtain ⟨i0, hi, hz0, hz1, hz2⟩ := info_parts (show (Try.prog.info? 35).map (fun i => (i.zero, i.size, i.bytes)) = some (some (.agg #[.string .empty, .string .empty, .slice none 0 0]), 3, 56) by kernel_rfl)
  go_enter Try.func34, Try.ntmps34
  go_wp2_with fail
  go_loop [6] (fun i => i = .int .i64 0) (fun _ => 0)
  case atStart => rfl
  case round =>
    subst hrel
    go_wp2_with (first
      | (at_builtin; refine wpList_append_copy rfl _ _ 22 rfl (w.heap.size + 2) 35 i0 (.agg #[.string .empty, .string .empty, .slice none 0 0]) 3 56 Try.underlying22 hi hz0 hz1 hz2 rfl (by decide) rfl _ rfl 0 [] ?a1 (fun u hu => absurd hu (List.not_mem_nil)) ?a3 ?a4 ?a5 ?_; rotate_right 1; intro q1 c1 w5 ho5 hg5; have HO5 := Lib.hid ho5; have D5 : VarAt w5 w.heap.size (.slice (some ⟨g, 0, none⟩) 0 cap) := (hg5.block _ (by simp; omega) (by simp)).trans ((VarAt.new _ _).old _); have R5 : VarAt w5 (w.heap.size + 1) (.slice none 0 0) := (hg5.block _ (by simp) (by simp)).trans (VarAt.new2 _ _ _); have HG5 := Lib.hid hg5; clear ho5 hg5)
      | (at_builtin; refine wpList_append_own _ rfl _ _ 22 rfl (w.heap.size + 2) 35 i0 (.agg #[.string .empty, .string .empty, .slice none 0 0]) 3 56 Try.underlying22 hi hz0 hz1 hz2 rfl (by decide) _ 0 [] rfl ?b1 ⟨w5.heap.size, 0, none⟩ 1 1 [.string x, .string .empty, .slice none 0 0] rfl rfl ?b2 ?b3 ?b4 ?b5 ?b6 ?_; rotate_right 1; intro v6 w6 ho6 hg6 _; obtain ⟨q2, c2, rfl⟩ := owns_shape ho6; have HO6 := Lib.hid ho6; have D6 := VarAt.grown (D5.old _) (owns_below HO5.out (below1 _ _)) (by decide) hg6; have R6 := VarAt.grown (R5.old _) (owns_below HO5.out (below1 _ _)) (by decide) hg6; have HG6 := Lib.hid hg6; have d6 := D6.c; have dl6 := D6.lt; clear ho6 hg6)
      | (at_builtin; refine wpList_append_reads rfl _ _ 22 rfl (w.heap.size + 2) 35 i0 (.agg #[.string .empty, .string .empty, .slice none 0 0]) 3 56 Try.underlying22 hi hz0 hz1 hz2 rfl (by decide) _ (0 + 1) ([] ++ [.string x, .string .empty, .slice none 0 0]) rfl ?c1 _ 0 [] rfl ?c2 (fun u hu => absurd hu (List.not_mem_nil)) ?c4 ?c5 ?c6 ?_; rotate_right 1; intro q3 c3 w7 HO7 hg7; have R7 := VarAt.grown R6 HO6.out (by decide) hg7; have HG7 := Lib.hid hg7; have r7 := R7.c; have rz7 := R7.f; have rl7 := R7.lt; clear hg7))
    case c1 => exact HO6.out
    case c2 => exact ⟨rfl, .inr ⟨_, _, rfl, Nat.zero_le _, hc, fun j u hu => by simp at hu⟩⟩
    case c4 => unfold maxLen; omega
    case c6 => have := R6.lt; omega
    case b1 => exact owns_below HO5.out (below1 _ _)
    case b2 => first | exact fun j u hu => hu | (intro j u hu; rw [add_lit, Nat.zero_add, cell_of_row _ _ _ _ 35 _ (heap_alloc_new _ _)]; simpa using hu)
    case b3 => exact ⟨rfl, rfl, rfl⟩
    case b4 => unfold maxLen; omega
    case b6 => have := R5.lt; omega
    case a1 => exact ⟨rfl, .inr ⟨_, _, rfl, Nat.zero_le _, hc, fun j u hu => by simp at hu⟩⟩
    have hb5 : Below w.heap.size w w5 := (below2 w _ _).grown HG5.out (by simp; omega) (fun k hk => by cases hk)
    have hb6 : Below w.heap.size w w6 := (hb5.alloc hb5.size _).grown HG6.out (by have := hb5.size; simp; omega) fun j hj => by have := (HO5.out.lt j hj).1; omega
    have hb7 : Below w.heap.size w w7 := hb6.grown HG7.out hb6.size fun j hj => by have := (HO6.out.lt j hj).1; omega
    have hfin := HO7.out
    have e2 : ([] ++ [.string x, .string .empty, .slice none 0 0] ++ [] : List Value) = rowCells [⟨x, .empty, .slice none 0 0, []⟩] := rfl
    rw [e2] at hfin
    refine bodyPost_ret (v := .tuple #[.agg #[.slice q3 1 c3], .int .i64 0]) (by simp [results, Try.results34, go_sem, r7]) rfl
      ⟨_, rfl, ?_, hb7.setCell (by simp) _⟩
    exact owns_mono (ownsRow_setCell_below hfin (by simp) _) (by omega)

set_option maxRecDepth 100000 in
set_option maxHeartbeats 1000000 in
theorem add_any (l : List Rw) (v : Value) (x : ByteArray) (B : Nat) (w : World) (hown : w.ownsRow B 35 3 v l.length (rowCells l)) (hone : ∀ u ∈ rowCells l, u.oneCell' = true) (hidx : idx (sameName x) l = -1) (hm : l.length ≤ 1099511627776) :
    Calls Try.prog 34 #[.agg #[v], .string x] w fun e w' => ∃ (k : Nat) (v' : Value), e = .returned (.tuple #[.agg #[v'], .int .i64 (k : Int)]) ∧ k ≤ l.length ∧ placeOf x l = (k : Int) ∧
      w'.ownsRow w.heap.size 35 3 v' (l.length + 1) (rowCells (l.take k ++ ⟨x, .empty, .slice none 0 0, []⟩ :: l.drop k)) ∧ Below w.heap.size w w' := by
  obtain ⟨q, cap, rfl⟩ := owns_shape hown
  obtain ⟨i0, hi, hz0, hz1, hz2⟩ := info_parts (show (Try.prog.info? 35).map (fun i => (i.zero, i.size, i.bytes)) = some (some (.agg #[.string .empty, .string .empty, .slice none 0 0]), 3, 56) by kernel_rfl)
  have HOWN := Lib.hid hown
  have HIDX := Lib.hid hidx
  have HONE := Lib.hid hone
  by_cases hl0 : l.length = 0
  · obtain rfl := List.eq_nil_of_length_eq_zero hl0
    have hcase : (Value.slice q (List.length ([] : List Rw)) cap = .slice none 0 0) ∨ ∃ g, Value.slice q (List.length ([] : List Rw)) cap = .slice (some ⟨g, 0, none⟩) 0 cap ∧ cap ≤ maxLen := by
      rcases hown.2 with ⟨h1, _⟩ | ⟨g', cap', cur, h1, _, _, _, h4, _⟩
      · exact .inl h1
      · simp only [Value.slice.injEq] at h1
        obtain ⟨rfl, _, rfl⟩ := h1
        exact .inr ⟨g', rfl, h4⟩
    rcases hcase with h | ⟨g, h, hc⟩
    · rw [h]
      exact (add_nil x w).mono fun e w' ⟨v', h1, h2, h3⟩ => ⟨0, v', h1, Nat.le_refl _, rfl, h2, h3⟩
    · rw [h]
      exact (add_empty g cap x w hc).mono fun e w' ⟨v', h1, h2, h3⟩ => ⟨0, v', h1, Nat.le_refl _, rfl, h2, h3⟩
  obtain ⟨g, hq, hg1, hg2, _⟩ := owns_file hown 0 (by omega) (by omega)
  subst hq
  have hcapl : l.length ≤ cap := by
    rcases hown.2 with ⟨h1, _⟩ | ⟨g', cap', cur, h1, _, _, h3, h4, _⟩
    · cases h1
    · simp only [Value.slice.injEq, true_and] at h1
      obtain ⟨_, rfl⟩ := h1
      exact h3
  clear hown hidx hone
  go_enter Try.func34, Try.ntmps34
  go_wp2_with fail
  go_loop [6] (fun i => ∃ k : Nat, k ≤ l.length ∧ i = .int .i64 k ∧ Hid (lowTo x l k)) (fun i => l.length - (intOf i).toNat)
  case atStart => exact ⟨0, Nat.zero_le _, rfl, fun j _ h => absurd h (Nat.not_lt_zero _)⟩
  case round =>
    obtain ⟨k, hk, rfl, hlow⟩ := hrel
    by_cases hlt : k < l.length
    · obtain ⟨g', hq, _, _, c0, _⟩ := owns_file HOWN.out k hlt (by omega)
      obtain rfl : g = g' := by simpa using hq
      rcases Bool.eq_false_or_eq_true (Op.bytesLess l[k].name.toList x.toList) with hb | hb
      · have hnext : Hid (lowTo x l (k + 1)) := by
          intro j hj hjk
          by_cases e : j < k
          · exact hlow.out j hj e
          · obtain rfl : j = k := by omega
            exact hb
        go_wp2_with fail
        go_round
        case rel => exact ⟨k + 1, by omega, by go_num, hnext⟩
        case measure => simp [intOf]; omega
      · have hpl := place_at hlow.out hlt hb HIDX.out
        obtain ⟨hr1, hr2⟩ := reads_part HOWN.out rfl k hk
        have HR1 := Lib.hid hr1
        have HR2 := Lib.hid hr2
        have HPL := Lib.hid hpl
        have hkc : ¬ k = cap := by omega
        clear hr1 hr2 hpl
        have HONEA : Hid (∀ u ∈ rowCells (l.take k), u.oneCell' = true) := fun u hu => HONE.out u (by obtain ⟨r, hr, hu⟩ := List.mem_flatMap.1 hu; exact List.mem_flatMap.2 ⟨r, List.mem_of_mem_take hr, hu⟩)
        have HONEB : Hid (∀ u ∈ rowCells (l.drop k), u.oneCell' = true) := fun u hu => HONE.out u (by obtain ⟨r, hr, hu⟩ := List.mem_flatMap.1 hu; exact List.mem_flatMap.2 ⟨r, List.mem_of_mem_drop hr, hu⟩)
        go_wp2_with (first
          | (at_builtin; refine wpList_append_copy rfl _ _ 22 rfl (w.heap.size + 2) 35 i0 (.agg #[.string .empty, .string .empty, .slice none 0 0]) 3 56 Try.underlying22 hi hz0 hz1 hz2 rfl (by decide) rfl _ rfl k (rowCells (l.take k)) ?a1 (HONEA.out) ?a3 ?a4 ?a5 ?_; rotate_right 1; intro q1 c1 w5 ho5 hg5; have HO5 := Lib.hid ho5; have D5 : VarAt w5 w.heap.size (.slice (some ⟨g, 0, none⟩) l.length cap) := (hg5.block _ (by simp; omega) (by simp)).trans ((VarAt.new _ _).old _); have R5 : VarAt w5 (w.heap.size + 1) (.slice none 0 0) := (hg5.block _ (by simp) (by simp)).trans (VarAt.new2 _ _ _); have HG5 := Lib.hid hg5; clear ho5 hg5)
          | (at_builtin; refine wpList_append_own _ rfl _ _ 22 rfl (w.heap.size + 2) 35 i0 (.agg #[.string .empty, .string .empty, .slice none 0 0]) 3 56 Try.underlying22 hi hz0 hz1 hz2 rfl (by decide) _ k (rowCells (l.take k)) rfl ?b1 ⟨w5.heap.size, 0, none⟩ 1 1 [.string x, .string .empty, .slice none 0 0] rfl rfl ?b2 ?b3 ?b4 ?b5 ?b6 ?_; rotate_right 1; intro v6 w6 ho6 hg6 _; obtain ⟨q2, c2, rfl⟩ := owns_shape ho6; have HO6 := Lib.hid ho6; have D6 := VarAt.grown (D5.old _) (owns_below HO5.out (below1 _ _)) (by decide) hg6; have R6 := VarAt.grown (R5.old _) (owns_below HO5.out (below1 _ _)) (by decide) hg6; have HG6 := Lib.hid hg6; have d6 := D6.c; have dl6 := D6.lt; clear ho6 hg6)
          | (at_builtin; refine wpList_append_reads rfl _ _ 22 rfl (w.heap.size + 2) 35 i0 (.agg #[.string .empty, .string .empty, .slice none 0 0]) 3 56 Try.underlying22 hi hz0 hz1 hz2 rfl (by decide) _ (k + 1) (rowCells (l.take k) ++ [.string x, .string .empty, .slice none 0 0]) rfl ?c1 _ (l.length - k) (rowCells (l.drop k)) rfl ?c2 (HONEB.out) ?c4 ?c5 ?c6 ?_; rotate_right 1; intro q3 c3 w7 HO7 hg7; have R7 := VarAt.grown R6 HO6.out (by decide) hg7; have HG7 := Lib.hid hg7; have r7 := R7.c; have rz7 := R7.f; have rl7 := R7.lt; clear hg7))
        case a1 => exact HR1.out.below (below2 w _ _)
        case a3 => unfold maxLen; omega
        case a4 => omega
        case b1 => exact owns_below HO5.out (below1 _ _)
        case b2 =>
          intro j u hu
          first
            | exact hu
            | (rw [add_lit, Nat.zero_add, cell_of_row _ _ _ _ 35 _ (heap_alloc_new _ _)]; simpa using hu)
        case b3 =>
          exact ⟨rfl, rfl, rfl⟩
        case b4 => unfold maxLen; omega
        case b5 => omega
        case b6 => have := R5.lt; simp; omega
        case c1 => exact HO6.out
        case c2 => exact HR2.out.below (by have hb5 : Below w.heap.size w w5 := (below2 w _ _).grown HG5.out (by simp; omega) (fun k hk => by cases hk); exact (hb5.alloc hb5.size _).grown HG6.out (by have := hb5.size; simp; omega) fun j hj => by have := (HO5.out.lt j hj).1; omega)
        case c4 => unfold maxLen; omega
        case c5 => omega
        case c6 => have := R6.lt; omega
        have hb5 : Below w.heap.size w w5 := (below2 w _ _).grown HG5.out (by simp; omega) (fun k hk => by cases hk)
        have hb6 : Below w.heap.size w w6 := (hb5.alloc hb5.size _).grown HG6.out (by have := hb5.size; simp; omega) fun j hj => by have := (HO5.out.lt j hj).1; omega
        have hb7 : Below w.heap.size w w7 := hb6.grown HG7.out hb6.size fun j hj => by have := (HO6.out.lt j hj).1; omega
        have hfin := HO7.out
        have e1 : k + 1 + (l.length - k) = l.length + 1 := by omega
        have e2 : rowCells (l.take k) ++ [.string x, .string .empty, .slice none 0 0] ++ rowCells (l.drop k) = rowCells (l.take k ++ ⟨x, .empty, .slice none 0 0, []⟩ :: l.drop k) := by simp [rowCells]
        rw [e2, e1] at hfin
        refine bodyPost_ret (v := .tuple #[.agg #[.slice q3 (k + 1 + (l.length - k)) c3], .int .i64 (k : Int)]) (by simp [results, Try.results34, go_sem, r7]) rfl
          ⟨k, _, rfl, hk, HPL.out, ?_, hb7.setCell (by simp) _⟩
        rw [e1]
        exact owns_mono (ownsRow_setCell_below hfin (by simp) _) (by omega)
    · have hkl : k = l.length := by omega
      have hpl : placeOf x l = (k : Int) := by rw [hkl]; exact place_end (hkl ▸ hlow.out)
      obtain ⟨hr1, hr2⟩ := reads_part HOWN.out rfl k hk
      have HR1 := Lib.hid hr1
      have HR2 := Lib.hid hr2
      have HPL := Lib.hid hpl
      clear hr1 hr2 hpl hkl
      by_cases hkc : k = cap
      · have hcm : cap ≤ 1099511627776 := by omega
        obtain rfl : cap = k := hkc.symm
        have HONEA : Hid (∀ u ∈ rowCells (l.take cap), u.oneCell' = true) := fun u hu => HONE.out u (by obtain ⟨r, hr, hu⟩ := List.mem_flatMap.1 hu; exact List.mem_flatMap.2 ⟨r, List.mem_of_mem_take hr, hu⟩)
        have HONEB : Hid (∀ u ∈ rowCells (l.drop cap), u.oneCell' = true) := fun u hu => HONE.out u (by obtain ⟨r, hr, hu⟩ := List.mem_flatMap.1 hu; exact List.mem_flatMap.2 ⟨r, List.mem_of_mem_drop hr, hu⟩)
        go_wp2_with (first
          | (at_builtin; refine wpList_append_copy rfl _ _ 22 rfl (w.heap.size + 2) 35 i0 (.agg #[.string .empty, .string .empty, .slice none 0 0]) 3 56 Try.underlying22 hi hz0 hz1 hz2 rfl (by decide) rfl _ rfl cap (rowCells (l.take cap)) ?a1 (HONEA.out) ?a3 ?a4 ?a5 ?_; rotate_right 1; intro q1 c1 w5 ho5 hg5; have HO5 := Lib.hid ho5; have D5 : VarAt w5 w.heap.size (.slice (some ⟨g, 0, none⟩) l.length cap) := (hg5.block _ (by simp; omega) (by simp)).trans ((VarAt.new _ _).old _); have R5 : VarAt w5 (w.heap.size + 1) (.slice none 0 0) := (hg5.block _ (by simp) (by simp)).trans (VarAt.new2 _ _ _); have HG5 := Lib.hid hg5; clear ho5 hg5)
          | (at_builtin; refine wpList_append_own _ rfl _ _ 22 rfl (w.heap.size + 2) 35 i0 (.agg #[.string .empty, .string .empty, .slice none 0 0]) 3 56 Try.underlying22 hi hz0 hz1 hz2 rfl (by decide) _ cap (rowCells (l.take cap)) rfl ?b1 ⟨w5.heap.size, 0, none⟩ 1 1 [.string x, .string .empty, .slice none 0 0] rfl rfl ?b2 ?b3 ?b4 ?b5 ?b6 ?_; rotate_right 1; intro v6 w6 ho6 hg6 _; obtain ⟨q2, c2, rfl⟩ := owns_shape ho6; have HO6 := Lib.hid ho6; have D6 := VarAt.grown (D5.old _) (owns_below HO5.out (below1 _ _)) (by decide) hg6; have R6 := VarAt.grown (R5.old _) (owns_below HO5.out (below1 _ _)) (by decide) hg6; have HG6 := Lib.hid hg6; have d6 := D6.c; have dl6 := D6.lt; clear ho6 hg6)
          | (at_builtin; refine wpList_append_reads rfl _ _ 22 rfl (w.heap.size + 2) 35 i0 (.agg #[.string .empty, .string .empty, .slice none 0 0]) 3 56 Try.underlying22 hi hz0 hz1 hz2 rfl (by decide) _ (cap + 1) (rowCells (l.take cap) ++ [.string x, .string .empty, .slice none 0 0]) rfl ?c1 _ (l.length - cap) (rowCells (l.drop cap)) rfl ?c2 (HONEB.out) ?c4 ?c5 ?c6 ?_; rotate_right 1; intro q3 c3 w7 HO7 hg7; have R7 := VarAt.grown R6 HO6.out (by decide) hg7; have HG7 := Lib.hid hg7; have r7 := R7.c; have rz7 := R7.f; have rl7 := R7.lt; clear hg7))
        case a1 => exact HR1.out.below (below2 w _ _)
        case a3 => unfold maxLen; omega
        case a4 => omega
        case b1 => exact owns_below HO5.out (below1 _ _)
        case b2 =>
          intro j u hu
          first
            | exact hu
            | (rw [add_lit, Nat.zero_add, cell_of_row _ _ _ _ 35 _ (heap_alloc_new _ _)]; simpa using hu)
        case b3 =>
          exact ⟨rfl, rfl, rfl⟩
        case b4 => unfold maxLen; omega
        case b5 => omega
        case b6 => have := R5.lt; simp; omega
        case c1 => exact HO6.out
        case c2 =>
          have hz : l.length - cap = 0 := by omega
          have hdz : rowCells (l.drop cap) = [] := List.eq_nil_of_length_eq_zero (by rw [rowCells_length, List.length_drop, hz])
          rw [hdz]
          try rw [hz]
          exact ⟨rfl, .inr ⟨_, _, rfl, Nat.zero_le _, by unfold maxLen; omega, fun j u hu => by simp at hu⟩⟩
        case c4 => unfold maxLen; omega
        case c5 => omega
        case c6 => have := R6.lt; omega
        have hb5 : Below w.heap.size w w5 := (below2 w _ _).grown HG5.out (by simp; omega) (fun k hk => by cases hk)
        have hb6 : Below w.heap.size w w6 := (hb5.alloc hb5.size _).grown HG6.out (by have := hb5.size; simp; omega) fun j hj => by have := (HO5.out.lt j hj).1; omega
        have hb7 : Below w.heap.size w w7 := hb6.grown HG7.out hb6.size fun j hj => by have := (HO6.out.lt j hj).1; omega
        have hfin := HO7.out
        have e1 : cap + 1 + (l.length - cap) = l.length + 1 := by omega
        have e2 : rowCells (l.take cap) ++ [.string x, .string .empty, .slice none 0 0] ++ rowCells (l.drop cap) = rowCells (l.take cap ++ ⟨x, .empty, .slice none 0 0, []⟩ :: l.drop cap) := by simp [rowCells]
        rw [e2, e1] at hfin
        refine bodyPost_ret (v := .tuple #[.agg #[.slice q3 (cap + 1) c3], .int .i64 (cap : Int)]) (by simp [results, Try.results34, go_sem, r7]) rfl
          ⟨cap, _, rfl, hk, HPL.out, ?_, hb7.setCell (by simp) _⟩
        rw [show cap + 1 = l.length + 1 by omega]
        exact owns_mono (ownsRow_setCell_below hfin (by simp) _) (by omega)
      · have hlk : k ≤ cap := by omega
        have HONEA : Hid (∀ u ∈ rowCells (l.take k), u.oneCell' = true) := fun u hu => HONE.out u (by obtain ⟨r, hr, hu⟩ := List.mem_flatMap.1 hu; exact List.mem_flatMap.2 ⟨r, List.mem_of_mem_take hr, hu⟩)
        have HONEB : Hid (∀ u ∈ rowCells (l.drop k), u.oneCell' = true) := fun u hu => HONE.out u (by obtain ⟨r, hr, hu⟩ := List.mem_flatMap.1 hu; exact List.mem_flatMap.2 ⟨r, List.mem_of_mem_drop hr, hu⟩)
        go_wp2_with (first
          | (at_builtin; refine wpList_append_copy rfl _ _ 22 rfl (w.heap.size + 2) 35 i0 (.agg #[.string .empty, .string .empty, .slice none 0 0]) 3 56 Try.underlying22 hi hz0 hz1 hz2 rfl (by decide) rfl _ rfl k (rowCells (l.take k)) ?a1 (HONEA.out) ?a3 ?a4 ?a5 ?_; rotate_right 1; intro q1 c1 w5 ho5 hg5; have HO5 := Lib.hid ho5; have D5 : VarAt w5 w.heap.size (.slice (some ⟨g, 0, none⟩) l.length cap) := (hg5.block _ (by simp; omega) (by simp)).trans ((VarAt.new _ _).old _); have R5 : VarAt w5 (w.heap.size + 1) (.slice none 0 0) := (hg5.block _ (by simp) (by simp)).trans (VarAt.new2 _ _ _); have HG5 := Lib.hid hg5; clear ho5 hg5)
          | (at_builtin; refine wpList_append_own _ rfl _ _ 22 rfl (w.heap.size + 2) 35 i0 (.agg #[.string .empty, .string .empty, .slice none 0 0]) 3 56 Try.underlying22 hi hz0 hz1 hz2 rfl (by decide) _ k (rowCells (l.take k)) rfl ?b1 ⟨w5.heap.size, 0, none⟩ 1 1 [.string x, .string .empty, .slice none 0 0] rfl rfl ?b2 ?b3 ?b4 ?b5 ?b6 ?_; rotate_right 1; intro v6 w6 ho6 hg6 _; obtain ⟨q2, c2, rfl⟩ := owns_shape ho6; have HO6 := Lib.hid ho6; have D6 := VarAt.grown (D5.old _) (owns_below HO5.out (below1 _ _)) (by decide) hg6; have R6 := VarAt.grown (R5.old _) (owns_below HO5.out (below1 _ _)) (by decide) hg6; have HG6 := Lib.hid hg6; have d6 := D6.c; have dl6 := D6.lt; clear ho6 hg6)
          | (at_builtin; refine wpList_append_reads rfl _ _ 22 rfl (w.heap.size + 2) 35 i0 (.agg #[.string .empty, .string .empty, .slice none 0 0]) 3 56 Try.underlying22 hi hz0 hz1 hz2 rfl (by decide) _ (k + 1) (rowCells (l.take k) ++ [.string x, .string .empty, .slice none 0 0]) rfl ?c1 _ (l.length - k) (rowCells (l.drop k)) rfl ?c2 (HONEB.out) ?c4 ?c5 ?c6 ?_; rotate_right 1; intro q3 c3 w7 HO7 hg7; have R7 := VarAt.grown R6 HO6.out (by decide) hg7; have HG7 := Lib.hid hg7; have r7 := R7.c; have rz7 := R7.f; have rl7 := R7.lt; clear hg7))
        case a1 => exact HR1.out.below (below2 w _ _)
        case a3 => unfold maxLen; omega
        case a4 => omega
        case b1 => exact owns_below HO5.out (below1 _ _)
        case b2 =>
          intro j u hu
          first
            | exact hu
            | (rw [add_lit, Nat.zero_add, cell_of_row _ _ _ _ 35 _ (heap_alloc_new _ _)]; simpa using hu)
        case b3 =>
          exact ⟨rfl, rfl, rfl⟩
        case b4 => unfold maxLen; omega
        case b5 => omega
        case b6 => have := R5.lt; simp; omega
        case c1 => exact HO6.out
        case c2 => exact HR2.out.below (by have hb5 : Below w.heap.size w w5 := (below2 w _ _).grown HG5.out (by simp; omega) (fun k hk => by cases hk); exact (hb5.alloc hb5.size _).grown HG6.out (by have := hb5.size; simp; omega) fun j hj => by have := (HO5.out.lt j hj).1; omega)
        case c4 => unfold maxLen; omega
        case c5 => omega
        case c6 => have := R6.lt; omega
        have hb5 : Below w.heap.size w w5 := (below2 w _ _).grown HG5.out (by simp; omega) (fun k hk => by cases hk)
        have hb6 : Below w.heap.size w w6 := (hb5.alloc hb5.size _).grown HG6.out (by have := hb5.size; simp; omega) fun j hj => by have := (HO5.out.lt j hj).1; omega
        have hb7 : Below w.heap.size w w7 := hb6.grown HG7.out hb6.size fun j hj => by have := (HO6.out.lt j hj).1; omega
        have hfin := HO7.out
        have e1 : k + 1 + (l.length - k) = l.length + 1 := by omega
        have e2 : rowCells (l.take k) ++ [.string x, .string .empty, .slice none 0 0] ++ rowCells (l.drop k) = rowCells (l.take k ++ ⟨x, .empty, .slice none 0 0, []⟩ :: l.drop k) := by simp [rowCells]
        rw [e2, e1] at hfin
        refine bodyPost_ret (v := .tuple #[.agg #[.slice q3 (k + 1 + (l.length - k)) c3], .int .i64 (k : Int)]) (by simp [results, Try.results34, go_sem, r7]) rfl
          ⟨k, _, rfl, hk, HPL.out, ?_, hb7.setCell (by simp) _⟩
        rw [e1]
        exact owns_mono (ownsRow_setCell_below hfin (by simp) _) (by omega)
end Go.Proofs.Ytfpdfhncifcghaa
