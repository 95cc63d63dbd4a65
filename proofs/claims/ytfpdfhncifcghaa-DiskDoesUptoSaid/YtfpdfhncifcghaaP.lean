/- A file taken out of the row of files. -/
import Derived.Test.YtfpdfhncifcghaaN
namespace Go
open Go.RowKit

/-- append INTO A ROW KNOWN WHOLE WHERE THERE IS ROOM, as a step of a region that draws. -/
theorem step_append_row {P : Program} {ops : Array Oper} {o : Oper} {a : Act} {w : World} {K : Act → World → Prop} {Q : Exit → Act → World → Prop} {E : Prop} (hgd : o.guard = none) (s x : Operand) (t : TypeId)
    (ho : o.op = .call { callee := .builtin .append, args := #[s, x], argTypes := #[t, t] }) (e : TypeId) (i : TypeInfo) (size : Nat) (ht : P.underlying t = some (.slice e)) (hi : P.info? e = some i) (hsize : i.size = size)
    (g n cap : Nat) (hs : a.eval s = .slice (some ⟨g, 0, none⟩) n cap) (cur : List Value) (hg : w.heap[g]? = some (.cells cur.toArray e (0, 0)))
    (sp : Option Addr) (m c : Nat) (news : List Value) (hx : a.eval x = .slice sp m c) (hsp : 0 < m → ∃ ad, sp = some ad ∧ ∀ j u, news[j]? = some u → w.cell? (ad.add j) = some u) (hsn : ∃ ad, sp = some ad)
    (hl : news.length = m * size) (h1 : ∀ u ∈ news, u.oneCell' = true) (hsz : 0 < size)
    (N : Nat) (hN : n + m = N) (hroom : n + m ≤ cap) (hfit : n * size + news.length ≤ cur.length)
    (h : ∀ w', Hid (w'.heap[g]? = some (.cells (splice cur (n * size) news).toArray e (0, 0))) → w.grownBy w' (some g) → K (a.put o.dst (.slice (some ⟨g, 0, none⟩) N cap)) w') :
    if Region.wanted o (yielded ops a.tmps) = true then Oper.wp P o a w K Q else E := by
  have hw : Region.wanted o (yielded ops a.tmps) = true := by simp [Region.wanted, hgd]
  rw [if_pos hw]
  subst hsize
  subst hN
  obtain ⟨ad, hsp', hn⟩ : ∃ ad, sp = some ad ∧ ∀ j u, news[j]? = some u → w.cell? (ad.add j) = some u := by
    by_cases h0 : 0 < m
    · exact hsp h0
    · obtain ⟨ad, h2⟩ := hsn
      have : news = [] := List.eq_nil_of_length_eq_zero (by rw [hl, show m = 0 by omega, Nat.zero_mul])
      subst this
      exact ⟨ad, h2, fun j u hu => by simp at hu⟩
  subst hsp'
  have hrun := run_append_room (P := P) w t o.type e i ht hi g n cap cur.toArray hg ad m c news hl hn h1 hroom (by simpa using hfit)
  unfold Oper.wp
  simp [execOp, ho, resolve, invoke, builtin, hs, hx, hrun, Result.andThen]
  refine h _ (show _ = _ from ?_) ⟨rfl, rfl, rfl, by simp [World.setRow], fun k _ hk => setRow_other w g k _ (fun e => hk (by simp [e]))⟩
  have := setRow_heap w g cur.toArray ((cur.take (n * i.size)) ++ news ++ cur.drop (n * i.size + news.length)).toArray e (0, 0) hg
  simpa [splice] using this

/-- clear OF A STRETCH OF A ROW KNOWN WHOLE. -/
theorem wpList_clear_row {P : Program} {w : World} {ops : Array Oper} {rest : List Oper} {o : Oper} {a : Act} {Q : Exit → Act → World → Prop} (hgd : o.guard = none) (s : Operand) (t : TypeId)
    (ho : o.op = .call { callee := .builtin .clear, args := #[s], argTypes := #[t] }) (e : TypeId) (i : TypeInfo) (z : Value) (ht : P.underlying t = some (.slice e)) (hi : P.info? e = some i) (hz : i.zero = some z)
    (g off n c : Nat) (hs : a.eval s = .slice (some ⟨g, off, none⟩) n c) (cur : List Value) (te : TypeId) (hg : w.heap[g]? = some (.cells cur.toArray te (0, 0)))
    (hz1 : ∀ u ∈ (Builtin.zeroCells z.cells n).toList, u.oneCell' = true) (hfit : off + (Builtin.zeroCells z.cells n).toList.length ≤ cur.length) (hn : 0 < n)
    (h : ∀ w', Hid (w'.heap[g]? = some (.cells (splice cur off (Builtin.zeroCells z.cells n).toList).toArray te (0, 0))) → w.grownBy w' (some g) → wpList P ops Q rest (a.put o.dst (.tuple #[])) w') :
    wpList P ops Q (o :: rest) a w := by
  refine wpList_plain hgd fun K hK => ?_
  have hst := run_storeCells_at P g off te (Builtin.zeroCells z.cells n).toList 0 cur.toArray w hg (by simpa using hfit) hz1
  simp only [Nat.add_zero] at hst
  have hrun : (Builtin.clear_ #[t] o.type #[.slice (some ⟨g, off, none⟩) n c]).run P w = .ok (.tuple #[]) (w.setRow g (splice cur off (Builtin.zeroCells z.cells n).toList).toArray) := by
    obtain ⟨m, rfl⟩ : ∃ m, n = m + 1 := ⟨n - 1, by omega⟩
    simp [Builtin.clear_, run_underlying ht, zeroValue, typeInfo, hi, hz, hst, splice]
  unfold Oper.wp
  simp [execOp, ho, resolve, invoke, builtin, hs, hrun, Result.andThen]
  exact hK _ _ (h _ (show _ = _ from setRow_heap w g _ _ te _ hg) ⟨rfl, rfl, rfl, by simp [World.setRow], fun k _ hk => setRow_other w g k _ (fun e => hk (by simp [e]))⟩)
end Go
namespace Go.Proofs.Ytfpdfhncifcghaa
open Go.RowKit

theorem zero_one : ∀ u ∈ (Builtin.zeroCells (Value.agg #[.string .empty, .string .empty, .slice none 0 0]).cells 1).toList, u.oneCell' = true := by
  intro u hu
  have e : (Builtin.zeroCells (Value.agg #[.string .empty, .string .empty, .slice none 0 0]).cells 1).toList = [.string .empty, .string .empty, .slice none 0 0] := by kernel_rfl
  rw [e] at hu
  simp only [List.mem_cons, List.not_mem_nil, or_false] at hu
  rcases hu with rfl | rfl | rfl <;> rfl
theorem delete_splice (C : List Value) (l : List Rw) (Z : List Value) (k n0 : Nat) (hn : l.length = n0 + 1) (hk : k < n0 + 1) (hT : C.take (l.length * 3) = rowCells l) :
    (splice (splice C (k * 3) (rowCells (l.drop (k + 1)))) (n0 * 3) Z).toArray.toList.take (n0 * 3) = rowCells (l.eraseIdx k) := by
  have hD : (rowCells (l.drop (k + 1))).length = (n0 - k) * 3 := by rw [rowCells_length, List.length_drop, hn]; congr 1; omega
  have hA : C.take (k * 3) = rowCells (l.take k) := by
    have e : rowCells l = rowCells (l.take k) ++ rowCells (l.drop k) := by rw [← rowCells_append, List.take_append_drop]
    have h1 : C.take (k * 3) = (C.take (l.length * 3)).take (k * 3) := by rw [List.take_take, Nat.min_eq_left (by omega)]
    rw [h1, hT, e]
    exact List.take_left' (by rw [rowCells_length, List.length_take]; omega)
  have hAl : (rowCells (l.take k)).length = k * 3 := by rw [rowCells_length, List.length_take]; omega
  rw [List.eraseIdx_eq_take_drop_succ, rowCells_append]
  unfold splice
  rw [hA, List.toList_toArray, List.take_append_of_le_length (by simp only [List.length_take, List.length_append, hAl, hD]; omega), List.take_take, Nat.min_self, ← List.append_assoc]
  exact List.take_left' (by rw [List.length_append, hAl, hD]; omega)
set_option maxHeartbeats 1000000 in
theorem delete_any (l : List Rw) (v : Value) (k : Nat) (B : Nat) (w : World) (hown : w.ownsRow B 35 3 v l.length (rowCells l)) (hk : k < l.length) (hone : ∀ u ∈ rowCells l, u.oneCell' = true) (hm : l.length ≤ 9223372036854775807) :
    Calls Try.prog 33 #[v, .int .i64 (k : Int), .int .i64 ((k : Int) + 1)] w fun e w' => ∃ v', e = .returned v' ∧ w'.ownsRow B 35 3 v' (l.length - 1) (rowCells (l.eraseIdx k)) ∧ w.grownBy w' v.ownBlock := by
  obtain ⟨i0, hi0, hz0, hz1, hz2⟩ := info35
  have hown' := hown
  obtain ⟨hlen, h2⟩ := hown'
  rcases h2 with ⟨_, h2⟩ | ⟨g, cap, cur, rfl, hBg, hg, hnc, hcm, hcs, htake⟩
  · omega
  have hgl : g < w.heap.size := (Array.getElem?_eq_some_iff.1 hg).1
  obtain ⟨n0, hn0⟩ : ∃ n0, l.length = n0 + 1 := ⟨l.length - 1, by omega⟩
  have hcur : cur.toList.length = cap * 3 := by rw [Array.length_toList]; exact hcs
  have hdl : (rowCells (l.drop (k + 1))).length = (n0 - k) * 3 := by rw [rowCells_length, List.length_drop, hn0]; congr 1; omega
  have hgd : (w.drew).heap[g]? = some (.cells cur.toList.toArray 35 (0, 0)) := by rw [Array.toArray_toList]; exact hg
  have hsr : ∀ j v, (rowCells (l.drop (k + 1)))[j]? = some v → (w.drew).cell? ((⟨g, (k + 1) * 3, none⟩ : Addr).add j) = some v := fun j v hj => by
    rw [add_lit]
    show w.cell? _ = _
    have hj2 : (k + 1) * 3 + j < l.length * 3 := by
      have := (List.getElem?_eq_some_iff.1 hj).1
      omega
    rw [hown.cellAt _ hj2, ← rowCells_drop_get]
    exact hj
  have hfit : k * 3 + (rowCells (l.drop (k + 1))).length ≤ cur.toList.length := by rw [hdl, hcur]; omega
  have hone2 : ∀ u ∈ rowCells (l.drop (k + 1)), u.oneCell' = true := fun u hu => hone u (rowCells_drop_mem hu)
  have HGD := Lib.hid hgd
  have HSR := Lib.hid hsr
  have HFIT := Lib.hid hfit
  have HDL := Lib.hid hdl
  have HONE := Lib.hid hone2
  have HT := Lib.hid htake
  have HN := Lib.hid hn0
  have HCUR := Lib.hid hcur
  rw [hn0] at hk hnc hm
  have hv : (.slice (some ⟨g, 0, none⟩) l.length cap : Value) = .slice (some ⟨g, 0, none⟩) (n0 + 1) cap := by rw [hn0]
  rw [hv]
  clear hown hg htake hlen hgd hsr hfit hdl hone2 hone hv hn0 hcur
  have hN : k + (n0 - k) = n0 := by omega
  have HNN := Lib.hid hN
  clear hN
  have w3 : ((k : Int) + 1).toNat = k + 1 := by omega
  have hb1 : ((k : Int) == (k : Int) + 1) = false := by rw [beq_eq_false_iff_ne]; omega
  have hro : k + (n0 - k) ≤ cap := by omega
  have HRO := Lib.hid hro
  clear hro
  by_cases hck : cap = k + 1
  · obtain rfl : k = n0 := by omega
    subst hck
    rw [Nat.sub_self, Nat.zero_mul] at HDL
    go_enter Try.func33, Try.ntmps33
    go_wp2_with fail
    have w2 : (0 : Int) ≤ (k : Int) + 1 := by omega
    have w4 : (k : Int) + 1 ≤ (k : Int) + 1 := by omega
    have w5 : (k : Int) ≤ (k : Int) + 1 := by omega
    go_region_law (refine step_append_row (o := ⟨some 26, _, _, _, _, _⟩) rfl (.tmp 22) (.tmp 25) 22 rfl 35 i0 3 Try.underlying22 hi0 hz1 g k (k + 1) ?as1 cur.toList HGD.out (some ⟨g, 0, none⟩) 0 0 (rowCells (l.drop (k + 1))) ?ax (fun h => absurd h (Nat.lt_irrefl 0)) ⟨_, rfl⟩ HDL.out HONE.out (by decide) k rfl (Nat.le_succ k) HFIT.out ?_; (case as1 => (simp [Act.eval, Act.put]; done)); (case ax => (simp [Act.eval, Act.put]; done)); intro y2 hg2 hgr2)
    clear w2 w3 w4 w5
    have hsl : (splice cur.toList (k * 3) (rowCells (l.drop (k + 1)))).length = (k + 1) * 3 := by rw [length_splice _ _ _ HFIT.out, HCUR.out]
    have hcl : k * 3 + (Builtin.zeroCells (Value.agg #[.string .empty, .string .empty, .slice none 0 0]).cells 1).toList.length ≤ (splice cur.toList (k * 3) (rowCells (l.drop (k + 1)))).length := by
      rw [hsl, Array.length_toList, size_zeroCells]; simp [Value.cells]; omega
    have HCL := Lib.hid hcl
    have HSL := Lib.hid hsl
    clear hcl hsl
    go_wp2_with ((with_reducible refine wpList_clear_row (o := ⟨none, .call { callee := .builtin .clear, args := #[.tmp 31], argTypes := #[22] }, _, _, _, _⟩) ?agd (.tmp 31) 22 ?ao 35 i0 (.agg #[.string .empty, .string .empty, .slice none 0 0]) Try.underlying22 hi0 hz0 g (k * 3) 1 ((k + 1) - k) ?as2 (splice cur.toList (k * 3) (rowCells (l.drop (k + 1)))) 35 hg2.out zero_one HCL.out ?an1 ?_); rotate_right 1; intro y3 hg3 hgr3)
    case agd => rfl
    case ao => rfl
    case as2 => rw [show k + 1 - k = 1 by omega]; rfl
    case an1 => exact Nat.zero_lt_one
    go_ret
    refine ⟨.slice (some ⟨g, 0, none⟩) k (k + 1), rfl, ?_, ?_⟩
    · rw [show l.length - 1 = k by rw [HN.out]; rfl]
      refine ⟨by rw [rowCells_length, List.length_eraseIdx, HN.out, if_pos hk]; rfl, .inr ⟨g, (k + 1), _, rfl, hBg, hg3.out, by omega, hcm, ?_, ?_⟩⟩
      · rw [List.size_toArray, length_splice _ _ _ HCL.out, HSL.out]
      · exact delete_splice cur.toList l _ k k HN.out hk HT.out
    · exact ⟨hgr3.os.trans hgr2.os, hgr3.tape.trans hgr2.tape, hgr3.output.trans hgr2.output, Nat.le_trans hgr2.size hgr3.size, fun k hk hne => (hgr3.block k (Nat.lt_of_lt_of_le hk hgr2.size) hne).trans (hgr2.block k hk hne)⟩
  · go_enter Try.func33, Try.ntmps33
    go_wp2_with fail
    have w1 : (k : Int) ≤ (n0 : Int) + 1 := by omega
    have w2 : (0 : Int) ≤ (k : Int) + 1 := by omega
    have w4 : (k : Int) + 1 ≤ (n0 : Int) + 1 := by omega
    have w5 : (k : Int) ≤ (cap : Int) := by omega
    go_region_law (refine step_append_row (o := ⟨some 26, _, _, _, _, _⟩) rfl (.tmp 22) (.tmp 25) 22 rfl 35 i0 3 Try.underlying22 hi0 hz1 g k cap ?hs cur.toList HGD.out (some ⟨g, (k + 1) * 3, none⟩) (n0 - k) (cap - (k + 1)) (rowCells (l.drop (k + 1))) ?hx (fun _ => ⟨_, rfl, HSR.out⟩) ⟨_, rfl⟩ HDL.out HONE.out (by decide) n0 HNN.out HRO.out HFIT.out ?_; (case hs => (simp [Act.eval, Act.put]; done)); (case hx => (simp [Act.eval, Act.put]; done)); intro y2 hg2 hgr2)
    clear w1 w2 w3 w4 w5
    have hsl : (splice cur.toList (k * 3) (rowCells (l.drop (k + 1)))).length = cap * 3 := by rw [length_splice _ _ _ HFIT.out, HCUR.out]
    have hcl : n0 * 3 + (Builtin.zeroCells (Value.agg #[.string .empty, .string .empty, .slice none 0 0]).cells 1).toList.length ≤ (splice cur.toList (k * 3) (rowCells (l.drop (k + 1)))).length := by
      rw [hsl, Array.length_toList, size_zeroCells]; simp [Value.cells]; omega
    have HCL := Lib.hid hcl
    have HSL := Lib.hid hsl
    clear hcl hsl
    have hcn : ¬ cap = n0 := by omega
    go_wp2_with ((with_reducible refine wpList_clear_row (o := ⟨none, .call { callee := .builtin .clear, args := #[.tmp 31], argTypes := #[22] }, _, _, _, _⟩) ?hgd (.tmp 31) 22 ?ho 35 i0 (.agg #[.string .empty, .string .empty, .slice none 0 0]) Try.underlying22 hi0 hz0 g (n0 * 3) 1 (cap - n0) ?hs2 (splice cur.toList (k * 3) (rowCells (l.drop (k + 1)))) 35 hg2.out zero_one HCL.out ?hn1 ?_); rotate_right 1; intro y3 hg3 hgr3)
    case hgd => rfl
    case ho => rfl
    case hs2 => rfl
    case hn1 => exact Nat.zero_lt_one
    go_ret
    refine ⟨.slice (some ⟨g, 0, none⟩) n0 cap, rfl, ?_, ?_⟩
    · rw [show l.length - 1 = n0 by rw [HN.out]; rfl]
      refine ⟨by rw [rowCells_length, List.length_eraseIdx, HN.out, if_pos hk]; rfl, .inr ⟨g, cap, _, rfl, hBg, hg3.out, by omega, hcm, ?_, ?_⟩⟩
      · rw [List.size_toArray, length_splice _ _ _ HCL.out, HSL.out]
      · exact delete_splice cur.toList l _ k n0 HN.out hk HT.out
    · exact ⟨hgr3.os.trans hgr2.os, hgr3.tape.trans hgr2.tape, hgr3.output.trans hgr2.output, Nat.le_trans hgr2.size hgr3.size, fun k hk hne => (hgr3.block k (Nat.lt_of_lt_of_le hk hgr2.size) hne).trans (hgr2.block k hk hne)⟩
end Go.Proofs.Ytfpdfhncifcghaa
