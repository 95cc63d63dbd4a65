/- Lists of entries in memory. -/
import Derived.Test.YthlghmechldegaaI
import Derived.Laws.OwnMore
import Derived.Laws.AppendOwn
import Derived.Lib.AppendZeros
namespace Go
theorem wpList_append_run {P : Program} {w : World} {ops : Array Oper} {rest : List Oper} {o : Oper} {a : Act} {Q : Exit → Act → World → Prop} (hgd : o.guard = none) (s x : Operand) (t : TypeId)
    (ho : o.op = .call { callee := .builtin .append, args := #[s, x], argTypes := #[t, t] }) (v u r : Value) (hs : a.eval s = v) (hx : a.eval x = u) (w' : World)
    (hrun : (Builtin.append_ #[t, t] o.type #[v, u]).run P w = .ok r w') (h : wpList P ops Q rest (a.put o.dst r) w') : wpList P ops Q (o :: rest) a w := by
  refine wpList_plain hgd fun K hK => ?_
  unfold Oper.wp
  simp [execOp, ho, resolve, invoke, builtin, hs, hx, hrun, Result.andThen]
  exact hK _ _ h
theorem wpList_append_run2 {P : Program} {w : World} {ops : Array Oper} {rest : List Oper} {o : Oper} {a : Act} {Q : Exit → Act → World → Prop} (hgd : o.guard = none) (s x : Operand) (t t2 : TypeId)
    (ho : o.op = .call { callee := .builtin .append, args := #[s, x], argTypes := #[t, t2] }) (v u r : Value) (hs : a.eval s = v) (hx : a.eval x = u) (w' : World)
    (hrun : (Builtin.append_ #[t, t2] o.type #[v, u]).run P w = .ok r w') (h : wpList P ops Q rest (a.put o.dst r) w') : wpList P ops Q (o :: rest) a w := by
  refine wpList_plain hgd fun K hK => ?_
  unfold Oper.wp
  simp [execOp, ho, resolve, invoke, builtin, hs, hx, hrun, Result.andThen]
  exact hK _ _ h
end Go
namespace Go.Proofs.Ythlghmechldegaa
open Go.RowKit Go.Deep Go.Joins
set_option maxRecDepth 100000
theorem ret_string {a b : ByteArray} (h : a = b) : Ending.returned (.string a) = .returned (.string b) := by rw [h]
/-- The slice value 'v' reads as 'n' elements of 'size' cells each, which hold 'cells'. -/
def Reads (w : World) (v : Value) (size n : Nat) (cells : List Value) : Prop :=
  cells.length = n * size ∧ ((v = .slice none 0 0 ∧ n = 0) ∨
    ∃ a cap, v = .slice (some a) n cap ∧ n ≤ cap ∧ cap ≤ maxLen ∧ ∀ j u, cells[j]? = some u → w.cell? (a.add j) = some u)
theorem lt_of_cell {w : World} {a : Addr} {v : Value} (h : w.cell? a = some v) : a.block < w.heap.size := World.block_lt_of_cell? w a h
theorem below_cell {w w' : World} {a : Addr} {v : Value} (hb : Below w.heap.size w w') (h : w.cell? a = some v) : w'.cell? a = some v :=
  (hb.cell (lt_of_cell h)).trans h
theorem Reads.below {w w' : World} {v : Value} {size n : Nat} {cells : List Value} (h : Reads w v size n cells) (hb : Below w.heap.size w w') : Reads w' v size n cells := by
  obtain ⟨hl, h⟩ := h
  refine ⟨hl, ?_⟩
  rcases h with h | ⟨a, cap, hv, h1, h2, hc⟩
  · exact .inl h
  · exact .inr ⟨a, cap, hv, h1, h2, fun j u hu => below_cell hb (hc j u hu)⟩
theorem Reads.is {w : World} {v : Value} {size n : Nat} {cells : List Value} (h : Reads w v size n cells) : ∃ p cap, v = .slice p n cap := by
  rcases h.2 with ⟨rfl, rfl⟩ | ⟨a, cap, rfl, _⟩
  · exact ⟨_, _, rfl⟩
  · exact ⟨_, _, rfl⟩
theorem spot_none {w : World} {a : Addr} {v : Value} (h : w.cell? a = some v) : a.spot = none := by
  unfold World.cell? at h
  split at h
  · split at h
    · cases h
    · rename_i hs; simpa using hs
  · cases h
theorem add_lit (b off j : Nat) : (⟨b, off, none⟩ : Addr).add j = ⟨b, off + j, none⟩ := by
  unfold Addr.add; split <;> simp_all
theorem Reads.at {w : World} {v : Value} {size n : Nat} {cells : List Value} (h : Reads w v size n cells) (h0 : 0 < n * size) :
    ∃ b off cap, v = .slice (some ⟨b, off, none⟩) n cap ∧ n ≤ cap ∧ cap ≤ maxLen ∧ b < w.heap.size ∧ ∀ j u, cells[j]? = some u → w.cell? ⟨b, off + j, none⟩ = some u := by
  obtain ⟨hl, h⟩ := h
  rcases h with ⟨_, rfl⟩ | ⟨a, cap, hv, h1, h2, hc⟩
  · omega
  · obtain ⟨u, hu⟩ : ∃ u, cells[0]? = some u := ⟨cells[0]'(by omega), List.getElem?_eq_getElem _⟩
    have hc0 := hc 0 u hu
    have ha0 : a.add 0 = a := by simp [Addr.add]
    rw [ha0] at hc0
    have hs := spot_none hc0
    have hb := lt_of_cell hc0
    obtain ⟨b, off, spot⟩ := a
    dsimp at hs hb
    subst hs
    exact ⟨b, off, cap, hv, h1, h2, hb, fun j u hu => by rw [← add_lit]; exact hc j u hu⟩
theorem heap_alloc_new (w : World) (o : Obj) : (w.alloc o).heap[w.heap.size]? = some o := by
  show (w.heap.push o)[w.heap.size]? = _
  rw [Array.getElem?_push, if_pos rfl]
theorem heap_alloc_old {w : World} (o : Obj) {k : Nat} (h : k < w.heap.size) : (w.alloc o).heap[k]? = w.heap[k]? := Below.heap_alloc _ _ _ h

/-- Of what was there only the blocks of S may have turned. -/
structure Touch (w w' : World) (S : Nat → Prop) : Prop where
  os : w'.os = w.os
  tape : w'.tape = w.tape
  output : w'.output = w.output
  size : w.heap.size ≤ w'.heap.size
  block : ∀ k, k < w.heap.size → ¬ S k → w'.heap[k]? = w.heap[k]?
theorem Touch.refl (w : World) (S : Nat → Prop) : Touch w w S := ⟨rfl, rfl, rfl, Nat.le_refl _, fun _ _ _ => rfl⟩
theorem Touch.trans {a b c : World} {S : Nat → Prop} (h : Touch a b S) (k : Touch b c S) : Touch a c S :=
  ⟨k.os.trans h.os, k.tape.trans h.tape, k.output.trans h.output, Nat.le_trans h.size k.size, fun i hi hs => (k.block i (Nat.lt_of_lt_of_le hi h.size) hs).trans (h.block i hi hs)⟩
theorem Touch.mono {w w' : World} {S T : Nat → Prop} (h : Touch w w' S) (hST : ∀ k, k < w.heap.size → S k → T k) : Touch w w' T :=
  ⟨h.os, h.tape, h.output, h.size, fun k hk ht => h.block k hk fun hs => ht (hST k hk hs)⟩
theorem Touch.drew {a w : World} {S : Nat → Prop} (h : Touch a w S) : Touch a w.drew S := ⟨h.os, h.tape, h.output, h.size, h.block⟩
theorem Touch.alloc {a w : World} {S : Nat → Prop} (h : Touch a w S) (o : Obj) : Touch a (w.alloc o) S :=
  h.trans ⟨rfl, rfl, rfl, by simp, fun _ hk _ => heap_alloc_old _ hk⟩
theorem Touch.setCell {a w : World} {S : Nat → Prop} (h : Touch a w S) {p : Addr} (hp : S p.block ∨ a.heap.size ≤ p.block) (u : Value) : Touch a (w.setCell p u) S :=
  ⟨h.os, h.tape, h.output, by simp [World.setCell]; exact h.size, fun k hk hs => (Below.heap_setCell _ _ _ _ (fun e => by
    rcases hp with hp | hp
    · exact hs (e ▸ hp)
    · omega)).trans (h.block k hk hs)⟩
theorem Touch.setRow {a w : World} {S : Nat → Prop} (h : Touch a w S) {g : Nat} (hp : S g ∨ a.heap.size ≤ g) (cs : Array Value) : Touch a (w.setRow g cs) S :=
  ⟨h.os, h.tape, h.output, by rw [size_setRow]; exact h.size, fun k hk hs => (setRow_other w g k cs (fun e => by
    rcases hp with hp | hp
    · exact hs (e ▸ hp)
    · omega)).trans (h.block k hk hs)⟩
theorem touch_of_below {w w' : World} (h : Below w.heap.size w w') (S : Nat → Prop) : Touch w w' S := ⟨h.os, h.tape, h.output, h.size, fun k hk _ => h.block k hk⟩
theorem Touch.below {a w w' : World} {S : Nat → Prop} {B : Nat} (hb : Below B a w) (h : Touch w w' S) (hS : ∀ k, S k → B ≤ k) (hB : B ≤ w.heap.size) : Below B a w' :=
  hb.trans ⟨h.os, h.tape, h.output, h.size, fun k hk => h.block k (by omega) fun hs => by have := hS k hs; omega⟩

theorem reads_of_owns {w : World} {B n size : Nat} {e : TypeId} {v : Value} {xs : List Value} (h : w.ownsRow B e size v n xs) : Reads w v size n xs := by
  refine ⟨h.1, ?_⟩
  rcases h.2 with h2 | ⟨g, cap, cur, hv, hB, hg, h3, h4, h5, h6⟩
  · exact .inl h2
  · refine .inr ⟨⟨g, 0, none⟩, cap, hv, h3, h4, fun j u hu => ?_⟩
    exact h.cells (g := g) (by rw [hv]; rfl) j u hu
theorem owns_same {w w' : World} {B n size : Nat} {e : TypeId} {v : Value} {xs : List Value} (h : w.ownsRow B e size v n xs) (hk : ∀ g, v.ownBlock = some g → w'.heap[g]? = w.heap[g]?) : w'.ownsRow B e size v n xs := by
  refine ⟨h.1, ?_⟩
  rcases h.2 with h2 | ⟨g, cap, cur, h1, h2, h3, r⟩
  · exact .inl h2
  · exact .inr ⟨g, cap, cur, h1, h2, (hk g (by rw [h1]; rfl)).trans h3, r⟩
theorem owns_lt {w : World} {B n size : Nat} {e : TypeId} {v : Value} {xs : List Value} (h : w.ownsRow B e size v n xs) {g : Nat} (hg : v.ownBlock = some g) : B ≤ g ∧ g < w.heap.size := h.lt g hg
theorem owns_below {w w' : World} {B n size : Nat} {e : TypeId} {v : Value} {xs : List Value} (h : w.ownsRow B e size v n xs) (hb : Below w.heap.size w w') : w'.ownsRow B e size v n xs :=
  owns_same h fun _ hg => hb.block _ (owns_lt h hg).2
theorem owns_touch {w w' : World} {B n size : Nat} {e : TypeId} {v : Value} {xs : List Value} {S : Nat → Prop} (h : w.ownsRow B e size v n xs) (hb : Touch w w' S) (hS : ∀ g, v.ownBlock = some g → ¬ S g) : w'.ownsRow B e size v n xs :=
  owns_same h fun g hg => hb.block _ (owns_lt h hg).2 (hS g hg)
theorem owns_base {w : World} {B B' n size : Nat} {e : TypeId} {v : Value} {xs : List Value} (h : w.ownsRow B e size v n xs) (hB : B' ≤ B) : w.ownsRow B' e size v n xs := by
  refine ⟨h.1, ?_⟩
  rcases h.2 with h2 | ⟨g, cap, cur, h1, h2, r⟩
  · exact .inl h2
  · exact .inr ⟨g, cap, cur, h1, Nat.le_trans hB h2, r⟩
theorem owns_block {w : World} {B n size g : Nat} {e : TypeId} {v : Value} {xs : List Value} (h : w.ownsRow B e size v n xs) (hg : v.ownBlock = some g) : ∃ cur, w.heap[g]? = some (.cells cur e (0, 0)) := by
  rcases h.2 with ⟨h1, _⟩ | ⟨g', cap, cur, h1, _, h2, _⟩
  · rw [h1] at hg; cases hg
  · rw [h1] at hg
    simp only [Value.ownBlock, Option.some.injEq] at hg
    subst hg
    exact ⟨cur, h2⟩
/-- Rows of different element types are two blocks. -/
theorem rows_apart {w : World} {B B2 n m s1 s2 g : Nat} {e1 e2 : TypeId} {v u : Value} {xs ys : List Value} (h : w.ownsRow B e1 s1 v n xs) (k : w.ownsRow B2 e2 s2 u m ys) (hne : e1 ≠ e2) (hg : v.ownBlock = some g) : u.ownBlock ≠ some g := by
  intro hu
  obtain ⟨c1, h1⟩ := owns_block h hg
  obtain ⟨c2, h2⟩ := owns_block k hu
  rw [h1] at h2
  simp only [Option.some.injEq, Obj.cells.injEq] at h2
  exact hne h2.2.1
theorem not_at {w : World} {B n size pb : Nat} {e t : TypeId} {v : Value} {xs : List Value} {c : Array Value} (h : w.ownsRow B e size v n xs) (hp : w.heap[pb]? = some (.cells c t (0, 0))) (hne : e ≠ t) : v.ownBlock ≠ some pb := by
  intro hb
  obtain ⟨c2, h2⟩ := owns_block h hb
  rw [hp] at h2
  simp only [Option.some.injEq, Obj.cells.injEq] at h2
  exact hne h2.2.1.symm
theorem owns_shape {w : World} {B n size : Nat} {e : TypeId} {v : Value} {xs : List Value} (h : w.ownsRow B e size v n xs) : ∃ p cap, v = .slice p n cap := by
  rcases h.2 with ⟨h1, h2⟩ | ⟨g, cap, _, h1, _⟩
  · exact ⟨_, _, h2 ▸ h1⟩
  · exact ⟨_, _, h1⟩
theorem touch_of_grown {w w' : World} {row : Option Nat} (h : w.grownBy w' row) : Touch w w' (fun k => some k = row) := ⟨h.os, h.tape, h.output, h.size, fun k hk hne => h.block k hk hne⟩
/-- append of what is read to a row of one's own. -/
theorem app_row {w : World} {B e size : Nat} {t ty : TypeId} {i : TypeInfo} {z : Value} {bs : Nat} (ht : Try.prog.underlying t = some (.slice e)) (hi : Try.prog.info? e = some i) (hz : i.zero = some z) (hs1 : i.size = size) (hby : i.bytes = bs) (hzs : z.cells.size = size) (h0 : 0 < size)
    {v s : Value} {n m : Nat} {xs ys : List Value} (ho : w.ownsRow B e size v n xs) (hr : Reads w s size m ys) (h1 : ∀ u ∈ ys, u.oneCell' = true) (h63 : n + m ≤ maxLen) (hb : (n + m) * bs ≤ 140737488355328) (hB : B ≤ w.heap.size) :
    ∃ q c w', (Builtin.append_ #[t, t] ty #[v, s]).run Try.prog w = .ok (.slice q (n + m) c) w' ∧ w'.ownsRow B e size (.slice q (n + m) c) (n + m) (xs ++ ys) ∧ Touch w w' (fun k => some k = v.ownBlock) := by
  rcases hr.2 with ⟨rfl, rfl⟩ | ⟨a, cap, rfl, _, _, hc⟩
  · have hys : ys = [] := List.eq_nil_of_length_eq_zero (by have := hr.1; omega)
    obtain ⟨q, c, rfl⟩ := owns_shape ho
    subst hys
    refine ⟨q, c, w, run_append_owned_none (P := Try.prog) w B t ty e i size ht hi _ n xs ho, ?_, Touch.refl _ _⟩
    rw [List.append_nil]; exact ho
  · obtain ⟨v', w', hrun, ho', hgr, _⟩ := run_append_own (P := Try.prog) w B t ty e i z size bs ht hi hz hs1 hby hzs h0 v n xs ho a m cap ys hr.1 hc h1 h63 hb hB
    obtain ⟨q, c, rfl⟩ := owns_shape ho'
    exact ⟨q, c, w', hrun, ho', touch_of_grown hgr⟩
theorem info36 : ∃ i, Try.prog.info? 36 = some i ∧ i.zero = some (.agg #[.int .u64 0, .int .i64 0, .int .u64 0, .int .i64 0, .int .i64 0, .string ⟨#[]⟩, .bool false, .bool false, .bool false, .bool false, .bool false, .bool false, .bool false]) ∧ i.size = 13 ∧ i.bytes = 64 := by
  obtain ⟨i, h1, h2, h3, h4⟩ := info_parts (show (Try.prog.info? 36).map (fun i => (i.zero, i.size, i.bytes)) = some (some (.agg #[.int .u64 0, .int .i64 0, .int .u64 0, .int .i64 0, .int .i64 0, .string ⟨#[]⟩, .bool false, .bool false, .bool false, .bool false, .bool false, .bool false, .bool false]), 13, 64) by kernel_rfl)
  exact ⟨i, h1, h2, h3, h4⟩
/-- The cells of a list of entries. -/
def eC (L : List En) : List Value := L.flatMap enL
theorem enL_length (e : En) : (enL e).length = 13 := rfl
theorem eC_length (L : List En) : (eC L).length = L.length * 13 := by
  induction L with
  | nil => rfl
  | cons a l ih => unfold eC at *; rw [List.flatMap_cons, List.length_append, ih, enL_length, List.length_cons]; omega
theorem eC_append (L M : List En) : eC (L ++ M) = eC L ++ eC M := by unfold eC; rw [List.flatMap_append]
theorem eC_one (L : List En) : ∀ u ∈ eC L, u.oneCell' = true := by
  intro u hu
  obtain ⟨e, _, he⟩ := List.mem_flatMap.1 hu
  simp only [enL, List.mem_cons, List.not_mem_nil, or_false] at he
  rcases he with rfl | rfl | rfl | rfl | rfl | rfl | rfl | rfl | rfl | rfl | rfl | rfl | rfl <;> rfl
theorem eC_get (L : List En) (k : Nat) (hk : k < L.length) (i : Nat) (hi : i < 13) : (eC L)[13 * k + i]? = (enL L[k])[i]? := by
  induction L generalizing k with
  | nil => simp at hk
  | cons a l ih =>
    have e : eC (a :: l) = enL a ++ eC l := by unfold eC; rw [List.flatMap_cons]
    rw [e]
    cases k with
    | zero =>
      rw [List.getElem?_append_left (by rw [enL_length]; omega)]
      simp
    | succ k =>
      rw [List.getElem?_append_right (by rw [enL_length]; omega), enL_length, show 13 * (k + 1) + i - 13 = 13 * k + i by omega, ih k (by simpa using hk)]
      simp
/-- A value that reads as this list. -/
def EAt (w : World) (v : Value) (L : List En) : Prop := Reads w v 13 L.length (eC L)
def OwnE (w : World) (B : Nat) (v : Value) (L : List En) : Prop := w.ownsRow B 36 13 v L.length (eC L)
theorem EAt.below {w w' : World} {v : Value} {L : List En} (h : EAt w v L) (hb : Below w.heap.size w w') : EAt w' v L := Reads.below h hb
theorem OwnE.at {w : World} {B : Nat} {v : Value} {L : List En} (h : OwnE w B v L) : EAt w v L := reads_of_owns h
theorem EAt.le {w : World} {v : Value} {L : List En} (h : EAt w v L) : L.length ≤ 9223372036854775807 := by
  rcases h.2 with ⟨_, h⟩ | ⟨a, cap, _, h1, h2, _⟩
  · omega
  · unfold maxLen at h2; omega
theorem add_add' (a : Addr) (i j : Nat) : (a.add i).add j = a.add (i + j) := Go.Deep.add_add a i j
theorem ent_load (w : World) (g o : Nat) (e : En) (h : ∀ j v, (enL e)[j]? = some v → w.cell? ⟨g, o + j, none⟩ = some v) : (Instr.loadAt 36 (.pointer (some ⟨g, o, none⟩))).run Try.prog w = .ok (enV e) w := by
  have hl : (loadCells ⟨g, o, none⟩ (enL e).length).run Try.prog w = .ok (enL e).toArray w :=
    run_loadCells_list (P := Try.prog) w ⟨g, o, none⟩ (enL e) (fun j v hv => by rw [add_lit]; exact h j v hv)
  cases hq : Try.prog.info? 36 with
  | none => have := size36; simp [hq] at this
  | some i =>
    have hs : i.size = (enL e).length := by have := size36; rw [enL_length]; simpa [hq] using this
    have hagg : (isAgg 36).run Try.prog w = .ok true w := by
      unfold isAgg
      rw [Sem.run_bind, run_underlying Try.underlying36 w]
      rfl
    simp [Instr.loadAt, Instr.sureAddr, loadVar, Sem.run_bind, hagg, sizeOf, typeInfo, hq, hs, hl, Result.andThen, enC]
theorem term_load (w : World) (g o : Nat) (e : En) (h : ∀ j v, (enL e)[j]? = some v → w.cell? ⟨g, o + j, none⟩ = some v) : (Instr.loadAt 22 (.pointer (some ⟨g, o, none⟩))).run Try.prog w = .ok (.int .u64 e.term) w := by
  have hcell : w.cell? ⟨g, o, none⟩ = some (.int .u64 e.term) := h 0 _ rfl
  have hagg : (isAgg 22).run Try.prog w = .ok false w := by
    unfold isAgg
    rw [Sem.run_bind, run_underlying Try.underlying22 w]
    rfl
  simp [Instr.loadAt, Instr.sureAddr, loadVar, Sem.run_bind, Result.andThen, hagg, run_load, hcell]
theorem run_idx (w : World) (g off n c j : Nat) (hj : j < n) : (Instr.indexAt 25 (.slice (some ⟨g, off, none⟩) n c) (.int .i64 (j : Int))).run Try.prog w = .ok (.pointer (some ⟨g, off + j * 13, none⟩)) w := by
  have hs : (sizeOf 36).run Try.prog w = .ok 13 w := by
    cases hq : Try.prog.info? 36 with
    | none => have := size36; simp [hq] at this
    | some i =>
      have h13 : i.size = 13 := by have := size36; simpa [hq] using this
      simp [sizeOf, typeInfo, Sem.run_bind, hq, h13, Result.andThen]
  simp [Instr.indexAt, run_underlying Try.underlying25, asIntOf, hs, hj, Sem.run_bind, Result.andThen, add_lit]
theorem exec_ix {P : Program} {ρ : Operand → Value} {o : Oper} {t : TypeId} {x i : Operand} {v u r : Value} {w : World} (ho : o.op = .indexAddr t x i) (hx : ρ x = v) (hi : ρ i = u) (hrun : (Instr.indexAt t v u).run P w = .ok r w) : (execOp ρ o).run P w = .ok (.value r) w := by
  simp [execOp, ho, hx, hi, hrun, Result.andThen]
/-- Where the entries of a list lie. -/
theorem ent_at {W : World} {q : Option Addr} {c : Nat} {L : List En} (h : EAt W (.slice q L.length c) L) (h0 : 0 < L.length) : ∃ g off, q = some ⟨g, off, none⟩ ∧ ∀ j (hj : j < L.length), ∀ w, Below W.heap.size W w → ∀ i v, (enL L[j])[i]? = some v → w.cell? ⟨g, off + j * 13 + i, none⟩ = some v := by
  obtain ⟨g, off, cap, e, _, _, hg, hc⟩ := Reads.at h (by omega)
  simp only [Value.slice.injEq] at e
  refine ⟨g, off, e.1, fun j hj w hb i v hv => ?_⟩
  have hi : i < 13 := by have := (List.getElem?_eq_some_iff.1 hv).1; rwa [enL_length] at this
  have k := hc (13 * j + i) v (by rw [eC_get L j hj i hi]; exact hv)
  rw [show off + j * 13 + i = off + (13 * j + i) by omega]
  exact (hb.cell (p := ⟨g, off + (13 * j + i), none⟩) hg).trans k
end Go.Proofs.Ythlghmechldegaa
