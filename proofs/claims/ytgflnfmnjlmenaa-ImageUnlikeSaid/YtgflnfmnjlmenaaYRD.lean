/- Memory that the call owns. -/
import Derived.Test.YtgflnfmnjlmenaaYRC
import Derived.Laws.OwnMore
namespace Go.Proofs.Ytgflnfmnjlmenaa
open Go.RowKit Go.Deep Go.Joins
theorem heap_alloc_new (w : World) (o : Obj) : (w.alloc o).heap[w.heap.size]? = some o := by
  show (w.heap.push o)[w.heap.size]? = _
  rw [Array.getElem?_push, if_pos rfl]
theorem heap_alloc_old {w : World} (o : Obj) {k : Nat} (h : k < w.heap.size) : (w.alloc o).heap[k]? = w.heap[k]? := Below.heap_alloc _ _ _ h

/-- Of what was there only the blocks of S may have turned. -/
structure Touch (w w' : World) (S : Nat → Prop) : Prop where
  os : w'.os = w.os
  tape : w'.tape = w.tape
  output : w'.output = w.output
  size : w.heap.size ≤ w'.heap.size
  block : ∀ k, k < w.heap.size → ¬ S k → w'.heap[k]? = w.heap[k]?
theorem Touch.refl (w : World) (S : Nat → Prop) : Touch w w S := ⟨rfl, rfl, rfl, Nat.le_refl _, fun _ _ _ => rfl⟩
theorem Touch.trans {a b c : World} {S : Nat → Prop} (h : Touch a b S) (k : Touch b c S) : Touch a c S :=
  ⟨k.os.trans h.os, k.tape.trans h.tape, k.output.trans h.output, Nat.le_trans h.size k.size, fun i hi hs => (k.block i (Nat.lt_of_lt_of_le hi h.size) hs).trans (h.block i hi hs)⟩
theorem Touch.mono {w w' : World} {S T : Nat → Prop} (h : Touch w w' S) (hST : ∀ k, k < w.heap.size → S k → T k) : Touch w w' T :=
  ⟨h.os, h.tape, h.output, h.size, fun k hk ht => h.block k hk fun hs => ht (hST k hk hs)⟩
theorem Touch.drew {a w : World} {S : Nat → Prop} (h : Touch a w S) : Touch a w.drew S := ⟨h.os, h.tape, h.output, h.size, h.block⟩
theorem Touch.alloc {a w : World} {S : Nat → Prop} (h : Touch a w S) (o : Obj) : Touch a (w.alloc o) S :=
  h.trans ⟨rfl, rfl, rfl, by simp, fun _ hk _ => heap_alloc_old _ hk⟩
theorem Touch.setCell {a w : World} {S : Nat → Prop} (h : Touch a w S) {p : Addr} (hp : S p.block ∨ a.heap.size ≤ p.block) (u : Value) : Touch a (w.setCell p u) S :=
  ⟨h.os, h.tape, h.output, by simp [World.setCell]; exact h.size, fun k hk hs => (Below.heap_setCell _ _ _ _ (fun e => by
    rcases hp with hp | hp
    · exact hs (e ▸ hp)
    · omega)).trans (h.block k hk hs)⟩
theorem Touch.setRow {a w : World} {S : Nat → Prop} (h : Touch a w S) {g : Nat} (hp : S g ∨ a.heap.size ≤ g) (cs : Array Value) : Touch a (w.setRow g cs) S :=
  ⟨h.os, h.tape, h.output, by rw [size_setRow]; exact h.size, fun k hk hs => (setRow_other w g k cs (fun e => by
    rcases hp with hp | hp
    · exact hs (e ▸ hp)
    · omega)).trans (h.block k hk hs)⟩
theorem touch_of_below {w w' : World} (h : Below w.heap.size w w') (S : Nat → Prop) : Touch w w' S := ⟨h.os, h.tape, h.output, h.size, fun k hk _ => h.block k hk⟩
theorem Touch.below {a w w' : World} {S : Nat → Prop} {B : Nat} (hb : Below B a w) (h : Touch w w' S) (hS : ∀ k, S k → B ≤ k) (hB : B ≤ w.heap.size) : Below B a w' :=
  hb.trans ⟨h.os, h.tape, h.output, h.size, fun k hk => h.block k (by omega) fun hs => by have := hS k hs; omega⟩

/-! ### Rows of bytes and of marks that the call owns -/
def OwnD (w : World) (B : Nat) (v : Value) (D : List UInt8) : Prop := w.ownsRow B 5 1 v D.length (dC D)
def OwnM (w : World) (B : Nat) (v : Value) (M : List Int) : Prop := w.ownsRow B 22 1 v M.length (mC M)
theorem reads_of_owns {w : World} {B n size : Nat} {e : TypeId} {v : Value} {xs : List Value} (h : w.ownsRow B e size v n xs) : Reads w v size n xs := by
  refine ⟨h.1, ?_⟩
  rcases h.2 with h2 | ⟨g, cap, cur, hv, hB, hg, h3, h4, h5, h6⟩
  · exact .inl h2
  · refine .inr ⟨⟨g, 0, none⟩, cap, hv, h3, h4, fun j u hu => ?_⟩
    exact h.cells (g := g) (by rw [hv]; rfl) j u hu
theorem OwnD.at {w : World} {B : Nat} {v : Value} {D : List UInt8} (h : OwnD w B v D) : DAt w v D := reads_of_owns h
theorem OwnM.at {w : World} {B : Nat} {v : Value} {M : List Int} (h : OwnM w B v M) : MAt w v M := reads_of_owns h
theorem owns_same {w w' : World} {B n size : Nat} {e : TypeId} {v : Value} {xs : List Value} (h : w.ownsRow B e size v n xs) (hk : ∀ g, v.ownBlock = some g → w'.heap[g]? = w.heap[g]?) : w'.ownsRow B e size v n xs := by
  refine ⟨h.1, ?_⟩
  rcases h.2 with h2 | ⟨g, cap, cur, h1, h2, h3, r⟩
  · exact .inl h2
  · exact .inr ⟨g, cap, cur, h1, h2, (hk g (by rw [h1]; rfl)).trans h3, r⟩
theorem owns_lt {w : World} {B n size : Nat} {e : TypeId} {v : Value} {xs : List Value} (h : w.ownsRow B e size v n xs) {g : Nat} (hg : v.ownBlock = some g) : B ≤ g ∧ g < w.heap.size := h.lt g hg
theorem owns_below {w w' : World} {B n size : Nat} {e : TypeId} {v : Value} {xs : List Value} (h : w.ownsRow B e size v n xs) (hb : Below w.heap.size w w') : w'.ownsRow B e size v n xs :=
  owns_same h fun _ hg => hb.block _ (owns_lt h hg).2
theorem OwnD.below {w w' : World} {B : Nat} {v : Value} {D : List UInt8} (h : OwnD w B v D) (hb : Below w.heap.size w w') : OwnD w' B v D := owns_below h hb
theorem OwnM.below {w w' : World} {B : Nat} {v : Value} {M : List Int} (h : OwnM w B v M) (hb : Below w.heap.size w w') : OwnM w' B v M := owns_below h hb
theorem owns_touch {w w' : World} {B n size : Nat} {e : TypeId} {v : Value} {xs : List Value} {S : Nat → Prop} (h : w.ownsRow B e size v n xs) (hb : Touch w w' S) (hS : ∀ g, v.ownBlock = some g → ¬ S g) : w'.ownsRow B e size v n xs :=
  owns_same h fun g hg => hb.block _ (owns_lt h hg).2 (hS g hg)
theorem owns_base {w : World} {B B' n size : Nat} {e : TypeId} {v : Value} {xs : List Value} (h : w.ownsRow B e size v n xs) (hB : B' ≤ B) : w.ownsRow B' e size v n xs := by
  refine ⟨h.1, ?_⟩
  rcases h.2 with h2 | ⟨g, cap, cur, h1, h2, r⟩
  · exact .inl h2
  · exact .inr ⟨g, cap, cur, h1, Nat.le_trans hB h2, r⟩
theorem owns_block {w : World} {B n size g : Nat} {e : TypeId} {v : Value} {xs : List Value} (h : w.ownsRow B e size v n xs) (hg : v.ownBlock = some g) : ∃ cur, w.heap[g]? = some (.cells cur e (0, 0)) := by
  rcases h.2 with ⟨h1, _⟩ | ⟨g', cap, cur, h1, _, h2, _⟩
  · rw [h1] at hg; cases hg
  · rw [h1] at hg
    simp only [Value.ownBlock, Option.some.injEq] at hg
    subst hg
    exact ⟨cur, h2⟩
/-- Rows of different element types are two blocks. -/
theorem rows_apart {w : World} {B B2 n m s1 s2 g : Nat} {e1 e2 : TypeId} {v u : Value} {xs ys : List Value} (h : w.ownsRow B e1 s1 v n xs) (k : w.ownsRow B2 e2 s2 u m ys) (hne : e1 ≠ e2) (hg : v.ownBlock = some g) : u.ownBlock ≠ some g := by
  intro hu
  obtain ⟨c1, h1⟩ := owns_block h hg
  obtain ⟨c2, h2⟩ := owns_block k hu
  rw [h1] at h2
  simp only [Option.some.injEq, Obj.cells.injEq] at h2
  exact hne h2.2.1
theorem not_at {w : World} {B n size pb : Nat} {e t : TypeId} {v : Value} {xs : List Value} {c : Array Value} (h : w.ownsRow B e size v n xs) (hp : w.heap[pb]? = some (.cells c t (0, 0))) (hne : e ≠ t) : v.ownBlock ≠ some pb := by
  intro hb
  obtain ⟨c2, h2⟩ := owns_block h hb
  rw [hp] at h2
  simp only [Option.some.injEq, Obj.cells.injEq] at h2
  exact hne h2.2.1.symm
theorem owns_shape {w : World} {B n size : Nat} {e : TypeId} {v : Value} {xs : List Value} (h : w.ownsRow B e size v n xs) : ∃ p cap, v = .slice p n cap := by
  rcases h.2 with ⟨h1, h2⟩ | ⟨g, cap, _, h1, _⟩
  · exact ⟨_, _, h2 ▸ h1⟩
  · exact ⟨_, _, h1⟩
theorem owns_whole {w : World} {B n g : Nat} {e : TypeId} {cur : Array Value} (hB : B ≤ g) (hg : w.heap[g]? = some (.cells cur e (0, 0))) (hn : cur.size = n) (hm : n ≤ maxLen) : w.ownsRow B e 1 (.slice (some ⟨g, 0, none⟩) n n) n cur.toList :=
  ⟨by rw [Array.length_toList, hn, Nat.mul_one], .inr ⟨g, n, cur, rfl, hB, hg, Nat.le_refl _, hm, by omega, by rw [Nat.mul_one, ← hn, ← Array.length_toList, List.take_length]⟩⟩

/-- A variable that is one struct of memory: block z. -/
def RamVar (w : World) (z : Nat) (dv mv : Value) (E : Int) : Prop := w.heap[z]? = some (.cells #[dv, mv, .int .u64 E] 39 (0, 0))
theorem RamVar.lt {w : World} {z : Nat} {dv mv : Value} {E : Int} (h : RamVar w z dv mv E) : z < w.heap.size := (Array.getElem?_eq_some_iff.1 h).1
theorem RamVar.cells {w : World} {z : Nat} {dv mv : Value} {E : Int} (h : RamVar w z dv mv E) :
    w.cell? ⟨z, 0, none⟩ = some dv ∧ w.cell? ⟨z, 1, none⟩ = some mv ∧ w.cell? ⟨z, 2, none⟩ = some (.int .u64 E) := by
  refine ⟨?_, ?_, ?_⟩ <;> rw [cell_of_row w z _ _ 39 (0, 0) h] <;> rfl
theorem RamVar.below {w w' : World} {z : Nat} {dv mv : Value} {E : Int} (h : RamVar w z dv mv E) (hb : Below w.heap.size w w') : RamVar w' z dv mv E := (hb.block z h.lt).trans h
theorem RamVar.touch {w w' : World} {z : Nat} {dv mv : Value} {E : Int} {S : Nat → Prop} (h : RamVar w z dv mv E) (hb : Touch w w' S) (hS : ¬ S z) : RamVar w' z dv mv E := (hb.block z h.lt hS).trans h

theorem RamVar.free {w : World} {z : Nat} {dv mv : Value} {E : Int} (h : RamVar w z dv mv E) (j : Nat) : w.frozen? ⟨z, j, none⟩ = false := by
  unfold World.frozen?
  have h' : w.heap[z]? = some (.cells #[dv, mv, .int .u64 E] 39 (0, 0)) := h
  simp only [h']
  simp
/-- A struct of memory stored into such a variable. -/
theorem RamVar.store {w : World} {z : Nat} {dv mv : Value} {E : Int} (h : RamVar w z dv mv E) (dv' mv' : Value) (E' : Int) :
    RamVar (((w.setCell ⟨z, 0, none⟩ dv').setCell ⟨z, 1, none⟩ mv').setCell ⟨z, 2, none⟩ (.int .u64 E')) z dv' mv' E' := by
  have h' : w.heap[z]? = some (.cells #[dv, mv, .int .u64 E] 39 (0, 0)) := h
  have h1 := heap_setCell_same w z 0 _ 39 dv' h'
  have h2 := heap_setCell_same _ z 1 _ 39 mv' h1
  have h3 := heap_setCell_same _ z 2 _ 39 (.int .u64 E') h2
  exact h3
theorem new3 {w0 : World} {o1 o2 o3 : Obj} {N : Nat} (h : w0.heap.size = N) : (((w0.alloc o1).alloc o2).alloc o3).drew.heap[N]? = some o1 ∧ (((w0.alloc o1).alloc o2).alloc o3).drew.heap[N + 1]? = some o2 ∧ (((w0.alloc o1).alloc o2).alloc o3).drew.heap[N + 1 + 1]? = some o3 := by
  subst h
  refine ⟨?_, ?_, ?_⟩
  · show ((((w0.alloc o1).alloc o2).alloc o3)).heap[w0.heap.size]? = _
    rw [heap_alloc_old _ (by simp; omega), heap_alloc_old _ (by simp), heap_alloc_new]
  · show ((((w0.alloc o1).alloc o2).alloc o3)).heap[w0.heap.size + 1]? = _
    rw [heap_alloc_old _ (by simp)]
    have := heap_alloc_new (w0.alloc o1) o2
    rwa [World.size_alloc] at this
  · show ((((w0.alloc o1).alloc o2).alloc o3)).heap[w0.heap.size + 1 + 1]? = _
    have := heap_alloc_new ((w0.alloc o1).alloc o2) o3
    rwa [World.size_alloc, World.size_alloc] at this

/-! ### make -/
theorem make_d (n : Nat) (h : n ≤ 140737489403904) : ∀ u : World, (Instr.makeSlice 36 (.int .i64 (n : Int)) (.int .i64 (n : Int))).run Try.prog u =
      .ok (.slice (some ⟨u.heap.size, 0, none⟩) n n) (u.alloc (.cells (dC (List.replicate n 0)).toArray 5)) := fun u => by
  obtain ⟨i0, hi, hz0, hz1, hz2⟩ := info_parts (show (Try.prog.info? 5).map (fun i => (i.zero, i.size, i.bytes)) = some (some (.int .u8 0), 1, 1) by kernel_rfl)
  have h := run_make (P := Try.prog) u 36 5 i0 (.int .u8 0) Try.underlying36 hi hz0 .i64 .i64 (n : Int) (n : Int) (by omega) (Int.le_refl _) (by rw [hz2]; omega) (by omega)
  rw [Int.toNat_natCast] at h
  have e : (dC (List.replicate n 0)).toArray = madeCells #[.int .u8 0] n := by
    apply Array.ext'
    rw [toList_madeCells_one]
    simp [dC]
  rw [e]
  simpa [hz1, Value.cells] using h
theorem make_m (n : Nat) (h : n ≤ 17592186044416) : ∀ u : World, (Instr.makeSlice 37 (.int .i64 (n : Int)) (.int .i64 (n : Int))).run Try.prog u =
      .ok (.slice (some ⟨u.heap.size, 0, none⟩) n n) (u.alloc (.cells (mC (List.replicate n 0)).toArray 22)) := fun u => by
  obtain ⟨i0, hi, hz0, hz1, hz2⟩ := info_parts (show (Try.prog.info? 22).map (fun i => (i.zero, i.size, i.bytes)) = some (some (.int .u64 0), 1, 8) by kernel_rfl)
  have h := run_make (P := Try.prog) u 37 22 i0 (.int .u64 0) Try.underlying37 hi hz0 .i64 .i64 (n : Int) (n : Int) (by omega) (Int.le_refl _) (by rw [hz2]; omega) (by omega)
  rw [Int.toNat_natCast] at h
  have e : (mC (List.replicate n 0)).toArray = madeCells #[.int .u64 0] n := by
    apply Array.ext'
    rw [toList_madeCells_one]
    simp [mC]
  rw [e]
  simpa [hz1, Value.cells] using h
/-- Two rows of noughts and the variable that holds them, all new. -/
def Made (w : World) (n m : Nat) (E : Int) (s : Value) (wx : World) : Prop :=
  ∃ z g h, s = .pointer (some ⟨z, 0, none⟩) ∧ RamVar wx z (.slice (some ⟨g, 0, none⟩) n n) (.slice (some ⟨h, 0, none⟩) m m) E ∧ OwnD wx w.heap.size (.slice (some ⟨g, 0, none⟩) n n) (List.replicate n 0) ∧
    OwnM wx w.heap.size (.slice (some ⟨h, 0, none⟩) m m) (List.replicate m 0) ∧ w.heap.size < z ∧ w.heap.size < g ∧ w.heap.size < h ∧ Below (w.heap.size + 1) (w.alloc (.cells #[.slice none 0 0, .slice none 0 0, .int .u64 0] 39)) wx
theorem made_mk {w wx : World} {n m z g h : Nat} {E : Int} (h1 : wx.heap[z]? = some (.cells #[.slice (some ⟨g, 0, none⟩) n n, .slice (some ⟨h, 0, none⟩) m m, .int .u64 E] 39 (0, 0))) (h2 : wx.heap[g]? = some (.cells (dC (List.replicate n 0)).toArray 5 (0, 0)))
    (h3 : wx.heap[h]? = some (.cells (mC (List.replicate m 0)).toArray 22 (0, 0))) (hz : w.heap.size < z) (hg : w.heap.size < g) (hh : w.heap.size < h) (hn : n ≤ maxLen) (hm : m ≤ maxLen)
    (hb : Below (w.heap.size + 1) (w.alloc (.cells #[.slice none 0 0, .slice none 0 0, .int .u64 0] 39)) wx) : Made w n m E (.pointer (some ⟨z, 0, none⟩)) wx := by
  refine ⟨z, g, h, rfl, h1, ?_, ?_, hz, hg, hh, hb⟩
  · have e := owns_whole (n := n) (Nat.le_of_lt hg) h2 (by simp [dC]) hn
    show wx.ownsRow _ _ _ _ _ _
    rw [List.length_replicate]; exact e
  · have e := owns_whole (n := m) (Nat.le_of_lt hh) h3 (by simp [mC]) hm
    show wx.ownsRow _ _ _ _ _ _
    rw [List.length_replicate]; exact e

/-! ### copy into a row of bytes that the call owns -/
def spl (D : List UInt8) (off : Nat) (x : ByteArray) : List UInt8 := splice D off x.data.toList
theorem spl_length (D : List UInt8) (off : Nat) (x : ByteArray) (h : off + x.size ≤ D.length) : (spl D off x).length = D.length := by
  have e : x.data.toList.length = x.size := by rw [Array.length_toList]; rfl
  unfold spl
  rw [length_splice]
  omega
theorem owns_spl {w : World} {B g n cap off : Nat} {D : List UInt8} {x : ByteArray} {cur : Array Value} (hg : w.heap[g]? = some (.cells cur 5 (0, 0))) (hB : B ≤ g) (h3 : D.length ≤ cap) (h4 : cap ≤ maxLen) (h5 : cur.size = cap * 1) (h6 : cur.toList.take D.length = dC D) (hn : D.length = n)
    (hfit : off + x.size ≤ D.length) :
    OwnD (w.setRow g (cur.toList.take off ++ byteCells x ++ cur.toList.drop (off + x.size)).toArray) B (.slice (some ⟨g, 0, none⟩) n cap) (spl D off x) := by
  have hx : x.data.toList.length = x.size := by rw [Array.length_toList]; rfl
  have hbl : (byteCells x).length = x.size := by rw [byteCells_length]
  have hcl : cur.toList.length = cap := by rw [Array.length_toList, h5, Nat.mul_one]
  unfold OwnD
  rw [spl_length D off x hfit]
  subst hn
  refine ⟨by rw [dC_length, spl_length D off x hfit, Nat.mul_one], .inr ⟨g, cap, _, rfl, hB, setRow_heap w g _ _ 5 _ hg, h3, h4, ?_, ?_⟩⟩
  · simp only [List.size_toArray, List.length_append, List.length_take, List.length_drop, hbl, hcl]
    omega
  · have e1 : cur.toList.take off = dC (D.take off) := by
      have := congrArg (List.take off) h6
      rw [List.take_take, Nat.min_eq_left (by omega)] at this
      rw [this]; simp [dC, List.map_take]
    have e2 : byteCells x = dC x.data.toList := rfl
    have e3 : (cur.toList.drop (off + x.size)).take (D.length - (off + x.size)) = dC (D.drop (off + x.size)) := by
      have := congrArg (List.drop (off + x.size)) h6
      rw [List.drop_take] at this
      rw [this]; simp [dC, List.map_drop]
    have l1 : (dC (D.take off)).length = off := by rw [dC_length, List.length_take]; omega
    have l2 : (dC x.data.toList).length = x.size := by rw [dC_length, hx]
    rw [e1, e2, List.append_assoc]
    simp only
    rw [Nat.mul_one, List.take_append, l1, List.take_of_length_le (l := dC (D.take off)) (by omega), List.take_append, l2, List.take_of_length_le (l := dC x.data.toList) (by omega), show D.length - off - x.size = D.length - (off + x.size) by omega, e3]
    unfold spl splice dC
    rw [hx, List.map_append, List.map_append]
end Go.Proofs.Ytgflnfmnjlmenaa
namespace Go
open Go.RowKit
/-- copy OF A STRING's BYTES INTO A ROW OF BYTES. -/
theorem run_copy_string {P : Program} (w : World) (dT sT ty elem : TypeId) (g o dLen dCap : Nat) (s : ByteArray) (cur : Array Value) (t : TypeId)
    (hu : P.underlying dT = some (.slice elem)) (hs : (P.info? elem).map (·.size) = some 1)
    (hg : w.heap[g]? = some (.cells cur t (0, 0))) (hn : s.size ≤ dLen) (hfit : o + s.size ≤ cur.size) :
    (Builtin.copy_ #[dT, sT] ty #[.slice (some ⟨g, o, none⟩) dLen dCap, .string s]).run P w =
      .ok (goInt s.size) (w.setRow g (cur.toList.take o ++ byteCells s ++ cur.toList.drop (o + s.size)).toArray) := by
  have hst := run_storeCells_at P g o t (byteCells s) 0 cur w hg (by rw [byteCells_length]; simpa using hfit) (by
    intro u hu
    obtain ⟨_, _, rfl⟩ := List.mem_map.1 hu
    rfl)
  rw [byteCells_length] at hst
  have hm : Nat.min s.size dLen = s.size := Nat.min_eq_left hn
  cases hq : P.info? elem with
  | none => simp [hq] at hs
  | some i =>
    have hi : i.size = 1 := by simpa [hq] using hs
    have hf := firstCells_string (P := P) s w
    simp [Builtin.copy_, run_underlying hu, Builtin.lenOf, sizeOf, typeInfo, hq, hi, hm, hf, hst]
theorem wpList_copy_str {P : Program} {w : World} {ops : Array Oper} {rest : List Oper} {o : Oper} {a : Act} {Q : Exit → Act → World → Prop} (hgd : o.guard = none) (d s : Operand) (dT sT : TypeId)
    (ho : o.op = .call { callee := .builtin .copy, args := #[d, s], argTypes := #[dT, sT] }) (elem : TypeId) (hu : P.underlying dT = some (.slice elem)) (hsz : (P.info? elem).map (·.size) = some 1)
    (dLen dCap : Nat) (g off : Nat) (hd : a.eval d = .slice (some ⟨g, off, none⟩) dLen dCap) (x : ByteArray) (hs : a.eval s = .string x)
    (B n cap : Nat) (D : List UInt8) (hown : Proofs.Ytgflnfmnjlmenaa.OwnD w B (.slice (some ⟨g, 0, none⟩) n cap) D) (hn : x.size ≤ dLen) (hfit : off + x.size ≤ D.length)
    (h : ∀ w', Hid (Proofs.Ytgflnfmnjlmenaa.OwnD w' B (.slice (some ⟨g, 0, none⟩) n cap) (Proofs.Ytgflnfmnjlmenaa.spl D off x)) → Hid (Proofs.Ytgflnfmnjlmenaa.Touch w w' (fun k => k = g)) → wpList P ops Q rest (a.put o.dst (goInt x.size)) w') :
    wpList P ops Q (o :: rest) a w := by
  refine wpList_plain hgd fun K hK => ?_
  rcases hown.2 with ⟨h1, _⟩ | ⟨g', cap', cur, h1, h2, h3, h4, h5, h6, h7⟩
  · cases h1
  · simp only [Value.slice.injEq, Option.some.injEq, Addr.mk.injEq, and_true] at h1
    obtain ⟨rfl, hDn, rfl⟩ := h1
    rw [Nat.mul_one] at h7
    have hrun := run_copy_string (P := P) w dT sT o.type elem g off dLen dCap x cur 5 hu hsz h3 hn (by omega)
    unfold Oper.wp
    simp [execOp, ho, resolve, invoke, builtin, hd, hs, hrun, Result.andThen]
    have hfin := h _ (Proofs.Ytgflnfmnjlmenaa.owns_spl (x := x) h3 h2 h4 h5 h6 h7 hDn.symm hfit) (show Proofs.Ytgflnfmnjlmenaa.Touch w _ (fun k => k = g) from (Proofs.Ytgflnfmnjlmenaa.Touch.refl w (fun k => k = g)).setRow (.inl rfl) _)
    rw [List.append_assoc] at hfin
    exact hK _ _ hfin
end Go
