/- Memory that the call owns. Text, in all ways. Bytes. Bytes of the reference. Same. -/
import Derived.Test.YtjohcpokmdofkaaGreatDoorYRC
import Derived.Laws.OwnMore
import Derived.Handy
namespace Go.Proofs.YtjohcpokmdofkaaGreatDoor
open Go.RowKit Go.Deep Go.Joins
theorem heap_alloc_new (w : World) (o : Obj) : (w.alloc o).heap[w.heap.size]? = some o := by
  show (w.heap.push o)[w.heap.size]? = _
  rw [Array.getElem?_push, if_pos rfl]
theorem heap_alloc_old {w : World} (o : Obj) {k : Nat} (h : k < w.heap.size) : (w.alloc o).heap[k]? = w.heap[k]? := Below.heap_alloc _ _ _ h

/-- Of what was there only the blocks of S may have turned. -/
structure Touch (w w' : World) (S : Nat → Prop) : Prop where
  os : w'.os = w.os
  tape : w'.tape = w.tape
  output : w'.output = w.output
  size : w.heap.size ≤ w'.heap.size
  block : ∀ k, k < w.heap.size → ¬ S k → w'.heap[k]? = w.heap[k]?
theorem Touch.refl (w : World) (S : Nat → Prop) : Touch w w S := ⟨rfl, rfl, rfl, Nat.le_refl _, fun _ _ _ => rfl⟩
theorem Touch.trans {a b c : World} {S : Nat → Prop} (h : Touch a b S) (k : Touch b c S) : Touch a c S :=
  ⟨k.os.trans h.os, k.tape.trans h.tape, k.output.trans h.output, Nat.le_trans h.size k.size, fun i hi hs => (k.block i (Nat.lt_of_lt_of_le hi h.size) hs).trans (h.block i hi hs)⟩
theorem Touch.mono {w w' : World} {S T : Nat → Prop} (h : Touch w w' S) (hST : ∀ k, k < w.heap.size → S k → T k) : Touch w w' T :=
  ⟨h.os, h.tape, h.output, h.size, fun k hk ht => h.block k hk fun hs => ht (hST k hk hs)⟩
theorem Touch.drew {a w : World} {S : Nat → Prop} (h : Touch a w S) : Touch a w.drew S := ⟨h.os, h.tape, h.output, h.size, h.block⟩
theorem Touch.alloc {a w : World} {S : Nat → Prop} (h : Touch a w S) (o : Obj) : Touch a (w.alloc o) S :=
  h.trans ⟨rfl, rfl, rfl, by simp, fun _ hk _ => heap_alloc_old _ hk⟩
theorem Touch.setCell {a w : World} {S : Nat → Prop} (h : Touch a w S) {p : Addr} (hp : S p.block ∨ a.heap.size ≤ p.block) (u : Value) : Touch a (w.setCell p u) S :=
  ⟨h.os, h.tape, h.output, by simp [World.setCell]; exact h.size, fun k hk hs => (Below.heap_setCell _ _ _ _ (fun e => by
    rcases hp with hp | hp
    · exact hs (e ▸ hp)
    · omega)).trans (h.block k hk hs)⟩
theorem Touch.setRow {a w : World} {S : Nat → Prop} (h : Touch a w S) {g : Nat} (hp : S g ∨ a.heap.size ≤ g) (cs : Array Value) : Touch a (w.setRow g cs) S :=
  ⟨h.os, h.tape, h.output, by rw [size_setRow]; exact h.size, fun k hk hs => (setRow_other w g k cs (fun e => by
    rcases hp with hp | hp
    · exact hs (e ▸ hp)
    · omega)).trans (h.block k hk hs)⟩
theorem touch_of_below {w w' : World} (h : Below w.heap.size w w') (S : Nat → Prop) : Touch w w' S := ⟨h.os, h.tape, h.output, h.size, fun k hk _ => h.block k hk⟩
theorem Touch.below {a w w' : World} {S : Nat → Prop} {B : Nat} (hb : Below B a w) (h : Touch w w' S) (hS : ∀ k, S k → B ≤ k) (hB : B ≤ w.heap.size) : Below B a w' :=
  hb.trans ⟨h.os, h.tape, h.output, h.size, fun k hk => h.block k (by omega) fun hs => by have := hS k hs; omega⟩

/-! ### Rows of bytes and of marks that the call owns -/
def OwnD (w : World) (B : Nat) (v : Value) (D : List UInt8) : Prop := w.ownsRow B 5 1 v D.length (dC D)
def OwnM (w : World) (B : Nat) (v : Value) (M : List Int) : Prop := w.ownsRow B 22 1 v M.length (mC M)
theorem reads_of_owns {w : World} {B n size : Nat} {e : TypeId} {v : Value} {xs : List Value} (h : w.ownsRow B e size v n xs) : Reads w v size n xs := by
  refine ⟨h.1, ?_⟩
  rcases h.2 with h2 | ⟨g, cap, cur, hv, hB, hg, h3, h4, h5, h6⟩
  · exact .inl h2
  · refine .inr ⟨⟨g, 0, none⟩, cap, hv, h3, h4, fun j u hu => ?_⟩
    exact h.cells (g := g) (by rw [hv]; rfl) j u hu
theorem OwnD.at {w : World} {B : Nat} {v : Value} {D : List UInt8} (h : OwnD w B v D) : DAt w v D := reads_of_owns h
theorem OwnM.at {w : World} {B : Nat} {v : Value} {M : List Int} (h : OwnM w B v M) : MAt w v M := reads_of_owns h
theorem owns_same {w w' : World} {B n size : Nat} {e : TypeId} {v : Value} {xs : List Value} (h : w.ownsRow B e size v n xs) (hk : ∀ g, v.ownBlock = some g → w'.heap[g]? = w.heap[g]?) : w'.ownsRow B e size v n xs := by
  refine ⟨h.1, ?_⟩
  rcases h.2 with h2 | ⟨g, cap, cur, h1, h2, h3, r⟩
  · exact .inl h2
  · exact .inr ⟨g, cap, cur, h1, h2, (hk g (by rw [h1]; rfl)).trans h3, r⟩
theorem owns_lt {w : World} {B n size : Nat} {e : TypeId} {v : Value} {xs : List Value} (h : w.ownsRow B e size v n xs) {g : Nat} (hg : v.ownBlock = some g) : B ≤ g ∧ g < w.heap.size := h.lt g hg
theorem owns_below {w w' : World} {B n size : Nat} {e : TypeId} {v : Value} {xs : List Value} (h : w.ownsRow B e size v n xs) (hb : Below w.heap.size w w') : w'.ownsRow B e size v n xs :=
  owns_same h fun _ hg => hb.block _ (owns_lt h hg).2
theorem OwnD.below {w w' : World} {B : Nat} {v : Value} {D : List UInt8} (h : OwnD w B v D) (hb : Below w.heap.size w w') : OwnD w' B v D := owns_below h hb
theorem OwnM.below {w w' : World} {B : Nat} {v : Value} {M : List Int} (h : OwnM w B v M) (hb : Below w.heap.size w w') : OwnM w' B v M := owns_below h hb
theorem owns_touch {w w' : World} {B n size : Nat} {e : TypeId} {v : Value} {xs : List Value} {S : Nat → Prop} (h : w.ownsRow B e size v n xs) (hb : Touch w w' S) (hS : ∀ g, v.ownBlock = some g → ¬ S g) : w'.ownsRow B e size v n xs :=
  owns_same h fun g hg => hb.block _ (owns_lt h hg).2 (hS g hg)
theorem owns_base {w : World} {B B' n size : Nat} {e : TypeId} {v : Value} {xs : List Value} (h : w.ownsRow B e size v n xs) (hB : B' ≤ B) : w.ownsRow B' e size v n xs := by
  refine ⟨h.1, ?_⟩
  rcases h.2 with h2 | ⟨g, cap, cur, h1, h2, r⟩
  · exact .inl h2
  · exact .inr ⟨g, cap, cur, h1, Nat.le_trans hB h2, r⟩
theorem owns_block {w : World} {B n size g : Nat} {e : TypeId} {v : Value} {xs : List Value} (h : w.ownsRow B e size v n xs) (hg : v.ownBlock = some g) : ∃ cur, w.heap[g]? = some (.cells cur e (0, 0)) := by
  rcases h.2 with ⟨h1, _⟩ | ⟨g', cap, cur, h1, _, h2, _⟩
  · rw [h1] at hg; cases hg
  · rw [h1] at hg
    simp only [Value.ownBlock, Option.some.injEq] at hg
    subst hg
    exact ⟨cur, h2⟩
/-- Rows of different element types are two blocks. -/
theorem rows_apart {w : World} {B B2 n m s1 s2 g : Nat} {e1 e2 : TypeId} {v u : Value} {xs ys : List Value} (h : w.ownsRow B e1 s1 v n xs) (k : w.ownsRow B2 e2 s2 u m ys) (hne : e1 ≠ e2) (hg : v.ownBlock = some g) : u.ownBlock ≠ some g := by
  intro hu
  obtain ⟨c1, h1⟩ := owns_block h hg
  obtain ⟨c2, h2⟩ := owns_block k hu
  rw [h1] at h2
  simp only [Option.some.injEq, Obj.cells.injEq] at h2
  exact hne h2.2.1
theorem not_at {w : World} {B n size pb : Nat} {e t : TypeId} {v : Value} {xs : List Value} {c : Array Value} (h : w.ownsRow B e size v n xs) (hp : w.heap[pb]? = some (.cells c t (0, 0))) (hne : e ≠ t) : v.ownBlock ≠ some pb := by
  intro hb
  obtain ⟨c2, h2⟩ := owns_block h hb
  rw [hp] at h2
  simp only [Option.some.injEq, Obj.cells.injEq] at h2
  exact hne h2.2.1.symm
theorem owns_shape {w : World} {B n size : Nat} {e : TypeId} {v : Value} {xs : List Value} (h : w.ownsRow B e size v n xs) : ∃ p cap, v = .slice p n cap := by
  rcases h.2 with ⟨h1, h2⟩ | ⟨g, cap, _, h1, _⟩
  · exact ⟨_, _, h2 ▸ h1⟩
  · exact ⟨_, _, h1⟩
theorem owns_whole {w : World} {B n g : Nat} {e : TypeId} {cur : Array Value} (hB : B ≤ g) (hg : w.heap[g]? = some (.cells cur e (0, 0))) (hn : cur.size = n) (hm : n ≤ maxLen) : w.ownsRow B e 1 (.slice (some ⟨g, 0, none⟩) n n) n cur.toList :=
  ⟨by rw [Array.length_toList, hn, Nat.mul_one], .inr ⟨g, n, cur, rfl, hB, hg, Nat.le_refl _, hm, by omega, by rw [Nat.mul_one, ← hn, ← Array.length_toList, List.take_length]⟩⟩

/-- A variable that is one struct of memory: block z. -/
def RamVar (w : World) (z : Nat) (dv mv : Value) (E : Int) : Prop := w.heap[z]? = some (.cells #[dv, mv, .int .u64 E] 39 (0, 0))
theorem RamVar.lt {w : World} {z : Nat} {dv mv : Value} {E : Int} (h : RamVar w z dv mv E) : z < w.heap.size := (Array.getElem?_eq_some_iff.1 h).1
theorem RamVar.cells {w : World} {z : Nat} {dv mv : Value} {E : Int} (h : RamVar w z dv mv E) :
    w.cell? ⟨z, 0, none⟩ = some dv ∧ w.cell? ⟨z, 1, none⟩ = some mv ∧ w.cell? ⟨z, 2, none⟩ = some (.int .u64 E) := by
  refine ⟨?_, ?_, ?_⟩ <;> rw [cell_of_row w z _ _ 39 (0, 0) h] <;> rfl
theorem RamVar.below {w w' : World} {z : Nat} {dv mv : Value} {E : Int} (h : RamVar w z dv mv E) (hb : Below w.heap.size w w') : RamVar w' z dv mv E := (hb.block z h.lt).trans h
theorem RamVar.touch {w w' : World} {z : Nat} {dv mv : Value} {E : Int} {S : Nat → Prop} (h : RamVar w z dv mv E) (hb : Touch w w' S) (hS : ¬ S z) : RamVar w' z dv mv E := (hb.block z h.lt hS).trans h

theorem RamVar.free {w : World} {z : Nat} {dv mv : Value} {E : Int} (h : RamVar w z dv mv E) (j : Nat) : w.frozen? ⟨z, j, none⟩ = false := by
  unfold World.frozen?
  have h' : w.heap[z]? = some (.cells #[dv, mv, .int .u64 E] 39 (0, 0)) := h
  simp only [h']
  simp
/-- A struct of memory stored into such a variable. -/
theorem RamVar.store {w : World} {z : Nat} {dv mv : Value} {E : Int} (h : RamVar w z dv mv E) (dv' mv' : Value) (E' : Int) :
    RamVar (((w.setCell ⟨z, 0, none⟩ dv').setCell ⟨z, 1, none⟩ mv').setCell ⟨z, 2, none⟩ (.int .u64 E')) z dv' mv' E' := by
  have h' : w.heap[z]? = some (.cells #[dv, mv, .int .u64 E] 39 (0, 0)) := h
  have h1 := heap_setCell_same w z 0 _ 39 dv' h'
  have h2 := heap_setCell_same _ z 1 _ 39 mv' h1
  have h3 := heap_setCell_same _ z 2 _ 39 (.int .u64 E') h2
  exact h3
theorem new3 {w0 : World} {o1 o2 o3 : Obj} {N : Nat} (h : w0.heap.size = N) : (((w0.alloc o1).alloc o2).alloc o3).drew.heap[N]? = some o1 ∧ (((w0.alloc o1).alloc o2).alloc o3).drew.heap[N + 1]? = some o2 ∧ (((w0.alloc o1).alloc o2).alloc o3).drew.heap[N + 1 + 1]? = some o3 := by
  subst h
  refine ⟨?_, ?_, ?_⟩
  · show ((((w0.alloc o1).alloc o2).alloc o3)).heap[w0.heap.size]? = _
    rw [heap_alloc_old _ (by simp; omega), heap_alloc_old _ (by simp), heap_alloc_new]
  · show ((((w0.alloc o1).alloc o2).alloc o3)).heap[w0.heap.size + 1]? = _
    rw [heap_alloc_old _ (by simp)]
    have := heap_alloc_new (w0.alloc o1) o2
    rwa [World.size_alloc] at this
  · show ((((w0.alloc o1).alloc o2).alloc o3)).heap[w0.heap.size + 1 + 1]? = _
    have := heap_alloc_new ((w0.alloc o1).alloc o2) o3
    rwa [World.size_alloc, World.size_alloc] at this

/-! ### make -/
theorem make_d (n : Nat) (h : n ≤ 140737489403904) : ∀ u : World, (Instr.makeSlice 36 (.int .i64 (n : Int)) (.int .i64 (n : Int))).run Tryz.prog u =
      .ok (.slice (some ⟨u.heap.size, 0, none⟩) n n) (u.alloc (.cells (dC (List.replicate n 0)).toArray 5)) := fun u => by
  obtain ⟨i0, hi, hz0, hz1, hz2⟩ := info_parts (show (Tryz.prog.info? 5).map (fun i => (i.zero, i.size, i.bytes)) = some (some (.int .u8 0), 1, 1) by kernel_rfl)
  have h := run_make (P := Tryz.prog) u 36 5 i0 (.int .u8 0) Tryz.underlying36 hi hz0 .i64 .i64 (n : Int) (n : Int) (by omega) (Int.le_refl _) (by rw [hz2]; omega) (by omega)
  rw [Int.toNat_natCast] at h
  have e : (dC (List.replicate n 0)).toArray = madeCells #[.int .u8 0] n := by
    apply Array.ext'
    rw [toList_madeCells_one]
    simp [dC]
  rw [e]
  simpa [hz1, Value.cells] using h
theorem make_m (n : Nat) (h : n ≤ 17592186044416) : ∀ u : World, (Instr.makeSlice 37 (.int .i64 (n : Int)) (.int .i64 (n : Int))).run Tryz.prog u =
      .ok (.slice (some ⟨u.heap.size, 0, none⟩) n n) (u.alloc (.cells (mC (List.replicate n 0)).toArray 22)) := fun u => by
  obtain ⟨i0, hi, hz0, hz1, hz2⟩ := info_parts (show (Tryz.prog.info? 22).map (fun i => (i.zero, i.size, i.bytes)) = some (some (.int .u64 0), 1, 8) by kernel_rfl)
  have h := run_make (P := Tryz.prog) u 37 22 i0 (.int .u64 0) Tryz.underlying37 hi hz0 .i64 .i64 (n : Int) (n : Int) (by omega) (Int.le_refl _) (by rw [hz2]; omega) (by omega)
  rw [Int.toNat_natCast] at h
  have e : (mC (List.replicate n 0)).toArray = madeCells #[.int .u64 0] n := by
    apply Array.ext'
    rw [toList_madeCells_one]
    simp [mC]
  rw [e]
  simpa [hz1, Value.cells] using h
/-- Two rows of noughts and the variable that holds them, all new. -/
def Made (w : World) (n m : Nat) (E : Int) (s : Value) (wx : World) : Prop :=
  ∃ z g h, s = .pointer (some ⟨z, 0, none⟩) ∧ RamVar wx z (.slice (some ⟨g, 0, none⟩) n n) (.slice (some ⟨h, 0, none⟩) m m) E ∧ OwnD wx w.heap.size (.slice (some ⟨g, 0, none⟩) n n) (List.replicate n 0) ∧
    OwnM wx w.heap.size (.slice (some ⟨h, 0, none⟩) m m) (List.replicate m 0) ∧ w.heap.size < z ∧ w.heap.size < g ∧ w.heap.size < h ∧ Below (w.heap.size + 1) (w.alloc (.cells #[.slice none 0 0, .slice none 0 0, .int .u64 0] 39)) wx
theorem made_mk {w wx : World} {n m z g h : Nat} {E : Int} (h1 : wx.heap[z]? = some (.cells #[.slice (some ⟨g, 0, none⟩) n n, .slice (some ⟨h, 0, none⟩) m m, .int .u64 E] 39 (0, 0))) (h2 : wx.heap[g]? = some (.cells (dC (List.replicate n 0)).toArray 5 (0, 0)))
    (h3 : wx.heap[h]? = some (.cells (mC (List.replicate m 0)).toArray 22 (0, 0))) (hz : w.heap.size < z) (hg : w.heap.size < g) (hh : w.heap.size < h) (hn : n ≤ maxLen) (hm : m ≤ maxLen)
    (hb : Below (w.heap.size + 1) (w.alloc (.cells #[.slice none 0 0, .slice none 0 0, .int .u64 0] 39)) wx) : Made w n m E (.pointer (some ⟨z, 0, none⟩)) wx := by
  refine ⟨z, g, h, rfl, h1, ?_, ?_, hz, hg, hh, hb⟩
  · have e := owns_whole (n := n) (Nat.le_of_lt hg) h2 (by simp [dC]) hn
    show wx.ownsRow _ _ _ _ _ _
    rw [List.length_replicate]; exact e
  · have e := owns_whole (n := m) (Nat.le_of_lt hh) h3 (by simp [mC]) hm
    show wx.ownsRow _ _ _ _ _ _
    rw [List.length_replicate]; exact e

/-! ### copy into a row of bytes that the call owns -/
def spl (D : List UInt8) (off : Nat) (x : ByteArray) : List UInt8 := splice D off x.data.toList
theorem spl_length (D : List UInt8) (off : Nat) (x : ByteArray) (h : off + x.size ≤ D.length) : (spl D off x).length = D.length := by
  have e : x.data.toList.length = x.size := by rw [Array.length_toList]; rfl
  unfold spl
  rw [length_splice]
  omega
theorem owns_spl {w : World} {B g n cap off : Nat} {D : List UInt8} {x : ByteArray} {cur : Array Value} (hg : w.heap[g]? = some (.cells cur 5 (0, 0))) (hB : B ≤ g) (h3 : D.length ≤ cap) (h4 : cap ≤ maxLen) (h5 : cur.size = cap * 1) (h6 : cur.toList.take D.length = dC D) (hn : D.length = n)
    (hfit : off + x.size ≤ D.length) :
    OwnD (w.setRow g (cur.toList.take off ++ byteCells x ++ cur.toList.drop (off + x.size)).toArray) B (.slice (some ⟨g, 0, none⟩) n cap) (spl D off x) := by
  have hx : x.data.toList.length = x.size := by rw [Array.length_toList]; rfl
  have hbl : (byteCells x).length = x.size := by rw [byteCells_length]
  have hcl : cur.toList.length = cap := by rw [Array.length_toList, h5, Nat.mul_one]
  unfold OwnD
  rw [spl_length D off x hfit]
  subst hn
  refine ⟨by rw [dC_length, spl_length D off x hfit, Nat.mul_one], .inr ⟨g, cap, _, rfl, hB, setRow_heap w g _ _ 5 _ hg, h3, h4, ?_, ?_⟩⟩
  · simp only [List.size_toArray, List.length_append, List.length_take, List.length_drop, hbl, hcl]
    omega
  · have e1 : cur.toList.take off = dC (D.take off) := by
      have := congrArg (List.take off) h6
      rw [List.take_take, Nat.min_eq_left (by omega)] at this
      rw [this]; simp [dC, List.map_take]
    have e2 : byteCells x = dC x.data.toList := rfl
    have e3 : (cur.toList.drop (off + x.size)).take (D.length - (off + x.size)) = dC (D.drop (off + x.size)) := by
      have := congrArg (List.drop (off + x.size)) h6
      rw [List.drop_take] at this
      rw [this]; simp [dC, List.map_drop]
    have l1 : (dC (D.take off)).length = off := by rw [dC_length, List.length_take]; omega
    have l2 : (dC x.data.toList).length = x.size := by rw [dC_length, hx]
    rw [e1, e2, List.append_assoc]
    simp only
    rw [Nat.mul_one, List.take_append, l1, List.take_of_length_le (l := dC (D.take off)) (by omega), List.take_append, l2, List.take_of_length_le (l := dC x.data.toList) (by omega), show D.length - off - x.size = D.length - (off + x.size) by omega, e3]
    unfold spl splice dC
    rw [hx, List.map_append, List.map_append]
end Go.Proofs.YtjohcpokmdofkaaGreatDoor
namespace Go
open Go.RowKit
/-- copy OF A STRING's BYTES INTO A ROW OF BYTES. -/
theorem run_copy_string {P : Program} (w : World) (dT sT ty elem : TypeId) (g o dLen dCap : Nat) (s : ByteArray) (cur : Array Value) (t : TypeId)
    (hu : P.underlying dT = some (.slice elem)) (hs : (P.info? elem).map (·.size) = some 1)
    (hg : w.heap[g]? = some (.cells cur t (0, 0))) (hn : s.size ≤ dLen) (hfit : o + s.size ≤ cur.size) :
    (Builtin.copy_ #[dT, sT] ty #[.slice (some ⟨g, o, none⟩) dLen dCap, .string s]).run P w =
      .ok (goInt s.size) (w.setRow g (cur.toList.take o ++ byteCells s ++ cur.toList.drop (o + s.size)).toArray) := by
  have hst := run_storeCells_at P g o t (byteCells s) 0 cur w hg (by rw [byteCells_length]; simpa using hfit) (by
    intro u hu
    obtain ⟨_, _, rfl⟩ := List.mem_map.1 hu
    rfl)
  rw [byteCells_length] at hst
  have hm : Nat.min s.size dLen = s.size := Nat.min_eq_left hn
  cases hq : P.info? elem with
  | none => simp [hq] at hs
  | some i =>
    have hi : i.size = 1 := by simpa [hq] using hs
    have hf := firstCells_string (P := P) s w
    simp [Builtin.copy_, run_underlying hu, Builtin.lenOf, sizeOf, typeInfo, hq, hi, hm, hf, hst]
theorem wpList_copy_str {P : Program} {w : World} {ops : Array Oper} {rest : List Oper} {o : Oper} {a : Act} {Q : Exit → Act → World → Prop} (hgd : o.guard = none) (d s : Operand) (dT sT : TypeId)
    (ho : o.op = .call { callee := .builtin .copy, args := #[d, s], argTypes := #[dT, sT] }) (elem : TypeId) (hu : P.underlying dT = some (.slice elem)) (hsz : (P.info? elem).map (·.size) = some 1)
    (dLen dCap : Nat) (g off : Nat) (hd : a.eval d = .slice (some ⟨g, off, none⟩) dLen dCap) (x : ByteArray) (hs : a.eval s = .string x)
    (B n cap : Nat) (D : List UInt8) (hown : Proofs.YtjohcpokmdofkaaGreatDoor.OwnD w B (.slice (some ⟨g, 0, none⟩) n cap) D) (hn : x.size ≤ dLen) (hfit : off + x.size ≤ D.length)
    (h : ∀ w', Hid (Proofs.YtjohcpokmdofkaaGreatDoor.OwnD w' B (.slice (some ⟨g, 0, none⟩) n cap) (Proofs.YtjohcpokmdofkaaGreatDoor.spl D off x)) → Hid (Proofs.YtjohcpokmdofkaaGreatDoor.Touch w w' (fun k => k = g)) → wpList P ops Q rest (a.put o.dst (goInt x.size)) w') :
    wpList P ops Q (o :: rest) a w := by
  refine wpList_plain hgd fun K hK => ?_
  rcases hown.2 with ⟨h1, _⟩ | ⟨g', cap', cur, h1, h2, h3, h4, h5, h6, h7⟩
  · cases h1
  · simp only [Value.slice.injEq, Option.some.injEq, Addr.mk.injEq, and_true] at h1
    obtain ⟨rfl, hDn, rfl⟩ := h1
    rw [Nat.mul_one] at h7
    have hrun := run_copy_string (P := P) w dT sT o.type elem g off dLen dCap x cur 5 hu hsz h3 hn (by omega)
    unfold Oper.wp
    simp [execOp, ho, resolve, invoke, builtin, hd, hs, hrun, Result.andThen]
    have hfin := h _ (Proofs.YtjohcpokmdofkaaGreatDoor.owns_spl (x := x) h3 h2 h4 h5 h6 h7 hDn.symm hfit) (show Proofs.YtjohcpokmdofkaaGreatDoor.Touch w _ (fun k => k = g) from (Proofs.YtjohcpokmdofkaaGreatDoor.Touch.refl w (fun k => k = g)).setRow (.inl rfl) _)
    rw [List.append_assoc] at hfin
    exact hK _ _ hfin
end Go
namespace Go.Proofs.YtjohcpokmdofkaaGreatDoor
open Go.RowKit Go.Deep Go.Joins
def textE (n : Nat) (t size : Int) : Int := if size = 0 ∨ thereB n t size = true then 0 else 50
def textS (D : List UInt8) (t size : Int) : ByteArray := if size ≠ 0 ∧ thereB D.length t size = true then bytesOf D (t - 2147483648).toNat size.toNat else ⟨#[]⟩
theorem text_all (v : Value) (D : List UInt8) (mv ev : Value) (t size : Int) (w : World) (hd : DAt w v D) (ht0 : 0 ≤ t) (ht1 : t ≤ 18446744073709551615) (hs0 : -9223372036854775808 ≤ size) (hs1 : size ≤ 9223372036854775807) :
    Calls Tryz.prog 218 #[.agg #[v, mv, ev], .int .u64 t, .int .i64 size] w fun e w' => e = .returned (.tuple #[.string (textS D t size), .int .i64 (textE D.length t size)]) ∧ Below w.heap.size w w' := by
  by_cases h0 : size = 0
  · subst h0
    have e1 : textS D t 0 = ⟨#[]⟩ := if_neg (by simp)
    have e2 : textE D.length t 0 = 0 := if_pos (.inl rfl)
    rw [e1, e2]
    exact text_none v mv ev t w
  · rcases Bool.eq_false_or_eq_true (thereB D.length t size) with h | h
    · have e1 : textS D t size = bytesOf D (t - 2147483648).toNat size.toNat := if_pos ⟨h0, h⟩
      have e2 : textE D.length t size = 0 := if_pos (.inr h)
      rw [e1, e2]
      exact text_any v D mv ev t size w hd ht0 ht1 hs1 (by have := (there_iff.1 h).1; omega) h
    · have e1 : textS D t size = ⟨#[]⟩ := if_neg (by simp [h])
      have e2 : textE D.length t size = 50 := if_neg (by simp [h, h0])
      rw [e1, e2]
      obtain ⟨p, cap, rfl⟩ := hd.is
      exact text_ram p D.length cap mv ev t size w hd.le ht0 ht1 hs0 hs1 h0 h
theorem textE_is (n : Nat) (t size : Int) : textE n t size = 0 ∨ textE n t size = 50 := by unfold textE; split <;> simp
theorem textS_size (D : List UInt8) (t : Int) (s : Nat) : (textS D t s).size ≤ s := by
  unfold textS
  split
  · show (bytesOf D _ _).data.size ≤ s
    simp [bytesOf]
    omega
  · exact Nat.zero_le _
end Go.Proofs.YtjohcpokmdofkaaGreatDoor
namespace Go.Proofs.YtjohcpokmdofkaaGreatDoor
open Go.RowKit Go.Deep Go.Joins
def leL (n : Nat) : List UInt8 := [UInt8.ofNat n, UInt8.ofNat (n / 256), UInt8.ofNat (n / 65536), UInt8.ofNat (n / 16777216), UInt8.ofNat (n / 4294967296), UInt8.ofNat (n / 1099511627776), UInt8.ofNat (n / 281474976710656), UInt8.ofNat (n / 72057594037927936)]
def bytesN (n s : Nat) : ByteArray := ⟨((leL n).take s).toArray⟩
theorem leL_length (n : Nat) : (leL n).length = 8 := rfl
theorem bytesN_size (n s : Nat) (h : s ≤ 8) : (bytesN n s).size = s := by
  show ((leL n).take s).toArray.size = s
  rw [List.size_toArray, List.length_take, leL_length]; omega
theorem byte_at (m : Nat) : Value.int .u8 ((UInt8.ofNat m).toNat : Int) = .int .u8 ((m : Int) % 256) := by
  rw [UInt8.toNat_ofNat']
  congr 1
theorem leL_cells (n : Nat) (hn : n < 18446744073709551616) : (dC (leL n)).toArray = #[.int .u8 ((n : Int) % 256), .int .u8 ((n : Int) / 256 % 256), .int .u8 ((n : Int) / 65536 % 256), .int .u8 ((n : Int) / 16777216 % 256), .int .u8 ((n : Int) / 4294967296 % 256),
      .int .u8 ((n : Int) / 1099511627776 % 256), .int .u8 ((n : Int) / 281474976710656 % 256), .int .u8 ((n : Int) / 72057594037927936)] := by
  have e : ((n / 72057594037927936 : Nat) : Int) % 256 = ((n / 72057594037927936 : Nat) : Int) := by omega
  simp only [dC, leL, List.map_cons, List.map_nil, byte_at, e]
  rfl
theorem bytes_cv (n s : Nat) (w : World) (hn : n < 18446744073709551616) (hs : s ≤ 8) :
    (convert 36 9 (.slice (some ⟨w.heap.size, 0, none⟩) s 8)).run Tryz.prog (w.alloc (.cells #[.int .u8 ((n : Int) % 256), .int .u8 ((n : Int) / 256 % 256), .int .u8 ((n : Int) / 65536 % 256), .int .u8 ((n : Int) / 16777216 % 256), .int .u8 ((n : Int) / 4294967296 % 256),
      .int .u8 ((n : Int) / 1099511627776 % 256), .int .u8 ((n : Int) / 281474976710656 % 256), .int .u8 ((n : Int) / 72057594037927936)] 168)) =
    .ok (.string (bytesN n s)) (w.alloc (.cells #[.int .u8 ((n : Int) % 256), .int .u8 ((n : Int) / 256 % 256), .int .u8 ((n : Int) / 65536 % 256), .int .u8 ((n : Int) / 16777216 % 256), .int .u8 ((n : Int) / 4294967296 % 256),
      .int .u8 ((n : Int) / 1099511627776 % 256), .int .u8 ((n : Int) / 281474976710656 % 256), .int .u8 ((n : Int) / 72057594037927936)] 168)) := by
  rw [← leL_cells n hn]
  have h := run_convert_bytes_back (P := Tryz.prog) (w.alloc (.cells (dC (leL n)).toArray 168)) 36 9 5 ⟨w.heap.size, 0, none⟩ 8 ((leL n).take s) Tryz.underlying36 Tryz.underlying5 Tryz.underlying9 (fun j hj => by
    rw [add_lit, Nat.zero_add, World.cell?_alloc_new]
    rw [List.length_take, leL_length] at hj
    rw [List.getElem?_toArray, dC, List.getElem?_map, List.getElem?_eq_getElem (by rw [leL_length]; omega), List.getElem_take]
    rfl)
  rw [List.length_take, leL_length, Nat.min_eq_left hs] at h
  exact h
set_option maxHeartbeats 1000000 in
set_option maxRecDepth 100000 in
theorem bytes_any (n : Nat) (s : Nat) (w : World) (hn : n < 18446744073709551616) (hs : s ≤ 8) :
    Calls Tryz.prog 139 #[.int .u64 n, .int .i64 s] w fun e w' => e = .returned (.string (bytesN n s)) ∧ Below w.heap.size w w' := by
  have hcv := bytes_cv n s w hn hs
  go_enter Tryz.func139, Tryz.ntmps139
  go_wp2_with fail
  go_rounds 9
  go_ret
  exact ⟨rfl, below1 w _⟩
end Go.Proofs.YtjohcpokmdofkaaGreatDoor
namespace Go.Proofs.YtjohcpokmdofkaaGreatDoor
open Go.RowKit Go.Deep Go.Joins
theorem leL_list (n : Nat) (hn : n < 18446744073709551616) : dC (leL n) = [.int .u8 ((n : Int) % 256), .int .u8 ((n : Int) / 256 % 256), .int .u8 ((n : Int) / 65536 % 256), .int .u8 ((n : Int) / 16777216 % 256), .int .u8 ((n : Int) / 4294967296 % 256), .int .u8 ((n : Int) / 1099511627776 % 256), .int .u8 ((n : Int) / 281474976710656 % 256), .int .u8 ((n : Int) / 72057594037927936)] := by
  have h := leL_cells n hn
  have h2 := congrArg Array.toList h
  exact h2
theorem bytes_cv2 (n s : Nat) (w : World) (hs : s ≤ 8) (cs : Array Value) (hcs : cs = ((dC (leL n)).take s).toArray) :
    (convert 36 9 (.slice (some ⟨w.heap.size, 0, none⟩) s s)).run Tryz.prog (w.alloc (.cells cs 5)) = .ok (.string (bytesN n s)) (w.alloc (.cells cs 5)) := by
  have h := run_convert_bytes_back (P := Tryz.prog) (w.alloc (.cells cs 5)) 36 9 5 ⟨w.heap.size, 0, none⟩ s ((leL n).take s) Tryz.underlying36 Tryz.underlying5 Tryz.underlying9 (fun j hj => by
    rw [add_lit, Nat.zero_add, World.cell?_alloc_new, hcs]
    rw [List.length_take, leL_length] at hj
    rw [List.getElem?_toArray, List.getElem?_take_of_lt (by omega), dC, List.getElem?_map, List.getElem?_eq_getElem (by rw [leL_length]; omega), List.getElem_take]
    rfl)
  rw [List.length_take, leL_length, Nat.min_eq_left hs] at h
  exact h
theorem make_lit (s : Nat) (hs : s ≤ 8) (u : World) (cs : Array Value) (hcs : cs = (dC (List.replicate s 0)).toArray) : (Instr.makeSlice 36 (.int .i64 (s : Int)) (.int .i64 (s : Int))).run Tryz.prog u =
      .ok (.slice (some ⟨u.heap.size, 0, none⟩) s s) (u.alloc (.cells cs 5)) := by
  rw [hcs]; exact make_d s (by omega) u
set_option maxHeartbeats 1000000 in
theorem rbytes_0 (n : Nat) (w : World) (hn : n < 18446744073709551616) :
    Calls Tryz.prog 14 #[.int .u64 n, .int .i64 0] w fun e w' => e = .returned (.string (bytesN n 0)) ∧ Below w.heap.size w w' := by
  have hcv := bytes_cv2 n 0 w (by omega) #[] (by rw [leL_list n hn]; rfl)
  have hmk : (Instr.makeSlice 36 (.int .i64 0) (.int .i64 0)).run Tryz.prog w = .ok (.slice (some ⟨w.heap.size, 0, none⟩) 0 0) (w.alloc (.cells #[] 5)) := make_lit 0 (by omega) w _ rfl
  go_enter Tryz.func14, Tryz.ntmps14
  go_wp2_with fail
  go_rounds 1
  go_ret
  exact ⟨rfl, below1 w _⟩
set_option maxHeartbeats 1000000 in
theorem rbytes_1 (n : Nat) (w : World) (hn : n < 18446744073709551616) :
    Calls Tryz.prog 14 #[.int .u64 n, .int .i64 1] w fun e w' => e = .returned (.string (bytesN n 1)) ∧ Below w.heap.size w w' := by
  have hcv := bytes_cv2 n 1 w (by omega) #[.int .u8 ((n : Int) % 256)] (by rw [leL_list n hn]; rfl)
  have hmk : (Instr.makeSlice 36 (.int .i64 1) (.int .i64 1)).run Tryz.prog w = .ok (.slice (some ⟨w.heap.size, 0, none⟩) 1 1) (w.alloc (.cells #[.int .u8 0] 5)) := make_lit 1 (by omega) w _ rfl
  go_enter Tryz.func14, Tryz.ntmps14
  go_wp2_with fail
  go_rounds 2
  go_ret
  exact ⟨rfl, below1 w _⟩
set_option maxHeartbeats 1000000 in
theorem rbytes_2 (n : Nat) (w : World) (hn : n < 18446744073709551616) :
    Calls Tryz.prog 14 #[.int .u64 n, .int .i64 2] w fun e w' => e = .returned (.string (bytesN n 2)) ∧ Below w.heap.size w w' := by
  have hcv := bytes_cv2 n 2 w (by omega) #[.int .u8 ((n : Int) % 256), .int .u8 ((n : Int) / 256 % 256)] (by rw [leL_list n hn]; rfl)
  have hmk : (Instr.makeSlice 36 (.int .i64 2) (.int .i64 2)).run Tryz.prog w = .ok (.slice (some ⟨w.heap.size, 0, none⟩) 2 2) (w.alloc (.cells #[.int .u8 0, .int .u8 0] 5)) := make_lit 2 (by omega) w _ rfl
  go_enter Tryz.func14, Tryz.ntmps14
  go_wp2_with fail
  go_rounds 3
  go_ret
  exact ⟨rfl, below1 w _⟩
set_option maxHeartbeats 1000000 in
theorem rbytes_3 (n : Nat) (w : World) (hn : n < 18446744073709551616) :
    Calls Tryz.prog 14 #[.int .u64 n, .int .i64 3] w fun e w' => e = .returned (.string (bytesN n 3)) ∧ Below w.heap.size w w' := by
  have hcv := bytes_cv2 n 3 w (by omega) #[.int .u8 ((n : Int) % 256), .int .u8 ((n : Int) / 256 % 256), .int .u8 ((n : Int) / 65536 % 256)] (by rw [leL_list n hn]; rfl)
  have hmk : (Instr.makeSlice 36 (.int .i64 3) (.int .i64 3)).run Tryz.prog w = .ok (.slice (some ⟨w.heap.size, 0, none⟩) 3 3) (w.alloc (.cells #[.int .u8 0, .int .u8 0, .int .u8 0] 5)) := make_lit 3 (by omega) w _ rfl
  go_enter Tryz.func14, Tryz.ntmps14
  go_wp2_with fail
  go_rounds 4
  go_ret
  exact ⟨rfl, below1 w _⟩
set_option maxHeartbeats 1000000 in
theorem rbytes_4 (n : Nat) (w : World) (hn : n < 18446744073709551616) :
    Calls Tryz.prog 14 #[.int .u64 n, .int .i64 4] w fun e w' => e = .returned (.string (bytesN n 4)) ∧ Below w.heap.size w w' := by
  have hcv := bytes_cv2 n 4 w (by omega) #[.int .u8 ((n : Int) % 256), .int .u8 ((n : Int) / 256 % 256), .int .u8 ((n : Int) / 65536 % 256), .int .u8 ((n : Int) / 16777216 % 256)] (by rw [leL_list n hn]; rfl)
  have hmk : (Instr.makeSlice 36 (.int .i64 4) (.int .i64 4)).run Tryz.prog w = .ok (.slice (some ⟨w.heap.size, 0, none⟩) 4 4) (w.alloc (.cells #[.int .u8 0, .int .u8 0, .int .u8 0, .int .u8 0] 5)) := make_lit 4 (by omega) w _ rfl
  go_enter Tryz.func14, Tryz.ntmps14
  go_wp2_with fail
  go_rounds 5
  go_ret
  exact ⟨rfl, below1 w _⟩
set_option maxHeartbeats 1000000 in
theorem rbytes_5 (n : Nat) (w : World) (hn : n < 18446744073709551616) :
    Calls Tryz.prog 14 #[.int .u64 n, .int .i64 5] w fun e w' => e = .returned (.string (bytesN n 5)) ∧ Below w.heap.size w w' := by
  have hcv := bytes_cv2 n 5 w (by omega) #[.int .u8 ((n : Int) % 256), .int .u8 ((n : Int) / 256 % 256), .int .u8 ((n : Int) / 65536 % 256), .int .u8 ((n : Int) / 16777216 % 256), .int .u8 ((n : Int) / 4294967296 % 256)] (by rw [leL_list n hn]; rfl)
  have hmk : (Instr.makeSlice 36 (.int .i64 5) (.int .i64 5)).run Tryz.prog w = .ok (.slice (some ⟨w.heap.size, 0, none⟩) 5 5) (w.alloc (.cells #[.int .u8 0, .int .u8 0, .int .u8 0, .int .u8 0, .int .u8 0] 5)) := make_lit 5 (by omega) w _ rfl
  go_enter Tryz.func14, Tryz.ntmps14
  go_wp2_with fail
  go_rounds 6
  go_ret
  exact ⟨rfl, below1 w _⟩
set_option maxHeartbeats 1000000 in
theorem rbytes_6 (n : Nat) (w : World) (hn : n < 18446744073709551616) :
    Calls Tryz.prog 14 #[.int .u64 n, .int .i64 6] w fun e w' => e = .returned (.string (bytesN n 6)) ∧ Below w.heap.size w w' := by
  have hcv := bytes_cv2 n 6 w (by omega) #[.int .u8 ((n : Int) % 256), .int .u8 ((n : Int) / 256 % 256), .int .u8 ((n : Int) / 65536 % 256), .int .u8 ((n : Int) / 16777216 % 256), .int .u8 ((n : Int) / 4294967296 % 256), .int .u8 ((n : Int) / 1099511627776 % 256)] (by rw [leL_list n hn]; rfl)
  have hmk : (Instr.makeSlice 36 (.int .i64 6) (.int .i64 6)).run Tryz.prog w = .ok (.slice (some ⟨w.heap.size, 0, none⟩) 6 6) (w.alloc (.cells #[.int .u8 0, .int .u8 0, .int .u8 0, .int .u8 0, .int .u8 0, .int .u8 0] 5)) := make_lit 6 (by omega) w _ rfl
  go_enter Tryz.func14, Tryz.ntmps14
  go_wp2_with fail
  go_rounds 7
  go_ret
  exact ⟨rfl, below1 w _⟩
set_option maxHeartbeats 1000000 in
theorem rbytes_7 (n : Nat) (w : World) (hn : n < 18446744073709551616) :
    Calls Tryz.prog 14 #[.int .u64 n, .int .i64 7] w fun e w' => e = .returned (.string (bytesN n 7)) ∧ Below w.heap.size w w' := by
  have hcv := bytes_cv2 n 7 w (by omega) #[.int .u8 ((n : Int) % 256), .int .u8 ((n : Int) / 256 % 256), .int .u8 ((n : Int) / 65536 % 256), .int .u8 ((n : Int) / 16777216 % 256), .int .u8 ((n : Int) / 4294967296 % 256), .int .u8 ((n : Int) / 1099511627776 % 256), .int .u8 ((n : Int) / 281474976710656 % 256)] (by rw [leL_list n hn]; rfl)
  have hmk : (Instr.makeSlice 36 (.int .i64 7) (.int .i64 7)).run Tryz.prog w = .ok (.slice (some ⟨w.heap.size, 0, none⟩) 7 7) (w.alloc (.cells #[.int .u8 0, .int .u8 0, .int .u8 0, .int .u8 0, .int .u8 0, .int .u8 0, .int .u8 0] 5)) := make_lit 7 (by omega) w _ rfl
  go_enter Tryz.func14, Tryz.ntmps14
  go_wp2_with fail
  go_rounds 8
  go_ret
  exact ⟨rfl, below1 w _⟩
set_option maxHeartbeats 1000000 in
theorem rbytes_8 (n : Nat) (w : World) (hn : n < 18446744073709551616) :
    Calls Tryz.prog 14 #[.int .u64 n, .int .i64 8] w fun e w' => e = .returned (.string (bytesN n 8)) ∧ Below w.heap.size w w' := by
  have hcv := bytes_cv2 n 8 w (by omega) #[.int .u8 ((n : Int) % 256), .int .u8 ((n : Int) / 256 % 256), .int .u8 ((n : Int) / 65536 % 256), .int .u8 ((n : Int) / 16777216 % 256), .int .u8 ((n : Int) / 4294967296 % 256), .int .u8 ((n : Int) / 1099511627776 % 256), .int .u8 ((n : Int) / 281474976710656 % 256), .int .u8 ((n : Int) / 72057594037927936)] (by rw [leL_list n hn]; rfl)
  have hmk : (Instr.makeSlice 36 (.int .i64 8) (.int .i64 8)).run Tryz.prog w = .ok (.slice (some ⟨w.heap.size, 0, none⟩) 8 8) (w.alloc (.cells #[.int .u8 0, .int .u8 0, .int .u8 0, .int .u8 0, .int .u8 0, .int .u8 0, .int .u8 0, .int .u8 0] 5)) := make_lit 8 (by omega) w _ rfl
  go_enter Tryz.func14, Tryz.ntmps14
  go_wp2_with fail
  go_rounds 9
  go_ret
  exact ⟨rfl, below1 w _⟩
theorem rbytes_any (n : Nat) (s : Nat) (w : World) (hn : n < 18446744073709551616) (hs : s ≤ 8) :
    Calls Tryz.prog 14 #[.int .u64 n, .int .i64 s] w fun e w' => e = .returned (.string (bytesN n s)) ∧ Below w.heap.size w w' := by
  have h : s = 0 ∨ s = 1 ∨ s = 2 ∨ s = 3 ∨ s = 4 ∨ s = 5 ∨ s = 6 ∨ s = 7 ∨ s = 8 := by omega
  rcases h with rfl | rfl | rfl | rfl | rfl | rfl | rfl | rfl | rfl
  · exact rbytes_0 n w hn
  · exact rbytes_1 n w hn
  · exact rbytes_2 n w hn
  · exact rbytes_3 n w hn
  · exact rbytes_4 n w hn
  · exact rbytes_5 n w hn
  · exact rbytes_6 n w hn
  · exact rbytes_7 n w hn
  · exact rbytes_8 n w hn
end Go.Proofs.YtjohcpokmdofkaaGreatDoor
namespace Go.Proofs.YtjohcpokmdofkaaGreatDoor
open Go.RowKit Go.Deep Go.Joins
theorem string_of {w : World} {p : Option Addr} {n cap : Nat} {D : List UInt8} (h : DAt w (.slice p n cap) D) : (convert 36 9 (.slice p n cap)).run Tryz.prog w = .ok (.string ⟨D.toArray⟩) w := by
  rcases h.2 with ⟨e, h0⟩ | ⟨a, c, e, _, _, hc⟩
  · simp only [Value.slice.injEq] at e
    obtain ⟨rfl, rfl, rfl⟩ := e
    obtain rfl : D = [] := List.eq_nil_of_length_eq_zero h0
    rw [run_convert_bytes_string w 36 9 5 none 0 0 Tryz.underlying36 Tryz.underlying5 Tryz.underlying9]
    rfl
  · simp only [Value.slice.injEq] at e
    obtain ⟨rfl, rfl, rfl⟩ := e
    exact run_convert_bytes_back (P := Tryz.prog) w 36 9 5 a cap D Tryz.underlying36 Tryz.underlying5 Tryz.underlying9 (fun j hj => hc j _ (by simp [dC, hj]))
theorem MAt.cell {w : World} {v : Value} {M : List Int} (h : MAt w v M) (h0 : 0 < M.length) :
    ∃ b off cap, v = .slice (some ⟨b, off, none⟩) M.length cap ∧ M.length ≤ cap ∧ cap ≤ maxLen ∧ b < w.heap.size ∧ ∀ j (hj : j < M.length), w.cell? ⟨b, off + j, none⟩ = some (.int .u64 M[j]) := by
  obtain ⟨b, off, cap, h1, h2, h3, h4, h5⟩ := Reads.at h (by omega)
  exact ⟨b, off, cap, h1, h2, h3, h4, fun j hj => h5 j _ (by simp [mC, hj])⟩
def Boxes (w wr : World) (a b c d : Value) (E F : Int) : Prop := RamVar wr w.heap.size a b E ∧ RamVar wr (w.heap.size + 1) c d F ∧ Below w.heap.size w wr
theorem boxes_new (w : World) (a b c d : Value) (E F : Int) : Boxes w ((w.alloc (.cells #[a, b, .int .u64 E] 39)).alloc (.cells #[c, d, .int .u64 F] 39)) a b c d E F :=
  ⟨(heap_alloc_old _ (by simp)).trans (heap_alloc_new _ _), by have h := heap_alloc_new (w.alloc (.cells #[a, b, .int .u64 E] 39)) (.cells #[c, d, .int .u64 F] 39); rwa [World.size_alloc] at h, below2 w _ _⟩
theorem Boxes.drewN {w wr : World} {a b c d : Value} {E F : Int} (h : Boxes w wr a b c d E F) (n : Nat) : Boxes w (wr.drewN n) a b c d E F :=
  ⟨h.1, h.2.1, h.2.2.trans ⟨rfl, rfl, rfl, Nat.le_refl _, fun _ _ => rfl⟩⟩
set_option maxHeartbeats 2000000 in
theorem same_true (dv mv dv2 mv2 : Value) (E : Int) (D : List UInt8) (M : List Int) (w : World) (hd : DAt w dv D) (hm : MAt w mv M) (hd2 : DAt w dv2 D) (hm2 : MAt w mv2 M) :
    Calls Tryz.prog 17 #[.agg #[dv, mv, .int .u64 E], .agg #[dv2, mv2, .int .u64 E]] w fun e w' => e = .returned (.bool true) ∧ Below w.heap.size w w' := by
  obtain ⟨p, cap, rfl⟩ := hd.is
  obtain ⟨q, cap2, rfl⟩ := hm.is
  obtain ⟨p2, cap3, rfl⟩ := hd2.is
  obtain ⟨q2, cap4, rfl⟩ := hm2.is
  have hMle := hm.le
  obtain ⟨w0, hw0⟩ : ∃ w0, w0 = (w.alloc (.cells #[.slice p D.length cap, .slice q M.length cap2, .int .u64 E] 39)).alloc (.cells #[.slice p2 D.length cap3, .slice q2 M.length cap4, .int .u64 E] 39) := ⟨_, rfl⟩
  have hb0 : Below w.heap.size w w0 := by rw [hw0]; exact below2 w _ _
  have c1 := string_of (hd.below hb0)
  have c2 := string_of (hd2.below hb0)
  have HM := Lib.hid hm
  have HM2 := Lib.hid hm2
  have HBX := Lib.hid (boxes_new w (.slice p D.length cap) (.slice q M.length cap2) (.slice p2 D.length cap3) (.slice q2 M.length cap4) E E)
  clear hd hd2 hm hm2 hb0
  subst hw0
  go_enter Tryz.func17, Tryz.ntmps17
  go_wp2_with fail
  go_loopw [5] (fun i wr => ∃ j : Nat, j ≤ M.length ∧ i = .int .i64 j ∧ Hid (Boxes w wr (.slice p D.length cap) (.slice q M.length cap2) (.slice p2 D.length cap3) (.slice q2 M.length cap4) E E)) (fun i _ => M.length - (intOf i).toNat)
  case atStart => exact ⟨0, Nat.zero_le _, rfl, HBX⟩
  case round =>
    obtain ⟨j, hj, rfl, hbx⟩ := hrel
    clear c1 c2
    obtain ⟨x0, x1, x2⟩ := hbx.out.1.cells
    obtain ⟨y0, y1, y2⟩ := hbx.out.2.1.cells
    by_cases hlt : j < M.length
    · obtain ⟨b, off, _, e1, _, _, hb, hc⟩ := (HM.out.below hbx.out.2.2).cell (by omega)
      obtain ⟨b', off', _, e2, _, _, hb', hc'⟩ := (HM2.out.below hbx.out.2.2).cell (by omega)
      simp only [Value.slice.injEq, true_and] at e1 e2
      obtain ⟨rfl, rfl⟩ := e1
      obtain ⟨rfl, rfl⟩ := e2
      have d1 := hc j hlt
      have d2 := hc' j hlt
      clear hc hc'
      generalize M[j] = X at d1 d2
      go_wp2_with fail
      go_quiet (fail)
      go_wp2_with fail
      exact ⟨⟨j + 1, by omega, by go_num, Lib.hid (hbx.out.drewN _)⟩, by simp [intOf]; omega⟩
    · go_wp2_with fail
      go_ret
      exact ⟨rfl, hbx.out.2.2⟩
end Go.Proofs.YtjohcpokmdofkaaGreatDoor
