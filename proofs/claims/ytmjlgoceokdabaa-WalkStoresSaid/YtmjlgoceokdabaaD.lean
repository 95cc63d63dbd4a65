/- Memory that the call owns. -/
import Derived.Test.YtmjlgoceokdabaaC
import Derived.Laws.OwnMore
namespace Go.Proofs.Ytmjlgoceokdabaa
open Go.RowKit Go.Deep Go.Joins
theorem heap_alloc_new (w : World) (o : Obj) : (w.alloc o).heap[w.heap.size]? = some o := by
  show (w.heap.push o)[w.heap.size]? = _
  rw [Array.getElem?_push, if_pos rfl]
theorem heap_alloc_old {w : World} (o : Obj) {k : Nat} (h : k < w.heap.size) : (w.alloc o).heap[k]? = w.heap[k]? := Below.heap_alloc _ _ _ h

/-- Of what was there only the blocks of S may have turned. -/
structure Touch (w w' : World) (S : Nat → Prop) : Prop where
  os : w'.os = w.os
  tape : w'.tape = w.tape
  output : w'.output = w.output
  size : w.heap.size ≤ w'.heap.size
  block : ∀ k, k < w.heap.size → ¬ S k → w'.heap[k]? = w.heap[k]?
theorem Touch.refl (w : World) (S : Nat → Prop) : Touch w w S := ⟨rfl, rfl, rfl, Nat.le_refl _, fun _ _ _ => rfl⟩
theorem Touch.trans {a b c : World} {S : Nat → Prop} (h : Touch a b S) (k : Touch b c S) : Touch a c S :=
  ⟨k.os.trans h.os, k.tape.trans h.tape, k.output.trans h.output, Nat.le_trans h.size k.size, fun i hi hs => (k.block i (Nat.lt_of_lt_of_le hi h.size) hs).trans (h.block i hi hs)⟩
theorem Touch.mono {w w' : World} {S T : Nat → Prop} (h : Touch w w' S) (hST : ∀ k, k < w.heap.size → S k → T k) : Touch w w' T :=
  ⟨h.os, h.tape, h.output, h.size, fun k hk ht => h.block k hk fun hs => ht (hST k hk hs)⟩
theorem Touch.drew {a w : World} {S : Nat → Prop} (h : Touch a w S) : Touch a w.drew S := ⟨h.os, h.tape, h.output, h.size, h.block⟩
theorem Touch.alloc {a w : World} {S : Nat → Prop} (h : Touch a w S) (o : Obj) : Touch a (w.alloc o) S :=
  h.trans ⟨rfl, rfl, rfl, by simp, fun _ hk _ => heap_alloc_old _ hk⟩
theorem Touch.setCell {a w : World} {S : Nat → Prop} (h : Touch a w S) {p : Addr} (hp : S p.block ∨ a.heap.size ≤ p.block) (u : Value) : Touch a (w.setCell p u) S :=
  ⟨h.os, h.tape, h.output, by simp [World.setCell]; exact h.size, fun k hk hs => (Below.heap_setCell _ _ _ _ (fun e => by
    rcases hp with hp | hp
    · exact hs (e ▸ hp)
    · omega)).trans (h.block k hk hs)⟩
theorem Touch.setRow {a w : World} {S : Nat → Prop} (h : Touch a w S) {g : Nat} (hp : S g ∨ a.heap.size ≤ g) (cs : Array Value) : Touch a (w.setRow g cs) S :=
  ⟨h.os, h.tape, h.output, by rw [size_setRow]; exact h.size, fun k hk hs => (setRow_other w g k cs (fun e => by
    rcases hp with hp | hp
    · exact hs (e ▸ hp)
    · omega)).trans (h.block k hk hs)⟩
theorem touch_of_below {w w' : World} (h : Below w.heap.size w w') (S : Nat → Prop) : Touch w w' S := ⟨h.os, h.tape, h.output, h.size, fun k hk _ => h.block k hk⟩
theorem Touch.below {a w w' : World} {S : Nat → Prop} {B : Nat} (hb : Below B a w) (h : Touch w w' S) (hS : ∀ k, S k → B ≤ k) (hB : B ≤ w.heap.size) : Below B a w' :=
  hb.trans ⟨h.os, h.tape, h.output, h.size, fun k hk => h.block k (by omega) fun hs => by have := hS k hs; omega⟩

/-! ### Rows of bytes and of marks that the call owns -/
def OwnD (w : World) (B : Nat) (v : Value) (D : List UInt8) : Prop := w.ownsRow B 5 1 v D.length (dC D)
def OwnM (w : World) (B : Nat) (v : Value) (M : List Int) : Prop := w.ownsRow B 22 1 v M.length (mC M)
theorem reads_of_owns {w : World} {B n size : Nat} {e : TypeId} {v : Value} {xs : List Value} (h : w.ownsRow B e size v n xs) : Reads w v size n xs := by
  refine ⟨h.1, ?_⟩
  rcases h.2 with h2 | ⟨g, cap, cur, hv, hB, hg, h3, h4, h5, h6⟩
  · exact .inl h2
  · refine .inr ⟨⟨g, 0, none⟩, cap, hv, h3, h4, fun j u hu => ?_⟩
    exact h.cells (g := g) (by rw [hv]; rfl) j u hu
theorem OwnD.at {w : World} {B : Nat} {v : Value} {D : List UInt8} (h : OwnD w B v D) : DAt w v D := reads_of_owns h
theorem OwnM.at {w : World} {B : Nat} {v : Value} {M : List Int} (h : OwnM w B v M) : MAt w v M := reads_of_owns h
theorem owns_same {w w' : World} {B n size : Nat} {e : TypeId} {v : Value} {xs : List Value} (h : w.ownsRow B e size v n xs) (hk : ∀ g, v.ownBlock = some g → w'.heap[g]? = w.heap[g]?) : w'.ownsRow B e size v n xs := by
  refine ⟨h.1, ?_⟩
  rcases h.2 with h2 | ⟨g, cap, cur, h1, h2, h3, r⟩
  · exact .inl h2
  · exact .inr ⟨g, cap, cur, h1, h2, (hk g (by rw [h1]; rfl)).trans h3, r⟩
theorem owns_lt {w : World} {B n size : Nat} {e : TypeId} {v : Value} {xs : List Value} (h : w.ownsRow B e size v n xs) {g : Nat} (hg : v.ownBlock = some g) : B ≤ g ∧ g < w.heap.size := h.lt g hg
theorem owns_below {w w' : World} {B n size : Nat} {e : TypeId} {v : Value} {xs : List Value} (h : w.ownsRow B e size v n xs) (hb : Below w.heap.size w w') : w'.ownsRow B e size v n xs :=
  owns_same h fun _ hg => hb.block _ (owns_lt h hg).2
theorem OwnD.below {w w' : World} {B : Nat} {v : Value} {D : List UInt8} (h : OwnD w B v D) (hb : Below w.heap.size w w') : OwnD w' B v D := owns_below h hb
theorem OwnM.below {w w' : World} {B : Nat} {v : Value} {M : List Int} (h : OwnM w B v M) (hb : Below w.heap.size w w') : OwnM w' B v M := owns_below h hb
theorem owns_touch {w w' : World} {B n size : Nat} {e : TypeId} {v : Value} {xs : List Value} {S : Nat → Prop} (h : w.ownsRow B e size v n xs) (hb : Touch w w' S) (hS : ∀ g, v.ownBlock = some g → ¬ S g) : w'.ownsRow B e size v n xs :=
  owns_same h fun g hg => hb.block _ (owns_lt h hg).2 (hS g hg)
theorem owns_base {w : World} {B B' n size : Nat} {e : TypeId} {v : Value} {xs : List Value} (h : w.ownsRow B e size v n xs) (hB : B' ≤ B) : w.ownsRow B' e size v n xs := by
  refine ⟨h.1, ?_⟩
  rcases h.2 with h2 | ⟨g, cap, cur, h1, h2, r⟩
  · exact .inl h2
  · exact .inr ⟨g, cap, cur, h1, Nat.le_trans hB h2, r⟩
theorem owns_block {w : World} {B n size g : Nat} {e : TypeId} {v : Value} {xs : List Value} (h : w.ownsRow B e size v n xs) (hg : v.ownBlock = some g) : ∃ cur, w.heap[g]? = some (.cells cur e (0, 0)) := by
  rcases h.2 with ⟨h1, _⟩ | ⟨g', cap, cur, h1, _, h2, _⟩
  · rw [h1] at hg; cases hg
  · rw [h1] at hg
    simp only [Value.ownBlock, Option.some.injEq] at hg
    subst hg
    exact ⟨cur, h2⟩
/-- Rows of different element types are two blocks. -/
theorem rows_apart {w : World} {B B2 n m s1 s2 g : Nat} {e1 e2 : TypeId} {v u : Value} {xs ys : List Value} (h : w.ownsRow B e1 s1 v n xs) (k : w.ownsRow B2 e2 s2 u m ys) (hne : e1 ≠ e2) (hg : v.ownBlock = some g) : u.ownBlock ≠ some g := by
  intro hu
  obtain ⟨c1, h1⟩ := owns_block h hg
  obtain ⟨c2, h2⟩ := owns_block k hu
  rw [h1] at h2
  simp only [Option.some.injEq, Obj.cells.injEq] at h2
  exact hne h2.2.1
theorem not_at {w : World} {B n size pb : Nat} {e t : TypeId} {v : Value} {xs : List Value} {c : Array Value} (h : w.ownsRow B e size v n xs) (hp : w.heap[pb]? = some (.cells c t (0, 0))) (hne : e ≠ t) : v.ownBlock ≠ some pb := by
  intro hb
  obtain ⟨c2, h2⟩ := owns_block h hb
  rw [hp] at h2
  simp only [Option.some.injEq, Obj.cells.injEq] at h2
  exact hne h2.2.1.symm
theorem owns_shape {w : World} {B n size : Nat} {e : TypeId} {v : Value} {xs : List Value} (h : w.ownsRow B e size v n xs) : ∃ p cap, v = .slice p n cap := by
  rcases h.2 with ⟨h1, h2⟩ | ⟨g, cap, _, h1, _⟩
  · exact ⟨_, _, h2 ▸ h1⟩
  · exact ⟨_, _, h1⟩
theorem owns_whole {w : World} {B n g : Nat} {e : TypeId} {cur : Array Value} (hB : B ≤ g) (hg : w.heap[g]? = some (.cells cur e (0, 0))) (hn : cur.size = n) (hm : n ≤ maxLen) : w.ownsRow B e 1 (.slice (some ⟨g, 0, none⟩) n n) n cur.toList :=
  ⟨by rw [Array.length_toList, hn, Nat.mul_one], .inr ⟨g, n, cur, rfl, hB, hg, Nat.le_refl _, hm, by omega, by rw [Nat.mul_one, ← hn, ← Array.length_toList, List.take_length]⟩⟩

/-- A variable that is one struct of memory: block z. -/
def RamVar (w : World) (z : Nat) (dv mv : Value) (E : Int) : Prop := w.heap[z]? = some (.cells #[dv, mv, .int .u64 E] 28 (0, 0))
theorem RamVar.lt {w : World} {z : Nat} {dv mv : Value} {E : Int} (h : RamVar w z dv mv E) : z < w.heap.size := (Array.getElem?_eq_some_iff.1 h).1
theorem RamVar.cells {w : World} {z : Nat} {dv mv : Value} {E : Int} (h : RamVar w z dv mv E) :
    w.cell? ⟨z, 0, none⟩ = some dv ∧ w.cell? ⟨z, 1, none⟩ = some mv ∧ w.cell? ⟨z, 2, none⟩ = some (.int .u64 E) := by
  refine ⟨?_, ?_, ?_⟩ <;> rw [cell_of_row w z _ _ 28 (0, 0) h] <;> rfl
theorem RamVar.below {w w' : World} {z : Nat} {dv mv : Value} {E : Int} (h : RamVar w z dv mv E) (hb : Below w.heap.size w w') : RamVar w' z dv mv E := (hb.block z h.lt).trans h
theorem RamVar.touch {w w' : World} {z : Nat} {dv mv : Value} {E : Int} {S : Nat → Prop} (h : RamVar w z dv mv E) (hb : Touch w w' S) (hS : ¬ S z) : RamVar w' z dv mv E := (hb.block z h.lt hS).trans h

theorem RamVar.free {w : World} {z : Nat} {dv mv : Value} {E : Int} (h : RamVar w z dv mv E) (j : Nat) : w.frozen? ⟨z, j, none⟩ = false := by
  unfold World.frozen?
  have h' : w.heap[z]? = some (.cells #[dv, mv, .int .u64 E] 28 (0, 0)) := h
  simp only [h']
  simp
/-- A struct of memory stored into such a variable. -/
theorem RamVar.store {w : World} {z : Nat} {dv mv : Value} {E : Int} (h : RamVar w z dv mv E) (dv' mv' : Value) (E' : Int) :
    RamVar (((w.setCell ⟨z, 0, none⟩ dv').setCell ⟨z, 1, none⟩ mv').setCell ⟨z, 2, none⟩ (.int .u64 E')) z dv' mv' E' := by
  have h' : w.heap[z]? = some (.cells #[dv, mv, .int .u64 E] 28 (0, 0)) := h
  have h1 := heap_setCell_same w z 0 _ 28 dv' h'
  have h2 := heap_setCell_same _ z 1 _ 28 mv' h1
  have h3 := heap_setCell_same _ z 2 _ 28 (.int .u64 E') h2
  exact h3
theorem new3 {w0 : World} {o1 o2 o3 : Obj} {N : Nat} (h : w0.heap.size = N) : (((w0.alloc o1).alloc o2).alloc o3).drew.heap[N]? = some o1 ∧ (((w0.alloc o1).alloc o2).alloc o3).drew.heap[N + 1]? = some o2 ∧ (((w0.alloc o1).alloc o2).alloc o3).drew.heap[N + 1 + 1]? = some o3 := by
  subst h
  refine ⟨?_, ?_, ?_⟩
  · show ((((w0.alloc o1).alloc o2).alloc o3)).heap[w0.heap.size]? = _
    rw [heap_alloc_old _ (by simp; omega), heap_alloc_old _ (by simp), heap_alloc_new]
  · show ((((w0.alloc o1).alloc o2).alloc o3)).heap[w0.heap.size + 1]? = _
    rw [heap_alloc_old _ (by simp)]
    have := heap_alloc_new (w0.alloc o1) o2
    rwa [World.size_alloc] at this
  · show ((((w0.alloc o1).alloc o2).alloc o3)).heap[w0.heap.size + 1 + 1]? = _
    have := heap_alloc_new ((w0.alloc o1).alloc o2) o3
    rwa [World.size_alloc, World.size_alloc] at this


end Go.Proofs.Ytmjlgoceokdabaa
