/- A disk that is the call's own: what operations make of it in memory; and the operations on the plain side. -/
import Derived.Test.YtfpdfhncifcghaaH
import Derived.Test.YtfpdfhncifcghaaO
import Derived.Test.YtfpdfhncifcghaaP
namespace Go.Proofs.Ytfpdfhncifcghaa
open Go.RowKit

def OwnE (w : World) (B : Nat) (v : Value) (l : List Rw) : Prop :=
  w.ownsRow B 35 3 v l.length (rowCells l) ∧ (∀ r ∈ l, w.ownsRow B 37 2 r.ov r.opens.length (wrCells r.opens)) ∧ (l.filterMap fun r => r.ov.ownBlock).Nodup

theorem OwnD.toE {w : World} {B : Nat} {v : Value} {l : List Rw} (h : OwnD w B v l) : OwnE w B v l := by
  refine ⟨h.1, h.2.1, ?_⟩
  have := h.2.2
  rw [List.filterMap_cons] at this
  have e : (l.map (·.ov)).filterMap Value.ownBlock = l.filterMap fun r => r.ov.ownBlock := by rw [List.filterMap_map]; rfl
  rw [e] at this
  split at this
  · exact this
  · exact (List.nodup_cons.1 this).2
theorem OwnE.below {w w' : World} {B : Nat} {v : Value} {l : List Rw} (h : OwnE w B v l) (hb : Below w.heap.size w w') : OwnE w' B v l :=
  ⟨owns_below h.1 hb, fun r hr => owns_below (h.2.1 r hr) hb, h.2.2⟩
theorem OwnE.reads {w : World} {B : Nat} {v : Value} {l : List Rw} (h : OwnE w B v l) : Reads w v 3 l.length (rowCells l) := reads_of_owns h.1
theorem OwnE.opens {w : World} {B : Nat} {v : Value} {l : List Rw} (h : OwnE w B v l) : Opens w l := fun r hr => reads_of_owns (h.2.1 r hr)
theorem OwnE.one {w : World} {B : Nat} {v : Value} {l : List Rw} (h : OwnE w B v l) : ∀ u ∈ rowCells l, u.oneCell' = true := by
  intro u hu
  obtain ⟨r, hr, hu⟩ := List.mem_flatMap.1 hu
  simp only [List.mem_cons, List.not_mem_nil, or_false] at hu
  rcases hu with rfl | rfl | rfl
  · rfl
  · rfl
  · obtain ⟨p, cap, h⟩ := owns_shape (h.2.1 r hr)
    rw [h]; rfl
theorem owns_block {w : World} {B n size g : Nat} {e : TypeId} {v : Value} {xs : List Value} (h : w.ownsRow B e size v n xs) (hg : v.ownBlock = some g) : ∃ cur, w.heap[g]? = some (.cells cur e (0, 0)) := by
  rcases h.2 with ⟨h1, _⟩ | ⟨g', cap, cur, h1, _, h2, _⟩
  · rw [h1] at hg; cases hg
  · rw [h1] at hg
    simp only [Value.ownBlock, Option.some.injEq] at hg
    subst hg
    exact ⟨cur, h2⟩
/-- A row of files and a row of writes are two blocks: their elements' types differ. -/
theorem rows_apart {w : World} {B n m s1 s2 g : Nat} {e1 e2 : TypeId} {v u : Value} {xs ys : List Value} (h : w.ownsRow B e1 s1 v n xs) (k : w.ownsRow B e2 s2 u m ys) (hne : e1 ≠ e2) (hg : v.ownBlock = some g) : u.ownBlock ≠ some g := by
  intro hu
  obtain ⟨c1, h1⟩ := owns_block h hg
  obtain ⟨c2, h2⟩ := owns_block k hu
  rw [h1] at h2
  simp only [Option.some.injEq, Obj.cells.injEq] at h2
  exact hne h2.2.1

theorem nodup_set : ∀ (l : List Rw) (k : Nat) (r : Rw) (hk : k < l.length), (l.filterMap fun r => r.ov.ownBlock).Nodup → (∀ b, r.ov.ownBlock = some b → l[k].ov.ownBlock = some b ∨ ∀ s ∈ l, s.ov.ownBlock ≠ some b) →
    ((l.set k r).filterMap fun r => r.ov.ownBlock).Nodup
  | [], _, _, h, _, _ => absurd h (by simp)
  | x :: l, 0, r, _, hn, hr => by
    rw [List.set_cons_zero, List.filterMap_cons]
    rw [List.filterMap_cons] at hn
    have hl : (l.filterMap fun r => r.ov.ownBlock).Nodup := by
      split at hn
      · exact hn
      · exact (List.nodup_cons.1 hn).2
    split
    · exact hl
    · rename_i b hb
      refine List.nodup_cons.2 ⟨fun hm => ?_, hl⟩
      obtain ⟨s, hs, hsb⟩ := List.mem_filterMap.1 hm
      rcases hr b hb with h1 | h1
      · have h1' : x.ov.ownBlock = some b := h1
        rw [h1'] at hn
        exact (List.nodup_cons.1 hn).1 hm
      · exact h1 s (List.mem_cons_of_mem _ hs) hsb
  | x :: l, k + 1, r, hk, hn, hr => by
    rw [List.set_cons_succ, List.filterMap_cons]
    rw [List.filterMap_cons] at hn
    have hk' : k < l.length := by simpa using hk
    have hl : (l.filterMap fun r => r.ov.ownBlock).Nodup := by
      split at hn
      · exact hn
      · exact (List.nodup_cons.1 hn).2
    have ih := nodup_set l k r hk' hl fun b hb => (hr b hb).imp id fun h s hs => h s (List.mem_cons_of_mem _ hs)
    split
    · exact ih
    · rename_i b hb
      refine List.nodup_cons.2 ⟨fun hm => ?_, ih⟩
      rw [hb] at hn
      obtain ⟨s, hs, hsb⟩ := List.mem_filterMap.1 hm
      rcases List.mem_or_eq_of_mem_set hs with h1 | h1
      · exact (List.nodup_cons.1 hn).1 (List.mem_filterMap.2 ⟨s, h1, hsb⟩)
      · subst h1
        rcases hr b hsb with h2 | h2
        · exact (List.nodup_cons.1 hn).1 (List.mem_filterMap.2 ⟨l[k], List.getElem_mem _, h2⟩)
        · exact h2 x (List.mem_cons_self ..) hb

/-- What an operation may turn: nothing below B but the cell of the disk. -/
structure Only (B pb : Nat) (w w' : World) : Prop where
  os : w'.os = w.os
  tape : w'.tape = w.tape
  output : w'.output = w.output
  size : w.heap.size ≤ w'.heap.size
  block : ∀ k, k < B → k ≠ pb → w'.heap[k]? = w.heap[k]?
theorem Only.trans {B pb : Nat} {a b c : World} (h : Only B pb a b) (k : Only B pb b c) : Only B pb a c :=
  ⟨k.os.trans h.os, k.tape.trans h.tape, k.output.trans h.output, Nat.le_trans h.size k.size, fun i hi hp => (k.block i hi hp).trans (h.block i hi hp)⟩
theorem only_of_below {B pb : Nat} {a b : World} (h : Below a.heap.size a b) (hB : B ≤ a.heap.size) : Only B pb a b :=
  ⟨h.os, h.tape, h.output, h.size, fun k hk _ => h.block k (by omega)⟩
theorem only_of_grown {B pb : Nat} {a b : World} {row : Option Nat} (h : a.grownBy b row) (hB : B ≤ a.heap.size) (hr : ∀ k, row = some k → B ≤ k) : Only B pb a b :=
  ⟨h.os, h.tape, h.output, h.size, fun k hk _ => h.block k (by omega) (fun e => by have := hr k e.symm; omega)⟩
theorem only_setCell {B pb : Nat} (a : World) (g j : Nat) (u : Value) (hg : B ≤ g ∨ g = pb) : Only B pb a (a.setCell ⟨g, j, none⟩ u) :=
  ⟨rfl, rfl, rfl, by simp [World.setCell], fun k hk hp => Below.heap_setCell _ _ _ _ (by simp; omega)⟩

/-- File number k gets other safe bytes and another row of writes. -/
theorem OwnE.set {w w' : World} {B g n cap : Nat} {l : List Rw} (h : OwnE w B (.slice (some ⟨g, 0, none⟩) n cap) l) (k : Nat) (hk : k < l.length) (r : Rw)
    (hw : ∀ s ∈ l, s.ov.ownBlock ≠ l[k].ov.ownBlock ∨ s.ov.ownBlock = none → w'.ownsRow B 37 2 s.ov s.opens.length (wrCells s.opens)) (hr : w'.ownsRow B 37 2 r.ov r.opens.length (wrCells r.opens))
    (hf : w'.ownsRow B 35 3 (.slice (some ⟨g, 0, none⟩) n cap) l.length (rowCells (l.set k r)))
    (hb : ∀ b, r.ov.ownBlock = some b → l[k].ov.ownBlock = some b ∨ w.heap.size ≤ b) : OwnE w' B (.slice (some ⟨g, 0, none⟩) n cap) (l.set k r) := by
  refine ⟨by rw [List.length_set]; exact hf, fun s hs => ?_, nodup_set l k r hk h.2.2 fun b hb' => (hb b hb').imp id fun h1 s hs e => ?_⟩
  · rw [List.set_eq_take_append_cons_drop, if_pos hk] at hs
    have hnd := h.2.2
    have hsplit : l = l.take k ++ l[k] :: l.drop (k + 1) := by rw [List.getElem_cons_drop, List.take_append_drop]
    rcases List.mem_append.1 hs with hs | hs
    · refine hw s (List.mem_of_mem_take hs) ?_
      by_cases e : s.ov.ownBlock = none
      · exact .inr e
      · refine .inl fun e2 => ?_
        obtain ⟨b, hb⟩ := Option.ne_none_iff_exists'.1 e
        rw [hsplit, List.filterMap_append, List.nodup_append] at hnd
        exact hnd.2.2 b (List.mem_filterMap.2 ⟨s, hs, hb⟩) b (List.mem_filterMap.2 ⟨l[k], List.mem_cons_self .., e2 ▸ hb⟩) rfl
    · rcases List.mem_cons.1 hs with rfl | hs
      · exact hr
      · refine hw s (List.mem_of_mem_drop hs) ?_
        by_cases e : s.ov.ownBlock = none
        · exact .inr e
        · refine .inl fun e2 => ?_
          obtain ⟨b, hb⟩ := Option.ne_none_iff_exists'.1 e
          rw [hsplit, List.filterMap_append, List.nodup_append, List.filterMap_cons, ← e2, hb] at hnd
          exact (List.nodup_cons.1 hnd.2.1).1 (List.mem_filterMap.2 ⟨s, hs, hb⟩)
  · have := ((h.2.1 s hs).lt b e).2
    omega
end Go.Proofs.Ytfpdfhncifcghaa
