/- The disk of the reference, and what of the disk the log calls (my own, from the seat of the disk): Sf. -/
import Derived.Test.YtkecjopojnllnaaPSe
namespace Go.Proofs.Ytkecjopojnllnaa
open Go.RowKit Go.Deep Go.Joins
theorem idx_same {l l' : List Rw} (h : l'.map core = l.map core) (x : ByteArray) : idx (sameName x) l' = idx (sameName x) l := by
  have e : ∀ m : List Rw, m.findIdx? (sameName x) = (m.map core).findIdx? (fun f => sameN f.name x) := fun m => by rw [List.findIdx?_map]; rfl
  unfold idx
  rw [e l', e l, h]
theorem core_mem {l l' : List Rw} (h : l'.map core = l.map core) {r : Rw} (hr : r ∈ l') : ∃ r0 ∈ l, r0.name = r.name ∧ r0.safe = r.safe ∧ r0.opens = r.opens := by
  have h1 : core r ∈ l.map core := h ▸ List.mem_map_of_mem hr
  obtain ⟨r0, h2, h3⟩ := List.mem_map.1 h1
  unfold core at h3
  simp only [Fl.mk.injEq] at h3
  exact ⟨r0, h2, h3⟩
/-- Files that are small. -/
def Small (l : List Rw) : Prop := l.length ≤ 1048576 ∧ ∀ r ∈ l, r.opens.length ≤ 1048576 ∧ r.safe.size ≤ 1048576 ∧ ∀ x ∈ r.opens, x.bytes.size ≤ 1048576
theorem Small.core {l l' : List Rw} (hs : Small l) (h : l'.map core = l.map core) : Small l' := by
  have hl : l'.length = l.length := by simpa using congrArg List.length h
  refine ⟨by rw [hl]; exact hs.1, fun r hr => ?_⟩
  obtain ⟨r0, h0, _, h2, h3⟩ := core_mem h hr
  rw [← h2, ← h3]
  exact hs.2 r0 h0
theorem Small.okay {l : List Rw} (hs : Small l) : Okay l := fun r hr => by
  obtain ⟨h1, h2, h3⟩ := hs.2 r hr
  exact ⟨by omega, fun x hx => by have := h3 x hx; omega, by omega⟩
theorem Small.refs {l : List Rw} (hs : Small l) : ∀ r ∈ l, r.opens.length ≤ 1099511627776 ∧ r.safe.size ≤ 1099511627776 ∧ ∀ x ∈ r.opens, x.bytes.size ≤ 1099510579200 := fun r hr => by
  obtain ⟨h1, h2, h3⟩ := hs.2 r hr
  exact ⟨by omega, by omega, fun x hx => by have := h3 x hx; omega⟩
/-- All bytes of a file by its name: the program's answer and the reference's. -/
theorem bytes_both (l l1 : List Rw) (v v1 : Value) (x : ByteArray) (hc : l1.map core = l.map core) (hs : Small l) : ∃ (A : ByteArray) (E : Int),
    (∀ W : World, Reads W v1 3 l1.length (rowCells l1) → Opens W l1 → Calls Try.prog 73 #[.agg #[v1], .string x] W fun e w' => e = .returned (.tuple #[.string A, .int .i64 E]) ∧ Below W.heap.size W w') ∧
    (∀ W : World, Reads W v 3 l.length (rowCells l) → Opens W l → Calls Try.prog 39 #[.agg #[v], .string x] W fun e w' => e = .returned (.tuple #[.string A, .int .i64 E]) ∧ Below W.heap.size W w') := by
  have hs1 := hs.core hc
  have hl := hs.1
  have hl1 := hs1.1
  rcases idx_cases (sameName x) l with ⟨_, hi⟩ | ⟨k, hk, hi, _, _⟩
  · exact ⟨⟨#[]⟩, 20, fun W h _ => bytes_none l1 v1 x W h (by omega) (by rw [idx_same hc, hi]), fun W h _ => bytes2_none l v x W h (by omega) hi⟩
  · have hll : l1.length = l.length := by simpa using congrArg List.length hc
    have hk1 : k < l1.length := by omega
    obtain ⟨e0, e1, e2⟩ := core_at hc k hk1 hk
    refine ⟨layB l[k].safe l[k].opens, 0, fun W h ho => ?_, fun W h ho => ?_⟩
    · have := bytes_some l1 v1 x W k hk1 h ho hs1.okay (by omega) (by rw [idx_same hc, hi])
      rw [← e1, ← e2] at this
      exact this
    · obtain ⟨h1, h2, h3⟩ := hs.refs l[k] (List.getElem_mem _)
      exact bytes2_some l v x W k hk h ho (by omega) h2 h1 h3 hi
end Go.Proofs.Ytkecjopojnllnaa
