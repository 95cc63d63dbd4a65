/- The disk of the reference, and what of the disk the log calls (my own, from the seat of the disk): U. -/
import Derived.Test.YtkecjopojnllnaaPT
namespace Go.Proofs.Ytkecjopojnllnaa
open Go.RowKit Go.Deep Go.Joins
def doF : List Fl → List DOp → List Fl × Int × Int
  | fs, [] => (fs, 0, 0)
  | fs, o :: r => if (changeF fs o).2 ≠ 0 then ((changeF fs o).1, 0, (changeF fs o).2) else ((doF (changeF fs o).1 r).1, (doF (changeF fs o).1 r).2.1 + 1, (doF (changeF fs o).1 r).2.2)
/-- Sizes on the plain side. -/
structure FitsF (fs : List Fl) (n m : Nat) : Prop where
  files : fs.length ≤ n
  opens : ∀ f ∈ fs, f.opens.length ≤ m
  safe : ∀ f ∈ fs, f.safe.size ≤ 140737489403904
  bytes : ∀ f ∈ fs, ∀ x ∈ f.opens, x.bytes.size ≤ 140737488355328
theorem layB_size (s : ByteArray) (l : List Wr) (hs : s.size ≤ 140737489403904) (hb : ∀ x ∈ l, x.bytes.size ≤ 140737488355328) : (layB s l).size ≤ 140737489403904 := by
  unfold layB
  split
  · exact hs
  · have h1 : (overAll (spliceB (List.replicate (sizeUp s.size l) 0) 0 s) l).length = sizeUp s.size l := by
      have h0 : (spliceB (List.replicate (sizeUp s.size l) 0) 0 s).length = sizeUp s.size l := by
        unfold spliceB
        rw [length_splice _ _ _ (by rw [len_eq]; simpa using sizeUp_ge _ _)]
        simp
      have : ∀ (m : List Wr) (L : List UInt8), (∀ x ∈ m, wk x = true → x.pos.toNat + x.bytes.size ≤ L.length) → (overAll L m).length = L.length := by
        intro m
        induction m with
        | nil => intro L _; rfl
        | cons x m ih =>
          intro L h
          have hx := length_over L x (h x (by simp))
          show (overAll (over L x) m).length = _
          rw [ih (over L x) (fun y hy hw => by rw [hx]; exact h y (by simp [hy]) hw), hx]
      rw [this l _ (fun x hx hw => by rw [h0]; exact sizeUp_has _ _ _ hx hw), h0]
    have h2 : (ByteArray.mk (overAll (spliceB (List.replicate (sizeUp s.size l) 0) 0 s) l).toArray).size = sizeUp s.size l := by
      refine Eq.trans ?_ h1
      show (overAll _ l).toArray.size = _
      rw [List.size_toArray]
    rw [h2]
    exact sizeUp_le _ _ hs hb
theorem fits_modify {fs : List Fl} {n m : Nat} (h : FitsF fs n m) (k : Nat) (g : Fl → Fl) (ho : ∀ f ∈ fs, (g f).opens.length ≤ m + 1) (hs : ∀ f ∈ fs, (g f).safe.size ≤ 140737489403904) (hb : ∀ f ∈ fs, ∀ x ∈ (g f).opens, x.bytes.size ≤ 140737488355328) :
    FitsF (fs.modify k g) n (m + 1) := by
  have hmem : ∀ f ∈ fs.modify k g, f ∈ fs ∨ ∃ f0 ∈ fs, f = g f0 := by
    intro f hf
    obtain ⟨i, hi⟩ := List.mem_iff_getElem?.1 hf
    rw [List.getElem?_modify] at hi
    cases hx : fs[i]? with
    | none => rw [hx] at hi; cases hi
    | some y =>
      rw [hx] at hi
      have hy := List.mem_of_getElem? hx
      by_cases e : k = i
      · simp [e] at hi; exact .inr ⟨y, hy, hi.symm⟩
      · simp [e] at hi; exact .inl (hi ▸ hy)
  refine ⟨by rw [List.length_modify]; exact h.files, fun f hf => ?_, fun f hf => ?_, fun f hf => ?_⟩
  · rcases hmem f hf with h1 | ⟨f0, h1, rfl⟩
    · exact Nat.le_succ_of_le (h.opens f h1)
    · exact ho f0 h1
  · rcases hmem f hf with h1 | ⟨f0, h1, rfl⟩
    · exact h.safe f h1
    · exact hs f0 h1
  · rcases hmem f hf with h1 | ⟨f0, h1, rfl⟩
    · exact h.bytes f h1
    · exact hb f0 h1
theorem fits_more {fs : List Fl} {n m n' m' : Nat} (h : FitsF fs n m) (hn : n ≤ n') (hm : m ≤ m') : FitsF fs n' m' :=
  ⟨Nat.le_trans h.files hn, fun f hf => Nat.le_trans (h.opens f hf) hm, h.safe, h.bytes⟩
theorem fits_sub {fs gs : List Fl} {n m : Nat} (h : FitsF fs n m) (hl : gs.length ≤ fs.length) (hs : ∀ f ∈ gs, f ∈ fs) : FitsF gs n m :=
  ⟨Nat.le_trans hl h.files, fun f hf => h.opens f (hs f hf), fun f hf => h.safe f (hs f hf), fun f hf => h.bytes f (hs f hf)⟩
theorem changeF_fits {fs : List Fl} {n m : Nat} (h : FitsF fs n m) (o : DOp) : FitsF (changeF fs o).1 (n + 1) (m + 1) := by
  have h' : FitsF fs (n + 1) (m + 1) := fits_more h (Nat.le_succ n) (Nat.le_succ m)
  have happ : ∀ {gs : List Fl} {n : Nat}, FitsF gs n m → ∀ k, (o.bytes.size : Int) ≤ 1048576 → FitsF (gs.modify k (fun f => ⟨f.name, f.safe, f.opens ++ [⟨o.pos, o.bytes⟩]⟩)) n (m + 1) := fun {gs n} hg k hb =>
    fits_modify hg k _ (fun f hf => by have := hg.opens f hf; simp; omega) (fun f hf => hg.safe f hf) (fun f hf x hx => by
      rcases List.mem_append.1 hx with hx | hx
      · exact hg.bytes f hf x hx
      · rw [List.mem_singleton] at hx; subst hx; show o.bytes.size ≤ _; omega)
  unfold changeF
  split
  · exact h'
  split
  · unfold putF
    split
    · exact h'
    split
    · exact h'
    · rename_i hp hlong
      have hb : (o.bytes.size : Int) ≤ 1048576 := by omega
      split
      · split
        · exact h'
        · refine happ (gs := insertAt fs (placeF o.name fs) (newFile o.name)) (n := n + 1) ⟨?_, ?_, ?_, ?_⟩ _ hb
          · have := h.files; simp [insertAt]; omega
          all_goals
            intro f hf
            have hf' : f ∈ fs ∨ f = newFile o.name := by
              unfold insertAt at hf
              rcases List.mem_append.1 hf with hf | hf
              · exact .inl (List.mem_of_mem_take hf)
              · rcases List.mem_cons.1 hf with rfl | hf
                · exact .inr rfl
                · exact .inl (List.mem_of_mem_drop hf)
          · rcases hf' with hf' | rfl
            · exact h.opens f hf'
            · exact Nat.zero_le _
          · rcases hf' with hf' | rfl
            · exact h.safe f hf'
            · exact Nat.zero_le _
          · rcases hf' with hf' | rfl
            · exact h.bytes f hf'
            · intro x hx; cases hx
      · exact fits_more (happ h _ hb) (Nat.le_succ n) (Nat.le_refl _)
  split
  · exact h'
  split
  · exact fits_more (fits_modify h _ _ (fun f _ => Nat.zero_le _) (fun f hf => layB_size _ _ (h.safe f hf) (h.bytes f hf)) (fun f _ x hx => by cases hx)) (Nat.le_succ n) (Nat.le_refl _)
  split
  · split
    · exact h'
    · rename_i f hf
      have hfm := List.mem_of_getElem? hf
      split
      · exact h'
      · refine ⟨by rw [List.length_set]; have := h.files; omega, ?_, ?_, ?_⟩
        all_goals
          intro g hg
          rcases List.mem_or_eq_of_mem_set hg with hg | rfl
        · exact h'.opens g hg
        · exact Nat.zero_le _
        · exact h'.safe g hg
        · show ((allF f).extract 0 o.pos.toNat).size ≤ _
          rw [ByteArray.size_extract]
          have := layB_size _ _ (h.safe f hfm) (h.bytes f hfm)
          unfold allF
          omega
        · exact h'.bytes g hg
        · intro x hx; cases hx
  · exact fits_sub h' (by rw [List.length_eraseIdx]; split <;> omega) fun f hf => List.mem_of_mem_eraseIdx hf
end Go.Proofs.Ytkecjopojnllnaa
