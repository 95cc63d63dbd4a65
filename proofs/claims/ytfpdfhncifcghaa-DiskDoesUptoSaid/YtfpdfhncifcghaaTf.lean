/- Plain: what the operations leave stays small. -/
import Derived.Test.YtfpdfhncifcghaaTd
namespace Go.Proofs.Ytfpdfhncifcghaa
open Go.RowKit

structure FitsS (fs : List Fl) : Prop where
  safe : ∀ f ∈ fs, f.safe.size ≤ 2097152
  bytes : ∀ f ∈ fs, ∀ x ∈ f.opens, x.bytes.size ≤ 1048576

theorem sizeUp_small (n : Nat) (l : List Wr) (hs : n ≤ 2097152) (hb : ∀ x ∈ l, x.bytes.size ≤ 1048576) : sizeUp n l ≤ 2097152 := by
  induction l generalizing n with
  | nil => exact hs
  | cons x l ih =>
    refine ih _ ?_ fun y hy => hb y (List.mem_cons_of_mem _ hy)
    have h1 := hb x (by simp)
    unfold grow
    split
    · rename_i hw
      have := wk_pos hw
      split <;> omega
    · exact hs
theorem layB_small (s : ByteArray) (l : List Wr) (hs : s.size ≤ 2097152) (hb : ∀ x ∈ l, x.bytes.size ≤ 1048576) : (layB s l).size ≤ 2097152 := by
  unfold layB
  split
  · exact hs
  · have h1 : (overAll (spliceB (List.replicate (sizeUp s.size l) 0) 0 s) l).length = sizeUp s.size l := by
      have h0 : (spliceB (List.replicate (sizeUp s.size l) 0) 0 s).length = sizeUp s.size l := by
        unfold spliceB
        rw [length_splice _ _ _ (by rw [len_eq]; simpa using sizeUp_ge _ _)]
        simp
      have : ∀ (m : List Wr) (L : List UInt8), (∀ x ∈ m, wk x = true → x.pos.toNat + x.bytes.size ≤ L.length) → (overAll L m).length = L.length := by
        intro m
        induction m with
        | nil => intro L _; rfl
        | cons x m ih =>
          intro L h
          have hx := length_over L x (h x (by simp))
          show (overAll (over L x) m).length = _
          rw [ih (over L x) (fun y hy hw => by rw [hx]; exact h y (by simp [hy]) hw), hx]
      rw [this l _ (fun x hx hw => by rw [h0]; exact sizeUp_has _ _ _ hx hw), h0]
    have h2 : (ByteArray.mk (overAll (spliceB (List.replicate (sizeUp s.size l) 0) 0 s) l).toArray).size = sizeUp s.size l := by
      refine Eq.trans ?_ h1
      show (overAll _ l).toArray.size = _
      rw [List.size_toArray]
    rw [h2]
    exact sizeUp_small _ _ hs hb
theorem mem_modify {fs : List Fl} {k : Nat} {g : Fl → Fl} {f : Fl} (hf : f ∈ fs.modify k g) : f ∈ fs ∨ ∃ f0 ∈ fs, f = g f0 := by
  obtain ⟨i, hi⟩ := List.mem_iff_getElem?.1 hf
  rw [List.getElem?_modify] at hi
  cases hx : fs[i]? with
  | none => rw [hx] at hi; cases hi
  | some y =>
    rw [hx] at hi
    have hy := List.mem_of_getElem? hx
    by_cases e : k = i
    · simp [e] at hi; exact .inr ⟨y, hy, hi.symm⟩
    · simp [e] at hi; exact .inl (hi ▸ hy)
theorem FitsS.modify {fs : List Fl} (h : FitsS fs) (k : Nat) (g : Fl → Fl) (h1 : ∀ f ∈ fs, (g f).safe.size ≤ 2097152) (h2 : ∀ f ∈ fs, ∀ x ∈ (g f).opens, x.bytes.size ≤ 1048576) : FitsS (fs.modify k g) := by
  refine ⟨fun f hf => ?_, fun f hf => ?_⟩
  all_goals rcases mem_modify hf with h0 | ⟨f0, h0, rfl⟩
  · exact h.safe f h0
  · exact h1 f0 h0
  · exact h.bytes f h0
  · exact h2 f0 h0
theorem FitsS.sub {fs gs : List Fl} (h : FitsS fs) (hs : ∀ f ∈ gs, f ∈ fs) : FitsS gs := ⟨fun f hf => h.safe f (hs f hf), fun f hf => h.bytes f (hs f hf)⟩
theorem changeF_small {fs : List Fl} (h : FitsS fs) (o : DOp) : FitsS (changeF fs o).1 := by
  have happ : ∀ {gs : List Fl}, FitsS gs → ∀ k, (o.bytes.size : Int) ≤ 1048576 → FitsS (gs.modify k (fun f => ⟨f.name, f.safe, f.opens ++ [⟨o.pos, o.bytes⟩]⟩)) := fun {gs} hg k hb =>
    hg.modify k _ (fun f hf => hg.safe f hf) (fun f hf x hx => by
      rcases List.mem_append.1 hx with hx | hx
      · exact hg.bytes f hf x hx
      · rw [List.mem_singleton] at hx; subst hx; show o.bytes.size ≤ _; omega)
  unfold changeF
  split
  · exact h
  split
  · unfold putF
    split
    · exact h
    split
    · exact h
    · rename_i hp hlong
      have hb : (o.bytes.size : Int) ≤ 1048576 := by omega
      split
      · split
        · exact h
        · have hmem : ∀ f ∈ insertAt fs (placeF o.name fs) (newFile o.name), f ∈ fs ∨ f = newFile o.name := fun f hf => by
            unfold insertAt at hf
            rcases List.mem_append.1 hf with hf | hf
            · exact .inl (List.mem_of_mem_take hf)
            · rcases List.mem_cons.1 hf with rfl | hf
              · exact .inr rfl
              · exact .inl (List.mem_of_mem_drop hf)
          refine happ (gs := insertAt fs (placeF o.name fs) (newFile o.name)) ⟨fun f hf => ?_, fun f hf => ?_⟩ _ hb
          · rcases hmem f hf with h0 | rfl
            · exact h.safe f h0
            · exact Nat.zero_le _
          · rcases hmem f hf with h0 | rfl
            · exact h.bytes f h0
            · intro x hx; cases hx
      · exact happ h _ hb
  split
  · exact h
  split
  · exact h.modify _ _ (fun f hf => layB_small _ _ (h.safe f hf) (h.bytes f hf)) (fun f _ x hx => by cases hx)
  split
  · split
    · exact h
    · rename_i f hf
      have hfm := List.mem_of_getElem? hf
      split
      · exact h
      · refine ⟨fun g hg => ?_, fun g hg => ?_⟩
        all_goals rcases List.mem_or_eq_of_mem_set hg with hg | rfl
        · exact h.safe g hg
        · show ((allF f).extract 0 o.pos.toNat).size ≤ _
          rw [ByteArray.size_extract]
          have := layB_small _ _ (h.safe f hfm) (h.bytes f hfm)
          unfold allF
          omega
        · exact h.bytes g hg
        · intro x hx; cases hx
  · exact h.sub fun f hf => List.mem_of_mem_eraseIdx hf
end Go.Proofs.Ytfpdfhncifcghaa
