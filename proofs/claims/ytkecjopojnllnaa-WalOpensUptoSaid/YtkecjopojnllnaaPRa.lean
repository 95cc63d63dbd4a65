/- The disk of the reference, and what of the disk the log calls (my own, from the seat of the disk): Ra. -/
import Derived.Test.YtkecjopojnllnaaPNa
namespace Go.Proofs.Ytkecjopojnllnaa
open Go.RowKit Go.Deep Go.Joins
theorem doF_le (a : List DOp) : ∀ fs, 0 ≤ (doF fs a).2.1 ∧ (doF fs a).2.1 ≤ (a.length : Int) := by
  induction a with
  | nil => intro fs; simp [doF_nil]
  | cons o r ih =>
    intro fs
    rw [doF_cons]
    split
    · simp only [List.length_cons]; omega
    · have := ih (changeF fs o).1
      simp only [List.length_cons]
      omega
theorem doF_fits (a : List DOp) : ∀ fs n m, FitsF fs n m → FitsF (doF fs a).1 (n + a.length) (m + a.length) := by
  induction a with
  | nil => intro fs n m h; exact h
  | cons o r ih =>
    intro fs n m h
    have h1 := changeF_fits h o
    rw [doF_cons]
    split
    · exact fits_more h1 (by simp only [List.length_cons]; omega) (by simp only [List.length_cons]; omega)
    · have := ih _ _ _ h1
      exact fits_more this (by simp only [List.length_cons]; omega) (by simp only [List.length_cons]; omega)
theorem dop_one (l : List DOp) : ∀ u ∈ dopCells l, u.oneCell' = true := by
  intro u hu
  obtain ⟨r, _, hu⟩ := List.mem_flatMap.1 hu
  simp only [List.mem_cons, List.not_mem_nil, or_false] at hu
  rcases hu with rfl | rfl | rfl | rfl <;> rfl
theorem dopCells_append (a b : List DOp) : dopCells (a ++ b) = dopCells a ++ dopCells b := by simp [dopCells]
end Go.Proofs.Ytkecjopojnllnaa
