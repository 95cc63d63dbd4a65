/- The disk of the reference, and what of the disk the log calls (my own, from the seat of the disk): Na. -/
import Derived.Test.YtkecjopojnllnaaPV
namespace Go.Proofs.Ytkecjopojnllnaa
open Go.RowKit Go.Deep Go.Joins
theorem doF_all (a : List DOp) : ∀ fs, (doF fs a).2.2 = 0 → (doF fs a).2.1 = (a.length : Int) := by
  induction a with
  | nil => intro fs _; rfl
  | cons o r ih =>
    intro fs h
    rw [doF_cons] at h ⊢
    by_cases he : (changeF fs o).2 ≠ 0
    · rw [if_pos he] at h
      exact absurd h he
    · rw [if_neg he] at h ⊢
      have := ih _ h
      simp only [List.length_cons]
      omega
theorem doF_some (a : List DOp) : ∀ fs, (doF fs a).2.2 ≠ 0 → (doF fs a).2.1 < (a.length : Int) := by
  induction a with
  | nil => intro fs h; exact absurd rfl h
  | cons o r ih =>
    intro fs h
    rw [doF_cons] at h ⊢
    by_cases he : (changeF fs o).2 ≠ 0
    · rw [if_pos he]
      simp only [List.length_cons]
      omega
    · rw [if_neg he] at h ⊢
      have := ih _ h
      simp only [List.length_cons]
      omega
theorem doF_append (a b : List DOp) : ∀ fs, (doF fs a).2.2 = 0 → doF fs (a ++ b) = ((doF (doF fs a).1 b).1, (a.length : Int) + (doF (doF fs a).1 b).2.1, (doF (doF fs a).1 b).2.2) := by
  induction a with
  | nil => intro fs _; simp [doF_nil]
  | cons o r ih =>
    intro fs h
    rw [List.cons_append, doF_cons fs o (r ++ b)]
    rw [doF_cons] at h ⊢
    by_cases he : (changeF fs o).2 ≠ 0
    · rw [if_pos he] at h
      exact absurd h he
    · rw [if_neg he] at h ⊢
      rw [if_neg he, ih _ h]
      simp only [List.length_cons, Prod.mk.injEq, true_and, and_true]
      omega
end Go.Proofs.Ytkecjopojnllnaa
