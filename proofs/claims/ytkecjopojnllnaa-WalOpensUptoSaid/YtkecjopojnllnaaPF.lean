/- The disk of the reference, and what of the disk the log calls (my own, from the seat of the disk): F. -/
import Derived.Test.YtkecjopojnllnaaPSf
namespace Go.Proofs.Ytkecjopojnllnaa
open Go.RowKit Go.Deep Go.Joins
theorem cutTo_size (nb : Int) (s : ByteArray) : (cutTo nb s).size ≤ s.size := by
  obtain ⟨x, m, h1, h2, _⟩ := cut_ops nb s
  rw [h2, ByteArray.size_extract]
  omega
theorem surv_bytes (whole : List Bool) (torn nb : Int) (B : Nat) (l : List Wr) (i : Nat) (h : ∀ x ∈ l, x.bytes.size ≤ B) : ∀ x ∈ surv whole torn nb i l, x.bytes.size ≤ B := by
  induction l generalizing i with
  | nil => intro x hx; rw [surv_nil] at hx; cases hx
  | cons y l ih =>
    have h1 := h y (by simp)
    have h2 := ih (i + 1) fun x hx => h x (List.mem_cons_of_mem _ hx)
    intro x hx
    rw [surv_cons] at hx
    split at hx
    · rw [List.mem_singleton] at hx
      subst hx
      exact Nat.le_trans (cutTo_size nb y.bytes) h1
    · split at hx
      · rcases List.mem_cons.1 hx with rfl | hx
        · exact h1
        · exact h2 x hx
      · exact h2 x hx
end Go.Proofs.Ytkecjopojnllnaa
