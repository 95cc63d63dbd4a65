/- The disk of the reference, and what of the disk the log calls (my own, from the seat of the disk): R. -/
import Derived.Test.YtkecjopojnllnaaPF
namespace Go.Proofs.Ytkecjopojnllnaa
open Go.RowKit Go.Deep Go.Joins
theorem placeOf_le (name : ByteArray) (l : List Rw) : ∃ P : Nat, placeOf name l = P ∧ P ≤ l.length := by
  unfold placeOf
  rcases idx_cases (aboveName name) l with ⟨_, hi⟩ | ⟨k, hk, hi, _⟩
  · exact ⟨l.length, by rw [if_pos (by omega)], Nat.le_refl _⟩
  · exact ⟨k, by rw [if_neg (by omega), hi], by omega⟩
theorem spot_lt (l : List Rw) (name : ByteArray) : (spot l name).2 < (spot l name).1.length := by
  unfold spot
  rcases idx_cases (sameName name) l with ⟨_, hi⟩ | ⟨k, hk, hi, _⟩
  · rw [if_pos (by omega)]
    obtain ⟨P, hP, hPl⟩ := placeOf_le name l
    rw [hP]
    simp [insertAt]
    omega
  · rw [if_neg (by omega), hi]
    simpa using hk
end Go.Proofs.Ytkecjopojnllnaa
