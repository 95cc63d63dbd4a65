/- A string of bytes; a mark. -/
import Derived.Test.YtmbaimcneffnlaaD
namespace Go.Proofs.Ytmbaimcneffnlaa
open Go.RowKit Go.Deep Go.Joins
theorem string_of {w : World} {p : Option Addr} {n cap : Nat} {D : List UInt8} (h : DAt w (.slice p n cap) D) : (convert 46 9 (.slice p n cap)).run Try.prog w = .ok (.string ⟨D.toArray⟩) w := by
  rcases h.2 with ⟨e, h0⟩ | ⟨a, c, e, _, _, hc⟩
  · simp only [Value.slice.injEq] at e
    obtain ⟨rfl, rfl, rfl⟩ := e
    obtain rfl : D = [] := List.eq_nil_of_length_eq_zero h0
    rw [run_convert_bytes_string w 46 9 5 none 0 0 Try.underlying46 Try.underlying5 Try.underlying9]
    rfl
  · simp only [Value.slice.injEq] at e
    obtain ⟨rfl, rfl, rfl⟩ := e
    exact run_convert_bytes_back (P := Try.prog) w 46 9 5 a cap D Try.underlying46 Try.underlying5 Try.underlying9 (fun j hj => hc j _ (by simp [dC, hj]))
theorem MAt.cell {w : World} {v : Value} {M : List Int} (h : MAt w v M) (h0 : 0 < M.length) :
    ∃ b off cap, v = .slice (some ⟨b, off, none⟩) M.length cap ∧ M.length ≤ cap ∧ cap ≤ maxLen ∧ b < w.heap.size ∧ ∀ j (hj : j < M.length), w.cell? ⟨b, off + j, none⟩ = some (.int .u64 M[j]) := by
  obtain ⟨b, off, cap, h1, h2, h3, h4, h5⟩ := Reads.at h (by omega)
  exact ⟨b, off, cap, h1, h2, h3, h4, fun j hj => h5 j _ (by simp [mC, hj])⟩
end Go.Proofs.Ytmbaimcneffnlaa
