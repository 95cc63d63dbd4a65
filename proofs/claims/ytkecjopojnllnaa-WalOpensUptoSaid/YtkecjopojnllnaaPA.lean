/- The disk of the reference, and what of the disk the log calls (my own, from the seat of the disk): A. -/
import Derived.Test.YtkecjopojnllnaaL
namespace Go.Proofs.Ytkecjopojnllnaa
open Go.RowKit Go.Deep Go.Joins
set_option maxHeartbeats 1000000 in
set_option maxRecDepth 100000 in
theorem works_any (t : Int) (s : ByteArray) (w : World) :
    Calls Try.prog 88 #[.agg #[.int .i64 t, .string s]] w fun e w' => e = .returned (.bool (worksB t s)) ∧ Below w.heap.size w w' := by
  unfold worksB
  rcases Bool.eq_false_or_eq_true s.toList.isEmpty with hs | hs
  · go_enter Try.func88, Try.ntmps88
    go_wp2
    go_ret
    exact ⟨by simp [hs], (Below.refl _ _).alloc (Nat.le_refl _) _⟩
  · by_cases h0 : 0 ≤ t
    · by_cases h1 : t ≤ 1048576
      · go_enter Try.func88, Try.ntmps88
        go_wp2
        go_ret
        exact ⟨by simp [hs, h0, h1], (Below.refl _ _).alloc (Nat.le_refl _) _⟩
      · go_enter Try.func88, Try.ntmps88
        go_wp2
        go_ret
        exact ⟨by simp [h1], (Below.refl _ _).alloc (Nat.le_refl _) _⟩
    · go_enter Try.func88, Try.ntmps88
      go_wp2
      go_ret
      exact ⟨by simp; omega, (Below.refl _ _).alloc (Nat.le_refl _) _⟩
set_option maxHeartbeats 1000000 in
set_option maxRecDepth 100000 in
theorem same_any (n s : ByteArray) (o : Value) (x : ByteArray) (b off : Nat) (w : World) (hlt : b < w.heap.size) (hc : w.cell? ⟨b, off, none⟩ = some (.string x)) :
    Calls Try.prog 85 #[.agg #[.string n, .string s, o], .pointer (some ⟨b, off, none⟩)] w fun e w' => e = .returned (.bool (sameN n x)) ∧ Below w.heap.size w w' := by
  go_enter Try.func85, Try.ntmps85
  go_wp2
  go_ret
  exact ⟨rfl, (Below.refl _ _).alloc (Nat.le_refl _) _⟩
end Go.Proofs.Ytkecjopojnllnaa
