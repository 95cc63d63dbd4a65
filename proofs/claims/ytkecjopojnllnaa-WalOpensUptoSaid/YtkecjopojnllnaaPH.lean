/- The disk of the reference, and what of the disk the log calls (my own, from the seat of the disk): H. -/
import Derived.Test.YtkecjopojnllnaaPE
namespace Go.Proofs.Ytkecjopojnllnaa
open Go.RowKit Go.Deep Go.Joins
theorem idx_cases (p : Rw → Bool) (l : List Rw) : (noneYet p l l.length ∧ idx p l = -1) ∨ ∃ (k : Nat) (hk : k < l.length), idx p l = k ∧ noneYet p l k ∧ p l[k] = true := by
  have : ∀ k, k ≤ l.length → noneYet p l k ∨ ∃ (j : Nat) (hj : j < l.length), noneYet p l j ∧ p l[j] = true := by
    intro k hk
    induction k with
    | zero => exact .inl fun j _ h => absurd h (Nat.not_lt_zero _)
    | succ k ih =>
      rcases ih (by omega) with h | h
      · by_cases e : p l[k] = true
        · exact .inr ⟨k, by omega, h, e⟩
        · exact .inl (noneYet_succ h fun _ => by simpa using e)
      · exact .inr h
  rcases this l.length (Nat.le_refl _) with h | ⟨k, hk, h1, h2⟩
  · exact .inl ⟨h, idx_none h⟩
  · exact .inr ⟨k, hk, idx_some hk h1 h2, h1, h2⟩
set_option maxHeartbeats 1000000 in
set_option maxRecDepth 100000 in
theorem bytes_none (l : List Rw) (v : Value) (x : ByteArray) (w : World) (hr : Reads w v 3 l.length (rowCells l)) (hm : l.length ≤ 9223372036854775807) (hn : idx (sameName x) l = -1) :
    Calls Try.prog 73 #[.agg #[v], .string x] w fun e w' => e = .returned (.tuple #[.string ⟨#[]⟩, .int .i64 20]) ∧ Below w.heap.size w w' := by
  go_enter Try.func73, Try.ntmps73
  go_wp2_with fail
  refine (find_any l v x _ (hr.below (below1 w _)) hm).mono ?_
  rintro e w1 ⟨rfl, hb⟩
  rw [hn]
  go_wp2_with fail
  go_ret2
  exact ⟨rfl, below_then (below1 w _) hb⟩
set_option maxHeartbeats 1000000 in
set_option maxRecDepth 100000 in
theorem bytes_some (l : List Rw) (v : Value) (x : ByteArray) (w : World) (k : Nat) (hk : k < l.length) (hr : Reads w v 3 l.length (rowCells l)) (ho : Opens w l) (hok : Okay l) (hm : l.length ≤ 9223372036854775807)
    (hn : idx (sameName x) l = k) :
    Calls Try.prog 73 #[.agg #[v], .string x] w fun e w' => e = .returned (.tuple #[.string (layB l[k].safe l[k].opens), .int .i64 0]) ∧ Below w.heap.size w w' := by
  have hmem : l[k] ∈ l := List.getElem_mem _
  have hop := ho l[k] hmem
  obtain ⟨hk1, hk2, hk3⟩ := hok l[k] hmem
  have HOP := Lib.hid hop
  have HK2 := Lib.hid hk2
  clear hop hk2 ho hok
  go_enter Try.func73, Try.ntmps73
  go_wp2_with fail
  refine (find_any l v x _ (hr.below (below1 w _)) hm).mono ?_
  rintro e w1 ⟨rfl, hb⟩
  rw [hn]
  have r0 := hb.cell (p := ⟨w.heap.size, 0, none⟩) (by simp)
  have hbw := below_then (below1 w _) hb
  obtain ⟨b, off, cap, hv, _, _, hb1, c0, c1, c2⟩ := (hr.below hbw).file k hk
  subst hv
  have HB := Lib.hid hb
  clear hb hn
  go_wp2_with fail
  refine (all_any _ _ _ _ _ (HOP.out.below hbw) (by omega) hk1 HK2.out).mono ?_
  rintro e w2 ⟨rfl, hb2⟩
  go_wp2_with fail
  go_ret2
  exact ⟨rfl, below_then hbw hb2⟩
end Go.Proofs.Ytkecjopojnllnaa
