/- The disk of the reference, and what of the disk the log calls (my own, from the seat of the disk): B. -/
import Derived.Test.YtkecjopojnllnaaPA
namespace Go.Proofs.Ytkecjopojnllnaa
open Go.RowKit Go.Deep Go.Joins
set_option maxHeartbeats 1000000 in
set_option maxRecDepth 100000 in
theorem indexSame_any (l : List Rw) (v : Value) (x : ByteArray) (b off : Nat) (w : World) (hr : Reads w v 3 l.length (rowCells l)) (hm : l.length ≤ 9223372036854775807)
    (hlt : b < w.heap.size) (hc : w.cell? ⟨b, off, none⟩ = some (.string x)) :
    Calls Try.prog 84 #[v, .func (.func 85) #[] #[.pointer (some ⟨b, off, none⟩)]] w fun e w' => e = .returned (.int .i64 (idx (sameName x) l)) ∧ Below w.heap.size w w' := by
  obtain ⟨p, cap, rfl⟩ := hr.is
  go_enter Try.func84, Try.ntmps84
  go_wp2
  go_loopw [8] (fun i wr => ∃ k : Nat, k ≤ l.length ∧ i = .int .i64 k ∧ noneYet (sameName x) l k ∧ Below w.heap.size w wr) (fun i _ => l.length - (intOf i).toNat)
  case atStart => exact ⟨0, Nat.zero_le _, rfl, fun j _ h => absurd h (Nat.not_lt_zero _), Below.refl _ _⟩
  case round =>
    obtain ⟨k, hk, rfl, hall, hbl⟩ := hrel
    have Hall := Lib.hid hall
    clear hall
    have hlb := hbl.size
    by_cases hlt : k < l.length
    · obtain ⟨b1, off1, cap1, hv, _, _, hb1, c0, c1, c2⟩ := (hr.below hbl).file k hlt
      obtain ⟨rfl, rfl⟩ : p = some ⟨b1, off1, none⟩ ∧ cap = cap1 := by simpa using hv
      have cx := below_cell hbl hc
      clear hr hc hv
      have HB := Lib.hid hbl
      clear hbl
      rcases Bool.eq_false_or_eq_true (sameN l[k].name x) with hl | hl
      · go_wp2_with (go_at_call 85; refine (same_any _ _ _ x b off _ (by omega) cx).mono ?_; rintro e w1 ⟨rfl, hb2⟩)
        go_ret
        exact ⟨ret_int (idx_some hlt Hall.out hl).symm, HB.out.trans (hb2.mono hlb)⟩
      · go_wp2_with (go_at_call 85; refine (same_any _ _ _ x b off _ (by omega) cx).mono ?_; rintro e w1 ⟨rfl, hb2⟩)
        go_roundw
        case rel => exact ⟨k + 1, by omega, by go_num, noneYet_succ Hall.out fun _ => hl, HB.out.trans (hb2.mono hlb)⟩
        case measure => simp [intOf]; omega
    · go_wp2
      go_ret
      refine ⟨ret_int ?_, hbl⟩
      obtain rfl : k = l.length := by omega
      exact (idx_none Hall.out).symm
set_option maxHeartbeats 1000000 in
set_option maxRecDepth 100000 in
theorem find_any (l : List Rw) (v : Value) (x : ByteArray) (w : World) (hr : Reads w v 3 l.length (rowCells l)) (hm : l.length ≤ 9223372036854775807) :
    Calls Try.prog 80 #[.agg #[v], .string x] w fun e w' => e = .returned (.int .i64 (idx (sameName x) l)) ∧ Below w.heap.size w w' := by
  go_enter Try.func80, Try.ntmps80
  go_wp2_with fail
  refine (indexSame_any l v x _ 0 _ (hr.below (below2 w _ _)) hm (by simp) (by simp)).mono ?_
  rintro e w1 ⟨rfl, hb⟩
  go_wp2_with fail
  go_ret
  exact ⟨rfl, below_then (below2 w _ _) hb⟩
end Go.Proofs.Ytkecjopojnllnaa
