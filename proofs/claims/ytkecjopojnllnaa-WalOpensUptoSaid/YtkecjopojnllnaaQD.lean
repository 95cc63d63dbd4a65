/- Names of segments. -/
import Derived.Test.YtkecjopojnllnaaQC
namespace Go.Proofs.Ytkecjopojnllnaa
open Go.RowKit Go.Deep Go.Joins

/-- Digit number j of six. -/
def dgt (n j : Nat) : Nat := 48 + (n / 10 ^ (5 - j)) % 10
/-- The six letters, once those from number t on are written. -/
def dg (n t j : Nat) : UInt8 := if t ≤ j then UInt8.ofNat (dgt n j) else 0
def dgs (n t : Nat) : List UInt8 := [dg n t 0, dg n t 1, dg n t 2, dg n t 3, dg n t 4, dg n t 5]
theorem dgt_lt (n j : Nat) : dgt n j ≤ 57 ∧ 48 ≤ dgt n j := by unfold dgt; omega
theorem dg_at (n t : Nat) : ((dg n t t).toNat : Int) = (dgt n t : Nat) := by
  have := dgt_lt n t
  unfold dg
  rw [if_pos (Nat.le_refl _), UInt8.toNat_ofNat']
  omega
theorem dg_set (n t : Nat) (ht : t < 6) : (bcells (dgs n (t + 1))).setIfInBounds t (.int .u8 ((dgt n t : Nat) : Int)) = bcells (dgs n t) := by
  have e := dg_at n t
  have hz : ∀ j, j < t → dg n (t + 1) j = 0 ∧ dg n t j = 0 := fun j h => by unfold dg; rw [if_neg (by omega), if_neg (by omega)]; exact ⟨rfl, rfl⟩
  have hs : ∀ j, t < j → dg n (t + 1) j = dg n t j := fun j h => by unfold dg; rw [if_pos (by omega), if_pos (by omega)]
  rw [← e]
  obtain rfl | rfl | rfl | rfl | rfl | rfl : t = 0 ∨ t = 1 ∨ t = 2 ∨ t = 3 ∨ t = 4 ∨ t = 5 := by omega
  all_goals
    unfold dgs bcells
    simp [hz, hs]
theorem dgs_none (n : Nat) : dgs n 6 = [0, 0, 0, 0, 0, 0] := by unfold dgs dg; simp
def nameOf (p : ByteArray) (n : Nat) : ByteArray := p ++ ⟨#[46]⟩ ++ ⟨(dgs n 0).toArray⟩
theorem next_div (n t : Nat) (ht : t < 6) : n / 10 ^ (5 - t) / 10 = n / 10 ^ (6 - t) := by
  rw [Nat.div_div_eq_div_mul, ← Nat.pow_succ, show (5 - t).succ = 6 - t by omega]

set_option maxRecDepth 100000 in
set_option maxHeartbeats 1000000 in
theorem name_any (p : ByteArray) (n : Nat) (w : World) (hp : p.size ≤ 1000) (hn : n ≤ 9223372036854775807) :
    Calls Try.prog 22 #[.string p, .int .i64 n] w fun e w' => e = .returned (.string (nameOf p n)) ∧ Below w.heap.size w w' := by
  have hp1 : ¬ 9223372036854775807 < p.size + 1 := by omega
  go_enter Try.func22, Try.ntmps22
  go_wp2_with fail
  go_loopw [6, 1] (fun k i wr => ∃ t m : Nat, t ≤ 6 ∧ k = .int .i64 ((t : Int) - 1) ∧ i = .int .i64 (m : Int) ∧ m ≤ n ∧ Hid (m = n / 10 ^ (6 - t)) ∧ Hid (wr.heap[w.heap.size]? = some (.cells (bcells (dgs n t)) 85 (0, 0))) ∧ Hid (Below w.heap.size w wr)) (fun k _ _ => ((intOf k) + 1).toNat)
  case atStart =>
    refine ⟨6, n, Nat.le_refl _, by go_num, rfl, Nat.le_refl _, by show _ = _; simp, ?_, below1 _ _⟩
    show _ = _
    rw [dgs_none, heap_alloc_new]
    rfl
  case round =>
    obtain ⟨t, m, ht, rfl, rfl, hmn, hm, hrow, hbl⟩ := hrel
    by_cases hlt : 0 < t
    · obtain ⟨s, rfl⟩ : ∃ s, t = s + 1 := ⟨t - 1, by omega⟩
      have e1 : ((s + 1 : Nat) : Int) - 1 = (s : Int) := by omega
      rw [e1]
      have c1 : (0 : Int) ≤ (s : Int) := by omega
      have c2 : (s : Int) < 6 := by omega
      have hcell : wr.cell? ⟨w.heap.size, s, none⟩ = some (.int .u8 ((dg n (s + 1) s).toNat : Int)) := by
        rw [cell_of_row _ _ _ _ 85 _ hrow.out]
        obtain rfl | rfl | rfl | rfl | rfl | rfl : s = 0 ∨ s = 1 ∨ s = 2 ∨ s = 3 ∨ s = 4 ∨ s = 5 := by omega
        all_goals rfl
      have hfz := frozen_of_row wr w.heap.size s _ 85 hrow.out
      have hlw := lt_of_cell hcell
      have w1 : IntKind.u8.wrap ((m : Int) % 10) = (m : Int) % 10 := IntWalk.u8_in _ (by omega)
      have w2 : IntKind.u8.wrap (48 + (m : Int) % 10) = 48 + (m : Int) % 10 := IntWalk.u8_in _ (by omega)
      have w3 : IntKind.i64.wrap ((s : Int) - 1) = (s : Int) - 1 := IntWalk.i64_in _ (by omega)
      have r1 : ((m : Int)).tmod 10 = (m : Int) % 10 := IntWalk.rem_in _ _ (by omega)
      have hset : (wr.setCell ⟨w.heap.size, s, none⟩ (.int .u8 (48 + (m : Int) % 10))).heap[w.heap.size]? = some (.cells (bcells (dgs n s)) 85 (0, 0)) := by
        rw [heap_setCell_same wr _ s _ 85 _ hrow.out, ← dg_set n s (by omega)]
        have e : (48 + (m : Int) % 10) = ((dgt n s : Nat) : Int) := by
          have := hm.out
          unfold dgt
          rw [show 6 - (s + 1) = 5 - s by omega] at this
          rw [← this]
          omega
        rw [e]
      have hb2 := nb_set (Nat.le_refl _) hbl.out s (.int .u8 (48 + (m : Int) % 10))
      have HSET := Lib.hid hset
      have HB2 := Lib.hid hb2
      clear hset hb2
      go_wp2_with fail
      case roundEnd =>
        refine ⟨⟨s, m / 10, by omega, rfl, by go_num, Nat.le_trans (Nat.div_le_self _ _) hmn, ?_, HSET.out, HB2.out⟩, ?_⟩
        · show _ = _
          have := hm.out
          rw [show 6 - (s + 1) = 5 - s by omega] at this
          rw [this]
          exact next_div n s (by omega)
        · simp [intOf]
    · obtain rfl : t = 0 := by omega
      have hcv := run_string_of_row (P := Try.prog) wr 86 9 5 w.heap.size 6 6 (dgs n 0) 85 (0, 0) Try.underlying86 Try.underlying5 Try.underlying9 hrow.out rfl
      have hsz : (ByteArray.mk (dgs n 0).toArray).size = 6 := rfl
      have hp2 : ¬ 9223372036854775807 < p.size + 1 + 6 := by omega
      have hps : (p ++ ⟨#[46]⟩).size = p.size + 1 := dotB_size p
      have hlw := (Array.getElem?_eq_some_iff.1 hrow.out).1
      go_wp2_with fail
      go_ret
      exact ⟨rfl, hbl.out⟩
end Go.Proofs.Ytkecjopojnllnaa
