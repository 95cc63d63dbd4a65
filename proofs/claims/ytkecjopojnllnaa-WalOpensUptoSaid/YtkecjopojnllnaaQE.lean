/- Names of segments, as the reference writes them. -/
import Derived.Test.YtkecjopojnllnaaQD
namespace Go.Proofs.Ytkecjopojnllnaa
open Go.RowKit Go.Deep Go.Joins

set_option maxRecDepth 100000 in
set_option maxHeartbeats 1000000 in
theorem name3_any (p : ByteArray) (n : Nat) (w : World) (hp : p.size ≤ 1000) (hn : n ≤ 9223372036854775807) :
    Calls Try.prog 23 #[.string p, .int .i64 n] w fun e w' => e = .returned (.string (nameOf p n)) ∧ Below w.heap.size w w' := by
  have hp1 : ¬ 9223372036854775807 < p.size + 1 := by omega
  obtain ⟨i0, hi, hz0, hz1, hz2⟩ := info_parts (show (Try.prog.info? 5).map (fun i => (i.zero, i.size, i.bytes)) = some (some (.int .u8 0), 1, 1) by kernel_rfl)
  have hmk : (Instr.makeSlice 86 (.int .i64 6) (.int .i64 6)).run Try.prog w = .ok (.slice (some ⟨w.heap.size, 0, none⟩) 6 6) (w.alloc (.cells #[.int .u8 0, .int .u8 0, .int .u8 0, .int .u8 0, .int .u8 0, .int .u8 0] 5)) := by
    have h := run_make (P := Try.prog) w 86 5 i0 (.int .u8 0) Try.underlying86 hi hz0 .i64 .i64 6 6 (by omega) (by omega) (by rw [hz2]; omega) (by omega)
    have hm : madeCells (Value.int .u8 0).cells (Int.toNat 6 * 1) = #[.int .u8 0, .int .u8 0, .int .u8 0, .int .u8 0, .int .u8 0, .int .u8 0] := by
      apply Array.ext'
      rw [show (Value.int .u8 0).cells = #[.int .u8 0] from rfl, toList_madeCells_one]
      rfl
    rw [hz1, hm] at h
    exact h
  go_enter Try.func23, Try.ntmps23
  go_wp2_with fail
  go_loopw [6, 1] (fun k i wr => ∃ t m : Nat, t ≤ 6 ∧ k = .int .i64 ((t : Int) - 1) ∧ i = .int .i64 (m : Int) ∧ m ≤ n ∧ Hid (m = n / 10 ^ (6 - t)) ∧ Hid (wr.heap[w.heap.size]? = some (.cells (bcells (dgs n t)) 5 (0, 0))) ∧ Hid (Below w.heap.size w wr)) (fun k _ _ => ((intOf k) + 1).toNat)
  case atStart =>
    refine ⟨6, n, Nat.le_refl _, by go_num, rfl, Nat.le_refl _, by show _ = _; simp, ?_, below1 _ _⟩
    show _ = _
    rw [dgs_none, heap_alloc_new]
    rfl
  case round =>
    obtain ⟨t, m, ht, rfl, rfl, hmn, hm, hrow, hbl⟩ := hrel
    by_cases hlt : 0 < t
    · obtain ⟨s, rfl⟩ : ∃ s, t = s + 1 := ⟨t - 1, by omega⟩
      have e1 : ((s + 1 : Nat) : Int) - 1 = (s : Int) := by omega
      rw [e1]
      have c1 : (0 : Int) ≤ (s : Int) := by omega
      have c2 : (s : Int) < 6 := by omega
      have hcell : wr.cell? ⟨w.heap.size, s, none⟩ = some (.int .u8 ((dg n (s + 1) s).toNat : Int)) := by
        rw [cell_of_row _ _ _ _ 5 _ hrow.out]
        obtain rfl | rfl | rfl | rfl | rfl | rfl : s = 0 ∨ s = 1 ∨ s = 2 ∨ s = 3 ∨ s = 4 ∨ s = 5 := by omega
        all_goals rfl
      have hfz := frozen_of_row wr w.heap.size s _ 5 hrow.out
      have hlw := lt_of_cell hcell
      have w1 : IntKind.u8.wrap ((m : Int) % 10) = (m : Int) % 10 := IntWalk.u8_in _ (by omega)
      have w2 : IntKind.u8.wrap (48 + (m : Int) % 10) = 48 + (m : Int) % 10 := IntWalk.u8_in _ (by omega)
      have w3 : IntKind.i64.wrap ((s : Int) - 1) = (s : Int) - 1 := IntWalk.i64_in _ (by omega)
      have r1 : ((m : Int)).tmod 10 = (m : Int) % 10 := IntWalk.rem_in _ _ (by omega)
      have hset : (wr.setCell ⟨w.heap.size, s, none⟩ (.int .u8 (48 + (m : Int) % 10))).heap[w.heap.size]? = some (.cells (bcells (dgs n s)) 5 (0, 0)) := by
        rw [heap_setCell_same wr _ s _ 5 _ hrow.out, ← dg_set n s (by omega)]
        have e : (48 + (m : Int) % 10) = ((dgt n s : Nat) : Int) := by
          have := hm.out
          unfold dgt
          rw [show 6 - (s + 1) = 5 - s by omega] at this
          rw [← this]
          omega
        rw [e]
      have hb2 := nb_set (Nat.le_refl _) hbl.out s (.int .u8 (48 + (m : Int) % 10))
      have HSET := Lib.hid hset
      have HB2 := Lib.hid hb2
      clear hset hb2
      go_wp2_with fail
      case roundEnd =>
        refine ⟨⟨s, m / 10, by omega, rfl, by go_num, Nat.le_trans (Nat.div_le_self _ _) hmn, ?_, HSET.out, HB2.out⟩, ?_⟩
        · show _ = _
          have := hm.out
          rw [show 6 - (s + 1) = 5 - s by omega] at this
          rw [this]
          exact next_div n s (by omega)
        · simp [intOf]
    · obtain rfl : t = 0 := by omega
      have hcv := run_string_of_row (P := Try.prog) wr 86 9 5 w.heap.size 6 6 (dgs n 0) 5 (0, 0) Try.underlying86 Try.underlying5 Try.underlying9 hrow.out rfl
      have hsz : (ByteArray.mk (dgs n 0).toArray).size = 6 := rfl
      have hp2 : ¬ 9223372036854775807 < p.size + 1 + 6 := by omega
      have hps : (p ++ ⟨#[46]⟩).size = p.size + 1 := dotB_size p
      have hlw := (Array.getElem?_eq_some_iff.1 hrow.out).1
      go_wp2_with fail
      go_ret
      exact ⟨rfl, hbl.out⟩
end Go.Proofs.Ytkecjopojnllnaa
