/- May an input be? Both sides. -/
import Derived.Test.YthlghmechldegaaG
namespace Go.Proofs.Ythlghmechldegaa
open Go.RowKit Go.Deep Go.Joins
theorem below1 (w : World) (a : Obj) : Below w.heap.size w (w.alloc a) := (Below.refl _ _).alloc (Nat.le_refl _) _
theorem in_none (s : ByteArray) : (!s.toList.isEmpty) = decide (0 < s.size) := by
  rw [ByteArray.toList_eq]
  have h : s.size = s.data.toList.length := by rw [Array.length_toList]; rfl
  rw [h]
  cases s.data.toList <;> simp
def inpB (i : In) : Bool := decide (1 ≤ i.gap) && decide (i.gap ≤ 64) && decide (1 ≤ i.data.size) && decide (i.data.size ≤ 64) && (decide (i.dev = 1) || decide (i.dev = 2))
set_option maxRecDepth 100000 in
set_option maxHeartbeats 1000000 in
theorem input_any (i : In) (hz : i.data.size ≤ maxLen) (W : World) : Calls Try.prog 47 #[inV i] W fun e W' => e = .returned (.bool (inpB i)) ∧ Below W.heap.size W W' := by
  obtain ⟨id, gap, dev, s⟩ := i
  unfold inpB
  show Calls Try.prog 47 #[.agg #[.int .u64 id, .int .i64 gap, .int .i64 dev, .string s]] W _
  simp only at hz ⊢
  unfold maxLen at hz
  have HZ := Lib.hid hz
  obtain ⟨C, hC⟩ : ∃ C, C = (decide (1 ≤ gap) && decide (gap ≤ 64) && decide (1 ≤ s.size) && decide (s.size ≤ 64)) := ⟨_, rfl⟩
  rw [← hC]
  have HC := Lib.hid hC
  clear hC
  go_enter Try.func47, Try.ntmps47
  go_upto_region 1 with (fail)
  have hb := Lib.hid (below1 W (.cells #[.int .u64 id, .int .i64 gap, .int .i64 dev, .string s] 34))
  go_cut [21] from 3 to 22 (fun v wx => v = .bool (!C) ∧ wx = W.alloc (.cells #[.int .u64 id, .int .i64 gap, .int .i64 dev, .string s] 34))
  case first =>
    by_cases a1 : 1 ≤ gap
    · have g1 : decide (gap < 1) = false := decide_eq_false (by omega)
      have d1 : decide (1 ≤ gap) = true := decide_eq_true a1
      by_cases a2 : gap ≤ 64
      · have g2 : decide (64 < gap) = false := decide_eq_false (by omega)
        have d2 : decide (gap ≤ 64) = true := decide_eq_true a2
        by_cases a3 : 1 ≤ s.size
        · have hne : s ≠ ⟨#[]⟩ := fun e => by rw [e] at a3; exact absurd a3 (by decide)
          have g3 : s.toList.isEmpty = false := by have h := in_none s; rw [decide_eq_true (show 0 < s.size by omega)] at h; cases hh : s.toList.isEmpty with | false => rfl | true => rw [hh] at h; cases h
          have d3 : decide (1 ≤ s.size) = true := decide_eq_true a3
          by_cases a4 : s.size ≤ 64
          · have g4 : decide ((64 : Int) < s.size) = false := decide_eq_false (by omega)
            have d4 : decide (s.size ≤ 64) = true := decide_eq_true a4
            go_wp2_with fail
            all_goals (go_meet; exact ⟨by rw [HC.out, d1, d2, d3, d4]; rfl, rfl⟩)
          · have g4 : decide ((64 : Int) < s.size) = true := decide_eq_true (by omega)
            have d4 : decide (s.size ≤ 64) = false := decide_eq_false a4
            go_wp2_with fail
            all_goals (go_meet; exact ⟨by rw [HC.out, d1, d2, d3, d4]; rfl, rfl⟩)
        · have hne : s = ⟨#[]⟩ := by
            have h0 : s.size = 0 := by omega
            exact ByteArray.ext (Array.eq_empty_of_size_eq_zero h0)
          have d3 : decide (1 ≤ s.size) = false := decide_eq_false a3
          subst hne
          go_wp2_with fail
          all_goals (go_meet; exact ⟨by rw [HC.out, d1, d2, d3]; rfl, rfl⟩)
      · have g2 : decide (64 < gap) = true := decide_eq_true (by omega)
        have d2 : decide (gap ≤ 64) = false := decide_eq_false a2
        go_wp2_with fail
        all_goals (go_meet; exact ⟨by rw [HC.out, d1, d2]; rfl, rfl⟩)
    · have g1 : decide (gap < 1) = true := decide_eq_true (by omega)
      have d1 : decide (1 ≤ gap) = false := decide_eq_false a1
      go_wp2_with fail
      all_goals (go_meet; exact ⟨by rw [HC.out, d1]; rfl, rfl⟩)
  case rest =>
    obtain ⟨rfl, rfl⟩ := hcut
    cases C
    · go_wp2_with fail
      go_ret
      exact ⟨rfl, hb.out⟩
    · by_cases a1 : dev = 1
      · subst a1
        go_wp2_with fail
        go_ret
        exact ⟨rfl, hb.out⟩
      · have d1 : decide (dev = 1) = false := decide_eq_false a1
        have g1 : (dev == 1) = false := by rw [beq_eq_false_iff_ne]; exact a1
        by_cases a2 : dev = 2
        · subst a2
          go_wp2_with fail
          go_ret
          exact ⟨rfl, hb.out⟩
        · have d2 : decide (dev = 2) = false := decide_eq_false a2
          have g2 : (dev == 2) = false := by rw [beq_eq_false_iff_ne]; exact a2
          go_wp2_with fail
          go_ret
          exact ⟨by rw [d1, d2]; rfl, hb.out⟩

set_option maxRecDepth 100000 in
set_option maxHeartbeats 1000000 in
theorem rinput_any (i : In) (hz : i.data.size ≤ maxLen) (W : World) : Calls Try.prog 48 #[inV i] W fun e W' => e = .returned (.bool (inpB i)) ∧ Below W.heap.size W W' := by
  obtain ⟨id, gap, dev, s⟩ := i
  unfold inpB
  show Calls Try.prog 48 #[.agg #[.int .u64 id, .int .i64 gap, .int .i64 dev, .string s]] W _
  simp only at hz ⊢
  unfold maxLen at hz
  have HZ := Lib.hid hz
  have hb := Lib.hid (below1 W (.cells #[.int .u64 id, .int .i64 gap, .int .i64 dev, .string s] 34))
  by_cases a1 : 1 ≤ gap
  · have d1 : decide (1 ≤ gap) = true := decide_eq_true a1
    have g1 : decide (1 ≤ gap) = true := decide_eq_true (by omega)
    by_cases a2 : gap ≤ 64
    · have d2 : decide (gap ≤ 64) = true := decide_eq_true a2
      have g2 : decide (gap ≤ 64) = true := decide_eq_true (by omega)
      by_cases a3 : 1 ≤ s.size
      · have d3 : decide (1 ≤ s.size) = true := decide_eq_true a3
        have g3 : decide ((1 : Int) ≤ s.size) = true := decide_eq_true (by omega)
        by_cases a4 : s.size ≤ 64
        · have d4 : decide (s.size ≤ 64) = true := decide_eq_true a4
          have g4 : decide ((s.size : Int) ≤ 64) = true := decide_eq_true (by omega)
          by_cases a5 : dev = 1
          · subst a5
            go_enter Try.func48, Try.ntmps48
            go_wp2_with fail
            go_ret
            exact ⟨by first | rfl | (rw [d1, d2, d3, d4]; rfl), hb.out⟩
          · have d5 : decide (dev = 1) = false := decide_eq_false a5
            have g5 : (dev == 1) = false := by rw [beq_eq_false_iff_ne]; exact a5
            by_cases a6 : dev = 2
            · subst a6
              go_enter Try.func48, Try.ntmps48
              go_wp2_with fail
              go_ret
              exact ⟨by first | rfl | (rw [d1, d2, d3, d4]; rfl), hb.out⟩
            · have d6 : decide (dev = 2) = false := decide_eq_false a6
              have g6 : (dev == 2) = false := by rw [beq_eq_false_iff_ne]; exact a6
              go_enter Try.func48, Try.ntmps48
              go_wp2_with fail
              go_ret
              exact ⟨by first | rfl | (rw [d1, d2, d3, d4, d5, d6]; rfl), hb.out⟩
        · have d4 : decide (s.size ≤ 64) = false := decide_eq_false a4
          have g4 : decide ((s.size : Int) ≤ 64) = false := decide_eq_false (by omega)
          go_enter Try.func48, Try.ntmps48
          go_wp2_with fail
          go_ret
          exact ⟨by first | rfl | (rw [d1, d2, d3, d4]; rfl), hb.out⟩
      · have d3 : decide (1 ≤ s.size) = false := decide_eq_false a3
        have g3 : decide ((1 : Int) ≤ s.size) = false := decide_eq_false (by omega)
        go_enter Try.func48, Try.ntmps48
        go_wp2_with fail
        go_ret
        exact ⟨by first | rfl | (rw [d1, d2, d3]; rfl), hb.out⟩
    · have d2 : decide (gap ≤ 64) = false := decide_eq_false a2
      have g2 : decide (gap ≤ 64) = false := decide_eq_false (by omega)
      go_enter Try.func48, Try.ntmps48
      go_wp2_with fail
      go_ret
      exact ⟨by first | rfl | (rw [d1, d2]; rfl), hb.out⟩
  · have d1 : decide (1 ≤ gap) = false := decide_eq_false a1
    have g1 : decide (1 ≤ gap) = false := decide_eq_false (by omega)
    go_enter Try.func48, Try.ntmps48
    go_wp2_with fail
    go_ret
    exact ⟨by first | rfl | (rw [d1]; rfl), hb.out⟩
end Go.Proofs.Ythlghmechldegaa
