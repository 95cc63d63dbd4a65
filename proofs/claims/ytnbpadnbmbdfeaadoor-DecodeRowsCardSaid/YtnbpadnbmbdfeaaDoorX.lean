/- DecodeRows, walked. -/
import Derived.Test.YtnbpadnbmbdfeaaDoorT
namespace Go.Proofs.YtnbpadnbmbdfeaaDoor
open Go.RowKit Go.Deep Go.Joins

set_option maxHeartbeats 2000000 in
theorem rows_any (w : Nat) (W : World) (hw : w < 4294967296) (hL : Laid W) : Calls Tryd.prog 4 #[.int .u32 w] W fun e W' => e = .returned (.bool true) ∧ Below W.heap.size W W' := by
  have HL := Lib.hid hL
  clear hL
  go_enter Tryd.func4, Tryd.ntmps4
  go_wp2_with (first | (go_at_call 8; (with_reducible refine (awake_any _ HL.out).mono ?_); rintro e w1 ⟨rfl, hb1⟩; have H1 := Lib.hid hb1; clear hb1) | fail)
  go_loopw [3] (fun k wr => ∃ j : Nat, j ≤ 32 ∧ k = .int .u64 j ∧ Hid (Below W.heap.size W wr)) (fun k _ => 32 - (intOf k).toNat)
  case atStart => exact ⟨0, by omega, rfl, H1⟩
  case round =>
    obtain ⟨j, hj, rfl, hb⟩ := hrel
    by_cases hlt : j < 32
    · obtain ⟨x, hx⟩ : ∃ x : Nat, x = w ^^^ 2 ^ j := ⟨_, rfl⟩
      have hj2 : (2 : Nat) ^ j ≤ 2 ^ 31 := Nat.pow_le_pow_right (by omega) (by omega)
      have hj0 : (0 : Nat) < 2 ^ j := Nat.two_pow_pos j
      have hxl : x < 4294967296 := by rw [hx]; exact Nat.xor_lt_two_pow (n := 32) (by omega) (by omega)
      have EX : bits .xor .u32 (w : Int) ((2 : Int) ^ j % 4294967296) = (x : Int) := by
        have e : ((2 : Int) ^ j % 4294967296) = ((2 ^ j : Nat) : Int) := by
          have : ((2 ^ j : Nat) : Int) = (2 : Int) ^ j := by simp only [Int.natCast_pow, Int.cast_ofNat_Int]
          rw [← this]
          omega
        rw [e, hx]
        exact u32_xor_nat w _ hw (by omega)
      clear hx hj2 hj0
      have HB := hb
      go_wp2_with (first | (go_at_call 9; (with_reducible refine (word_any x _ (HL.out.below HB.out)).mono ?_); rintro e w2 ⟨rfl, hb2⟩; have H2 := Lib.hid hb2; clear hb2) | (go_at_call 10; (with_reducible refine (rword_any x _ hxl).mono ?_); rintro e w3 ⟨rfl, hb3⟩; obtain ⟨f0, f1, f2, f3, f4, fl⟩ := five hb3; have H3 := Lib.hid hb3; clear hb3) | fail)
      have h12 := HB.out.trans (H2.out.mono HB.out.size)
      have hq := h12.alloc h12.size (.cells #[.int .i64 (wI x).op, .int .i64 (wI x).rd, .int .i64 (wI x).rs1, .int .i64 (wI x).rs2, .int .i64 (wI x).imm] 25)
      have hr := hq.trans (H3.out.mono hq.size)
      have HE := Lib.hid (hr.alloc hr.size (.cells #[.int .i64 (wI x).op, .int .i64 (wI x).rd, .int .i64 (wI x).rs1, .int .i64 (wI x).rs2, .int .i64 (wI x).imm] 25))
      clear h12 hq hr
      go_roundw
      case rel => exact ⟨j + 1, by omega, by go_num, HE⟩
      case measure => simp [intOf]; omega
    · go_wp2_with fail
      go_ret
      exact ⟨rfl, hb.out⟩

end Go.Proofs.YtnbpadnbmbdfeaaDoor
