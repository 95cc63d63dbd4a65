/- BriefRows walked. -/
import Derived.Test.YtdodbfpahmkpbaaF
namespace Go.Proofs.Ytdodbfpahmkpbaa
open Go.RowKit Go.Deep Go.Joins

theorem or16_nat (a b : Nat) : bits .or .u16 (a : Int) (b : Int) = (((a ||| b) % 65536 : Nat) : Int) := by
  show IntKind.u16.wrap ((BitVec.ofInt 16 (a : Int) ||| BitVec.ofInt 16 (b : Int)).toNat : Int) = _
  rw [BitVec.ofInt_natCast, BitVec.ofInt_natCast, BitVec.toNat_or, BitVec.toNat_ofNat, BitVec.toNat_ofNat, ← Nat.or_mod_two_pow, IntKind.wrap_u16]
  omega
theorem and16_nat (a b : Nat) : bits .and .u16 (a : Int) (b : Int) = (((a &&& b) % 65536 : Nat) : Int) := by
  show IntKind.u16.wrap ((BitVec.ofInt 16 (a : Int) &&& BitVec.ofInt 16 (b : Int)).toNat : Int) = _
  rw [BitVec.ofInt_natCast, BitVec.ofInt_natCast, BitVec.toNat_and, BitVec.toNat_ofNat, BitVec.toNat_ofNat, ← Nat.and_mod_two_pow, IntKind.wrap_u16]
  omega
theorem at_row (h j : Nat) : ∃ x : Nat, x < 65536 ∧ bits .or .u16 (bits .and .u16 (h : Int) 65280) (j : Int) = (x : Int) := by
  refine ⟨((h &&& 65280) % 65536 ||| j) % 65536, Nat.mod_lt _ (by omega), ?_⟩
  · rw [show bits .and .u16 (h : Int) 65280 = (((h &&& 65280) % 65536 : Nat) : Int) from and16_nat h 65280]
    exact or16_nat _ j
set_option maxRecDepth 100000 in
set_option maxHeartbeats 2000000 in
theorem rows_any (h : Nat) (W : World) : Calls Try.prog 4 #[.int .u16 h] W fun e W' => e = .returned (.bool true) ∧ W = W' := by
  go_enter Try.func4, Try.ntmps4
  go_wp2_with (first | (go_at_call 6; (with_reducible refine (awake_any _).mono ?_); rintro e w' ⟨rfl, rfl⟩) | fail)
  go_loopw [3] (fun k wr => ∃ j : Nat, j ≤ 256 ∧ k = .int .u16 j ∧ Hid (W = wr)) (fun k _ => 256 - (intOf k).toNat)
  case atStart => exact ⟨0, by omega, rfl, Lib.hid rfl⟩
  case round =>
    obtain ⟨j, hj, rfl, hb⟩ := hrel
    by_cases hlt : j < 256
    · obtain ⟨x, hx, EX⟩ := at_row h j
      go_wp2_with (first | (go_at_call 9; (with_reducible refine (pword_any x _ hx).mono ?_); rintro e w' ⟨rfl, rfl⟩) | (go_at_call 10; (with_reducible refine (rword_same x _ hx).mono ?_); rintro e w' ⟨rfl, rfl⟩) | fail)
      go_roundw
      case rel => exact ⟨j + 1, by omega, by go_num, hb⟩
      case measure => simp [intOf]; omega
    · go_wp2_with fail
      go_ret
      exact ⟨rfl, hb.out⟩
theorem own : ownKnob Try.prog.godebug = none := by kernel_rfl
theorem frame_same (w : World) : Below w.heap.size w w := Below.refl _ _

end Go.Proofs.Ytdodbfpahmkpbaa
