/- Four bytes of a number; the sum's turns. -/
import Derived.Test.YtkecjopojnllnaaQD
import Derived.Lib.EndianBits
namespace Go.Proofs.Ytkecjopojnllnaa
open Go.RowKit Go.Deep Go.Joins

theorem xor_u32 (a b : Nat) (ha : a < 4294967296) (hb : b < 4294967296) : bits .xor .u32 (a : Int) (b : Int) = ((a ^^^ b : Nat) : Int) := by
  show IntKind.u32.wrap ((BitVec.ofInt 32 (a : Int) ^^^ BitVec.ofInt 32 (b : Int)).toNat : Int) = _
  have h1 : (BitVec.ofInt 32 (a : Int)).toNat = a := by rw [BitVec.ofInt_natCast, BitVec.toNat_ofNat]; exact Nat.mod_eq_of_lt (by omega)
  have h2 : (BitVec.ofInt 32 (b : Int)).toNat = b := by rw [BitVec.ofInt_natCast, BitVec.toNat_ofNat]; exact Nat.mod_eq_of_lt (by omega)
  rw [BitVec.toNat_xor, h1, h2]
  have h3 : a ^^^ b < 2 ^ 32 := Nat.xor_lt_two_pow (by omega) (by omega)
  exact wraps_u32 _ (by omega) (by omega)
theorem xor_lt {a b : Nat} (ha : a < 4294967296) (hb : b < 4294967296) : a ^^^ b < 4294967296 := Nat.xor_lt_two_pow (n := 32) (by omega) (by omega)
theorem and1_u32 (x : Nat) (h : x < 4294967296) : bits .and .u32 (x : Int) 1 = ((x % 2 : Nat) : Int) := by
  have h := bits_mask .u32 32 (by decide) wraps_u32 1 (by decide) (x : Int) (by omega) (by omega)
  simpa using h
/-- One of the eight turns. -/
def turn (m : Nat) : Nat := if m % 2 = 1 then m / 2 ^^^ 3988292384 else m / 2
theorem turn_lt {m : Nat} (h : m < 4294967296) : turn m < 4294967296 := by
  unfold turn
  split
  · exact xor_lt (by omega) (by omega)
  · omega
def turns : Nat → Nat → Nat
  | 0, m => m
  | k + 1, m => turns k (turn m)
theorem turns_lt {k m : Nat} (h : m < 4294967296) : turns k m < 4294967296 := by
  induction k generalizing m with
  | zero => exact h
  | succ k ih => exact ih (turn_lt h)
theorem turn_prog (m : Nat) (h : m < 4294967296) : bits BinOp.xor IntKind.u32 ((m : Int) / 2) (bits BinOp.and IntKind.u32 (m : Int) 1 * 3988292384 % 4294967296) = ((turn m : Nat) : Int) := by
  rw [and1_u32 m h, show (m : Int) / 2 = ((m / 2 : Nat) : Int) by omega]
  unfold turn
  split
  · rename_i h1
    rw [h1, ← xor_u32 _ _ (by omega) (by omega)]
    rfl
  · rw [show m % 2 = 0 by omega]
    show bits BinOp.xor IntKind.u32 _ (((0 : Nat) : Int)) = _
    rw [xor_u32 _ _ (by omega) (by omega), Nat.xor_zero]

set_option maxRecDepth 100000 in
set_option maxHeartbeats 1000000 in
theorem stir_any (n : Nat) (w : World) (h1 : n < 4294967296) :
    Calls Try.prog 75 #[.int .u32 n] w fun e w' => e = .returned (.int .u32 ((turns 8 n : Nat) : Int)) ∧ w = w' := by
  go_enter Try.func75, Try.ntmps75
  go_wp2_with fail
  go_loopw [3, 0] (fun i v wr => ∃ (k m : Nat), k ≤ 8 ∧ i = .int .i64 k ∧ v = .int .u32 m ∧ m < 4294967296 ∧ Hid (turns (8 - k) m = turns 8 n) ∧ wr = w) (fun i _ _ => 8 - (intOf i).toNat)
  case atStart => exact ⟨0, n, by omega, rfl, rfl, h1, rfl, rfl⟩
  case round =>
    obtain ⟨k, m, hk, rfl, rfl, hm1, hm, rfl⟩ := hrel
    by_cases hlt : k < 8
    · go_wp2_with fail
      case roundEnd =>
        refine ⟨⟨k + 1, turn m, by omega, by go_num, ?_, turn_lt hm1, ?_, trivial⟩, by simp [intOf]; omega⟩
        · rw [turn_prog m hm1]
        · have := hm.out
          show _ = _
          rw [← this, show 8 - k = (8 - (k + 1)) + 1 by omega]
          rfl
    · obtain rfl : k = 8 := by omega
      go_wp2_with fail
      go_ret
      have := hm.out
      exact ⟨by rw [← this]; rfl, rfl⟩

/-- The four bytes, the least first. -/
def shortL (n : Nat) : List UInt8 := [UInt8.ofNat (n % 256), UInt8.ofNat (n / 256 % 256), UInt8.ofNat (n / 65536 % 256), UInt8.ofNat (n / 16777216 % 256)]
def shortB (n : Nat) : ByteArray := ⟨(shortL n).toArray⟩
theorem u8_val (n : Nat) : ((UInt8.ofNat (n % 256)).toNat : Int) = (n : Int) % 256 := by
  rw [UInt8.toNat_ofNat']
  omega

theorem short_row (n : Nat) (h1 : n < 4294967296) : (#[.int .u8 ((n : Int) % 256), .int .u8 ((n : Int) / 256 % 256), .int .u8 ((n : Int) / 65536 % 256), .int .u8 ((n : Int) / 16777216)] : Array Value) = bcells (shortL n) := by
  have e4 : (n : Int) / 16777216 = (n : Int) / 16777216 % 256 := by omega
  have f : ∀ m : Nat, m < 256 → ((UInt8.ofNat m).toNat : Int) = (m : Int) := fun m h => by rw [UInt8.toNat_ofNat']; omega
  have hb : bcells (shortL n) = #[.int .u8 ((UInt8.ofNat (n % 256)).toNat : Int), .int .u8 ((UInt8.ofNat (n / 256 % 256)).toNat : Int), .int .u8 ((UInt8.ofNat (n / 65536 % 256)).toNat : Int), .int .u8 ((UInt8.ofNat (n / 16777216 % 256)).toNat : Int)] := rfl
  rw [hb, f _ (by omega), f _ (by omega), f _ (by omega), f _ (by omega), e4]
  rfl

set_option maxRecDepth 100000 in
set_option maxHeartbeats 1000000 in
theorem short_any (n : Nat) (w : World) (h1 : n < 4294967296) :
    Calls Try.prog 64 #[.int .u32 n] w fun e w' => e = .returned (.string (shortB n)) ∧ Below w.heap.size w w' := by
  have hcv : (convert 86 9 (.slice (some ⟨w.heap.size, 0, none⟩) 4 4)).run Try.prog (w.alloc (.cells #[.int .u8 ((n : Int) % 256), .int .u8 ((n : Int) / 256 % 256), .int .u8 ((n : Int) / 65536 % 256), .int .u8 ((n : Int) / 16777216)] 5)) = .ok (.string (shortB n)) (w.alloc (.cells #[.int .u8 ((n : Int) % 256), .int .u8 ((n : Int) / 256 % 256), .int .u8 ((n : Int) / 65536 % 256), .int .u8 ((n : Int) / 16777216)] 5)) := by
    refine run_string_of_row (P := Try.prog) _ 86 9 5 w.heap.size 4 4 (shortL n) 5 (0, 0) Try.underlying86 Try.underlying5 Try.underlying9 ?_ rfl
    rw [heap_alloc_new, short_row n h1]
  go_enter Try.func64, Try.ntmps64
  go_wp2_with fail
  go_ret
  exact ⟨rfl, below1 w _⟩
set_option maxRecDepth 100000 in
set_option maxHeartbeats 1000000 in
theorem short3_any (n : Nat) (w : World) (h1 : n < 4294967296) :
    Calls Try.prog 63 #[.int .u32 n] w fun e w' => e = .returned (.string (shortB n)) ∧ Below w.heap.size w w' := by
  have hcv : (convert 86 9 (.slice (some ⟨w.heap.size, 0, none⟩) 4 4)).run Try.prog (w.alloc (.cells #[.int .u8 ((n : Int) % 256), .int .u8 ((n : Int) / 256 % 256), .int .u8 ((n : Int) / 65536 % 256), .int .u8 ((n : Int) / 16777216)] 5)) = .ok (.string (shortB n)) (w.alloc (.cells #[.int .u8 ((n : Int) % 256), .int .u8 ((n : Int) / 256 % 256), .int .u8 ((n : Int) / 65536 % 256), .int .u8 ((n : Int) / 16777216)] 5)) := by
    refine run_string_of_row (P := Try.prog) _ 86 9 5 w.heap.size 4 4 (shortL n) 5 (0, 0) Try.underlying86 Try.underlying5 Try.underlying9 ?_ rfl
    rw [heap_alloc_new, short_row n h1]
  go_enter Try.func63, Try.ntmps63
  go_wp2_with fail
  go_ret
  exact ⟨rfl, below1 w _⟩
end Go.Proofs.Ytkecjopojnllnaa
