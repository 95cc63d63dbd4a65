/- Numbers as eight bytes, and back. -/
import Derived.Test.YtgflnfmnjlmenaaYZB
import Derived.Handy
namespace Go.Proofs.Ytgflnfmnjlmenaa
open Go.RowKit Go.Deep Go.Joins
set_option maxRecDepth 100000
def leL (n : Nat) : List UInt8 := [UInt8.ofNat n, UInt8.ofNat (n / 256), UInt8.ofNat (n / 65536), UInt8.ofNat (n / 16777216), UInt8.ofNat (n / 4294967296), UInt8.ofNat (n / 1099511627776), UInt8.ofNat (n / 281474976710656), UInt8.ofNat (n / 72057594037927936)]
def bytesN (n s : Nat) : ByteArray := ⟨((leL n).take s).toArray⟩
theorem leL_length (n : Nat) : (leL n).length = 8 := rfl
theorem bytesN_size (n s : Nat) (h : s ≤ 8) : (bytesN n s).size = s := by
  show ((leL n).take s).toArray.size = s
  rw [List.size_toArray, List.length_take, leL_length]; omega
theorem byte_at (m : Nat) : Value.int .u8 ((UInt8.ofNat m).toNat : Int) = .int .u8 ((m : Int) % 256) := by
  rw [UInt8.toNat_ofNat']
  congr 1
theorem leL_cells (n : Nat) (hn : n < 18446744073709551616) : (dC (leL n)).toArray = #[.int .u8 ((n : Int) % 256), .int .u8 ((n : Int) / 256 % 256), .int .u8 ((n : Int) / 65536 % 256), .int .u8 ((n : Int) / 16777216 % 256), .int .u8 ((n : Int) / 4294967296 % 256),
      .int .u8 ((n : Int) / 1099511627776 % 256), .int .u8 ((n : Int) / 281474976710656 % 256), .int .u8 ((n : Int) / 72057594037927936)] := by
  have e : ((n / 72057594037927936 : Nat) : Int) % 256 = ((n / 72057594037927936 : Nat) : Int) := by omega
  simp only [dC, leL, List.map_cons, List.map_nil, byte_at, e]
  rfl

abbrev numB (n : Nat) : ByteArray := bytesN n 8
theorem num_cv (n : Nat) (w : World) (hn : n < 18446744073709551616) :
    (convert 36 9 (.slice (some ⟨w.heap.size, 0, none⟩) 8 8)).run Try.prog (w.alloc (.cells #[.int .u8 ((n : Int) % 256), .int .u8 ((n : Int) / 256 % 256), .int .u8 ((n : Int) / 65536 % 256), .int .u8 ((n : Int) / 16777216 % 256), .int .u8 ((n : Int) / 4294967296 % 256),
      .int .u8 ((n : Int) / 1099511627776 % 256), .int .u8 ((n : Int) / 281474976710656 % 256), .int .u8 ((n : Int) / 72057594037927936)] 5)) =
    .ok (.string (numB n)) (w.alloc (.cells #[.int .u8 ((n : Int) % 256), .int .u8 ((n : Int) / 256 % 256), .int .u8 ((n : Int) / 65536 % 256), .int .u8 ((n : Int) / 16777216 % 256), .int .u8 ((n : Int) / 4294967296 % 256),
      .int .u8 ((n : Int) / 1099511627776 % 256), .int .u8 ((n : Int) / 281474976710656 % 256), .int .u8 ((n : Int) / 72057594037927936)] 5)) := by
  rw [← leL_cells n hn]
  have h := run_convert_bytes_back (P := Try.prog) (w.alloc (.cells (dC (leL n)).toArray 5)) 36 9 5 ⟨w.heap.size, 0, none⟩ 8 (leL n) Try.underlying36 Try.underlying5 Try.underlying9 (fun j hj => by
    rw [add_lit, Nat.zero_add, World.cell?_alloc_new]
    rw [leL_length] at hj
    rw [List.getElem?_toArray, dC, List.getElem?_map, List.getElem?_eq_getElem (by rw [leL_length]; omega)]
    rfl)
  rw [leL_length] at h
  exact h
set_option maxHeartbeats 1000000 in
theorem num_any (n : Nat) (w : World) (hn : n < 18446744073709551616) :
    Calls Try.prog 32 #[.int .u64 n] w fun e w' => e = .returned (.string (numB n)) ∧ Below w.heap.size w w' := by
  have hcv := num_cv n w hn
  have hmk : (Instr.makeSlice 36 (.int .i64 8) (.int .i64 8)).run Try.prog w = .ok (.slice (some ⟨w.heap.size, 0, none⟩) 8 8) (w.alloc (.cells #[.int .u8 0, .int .u8 0, .int .u8 0, .int .u8 0, .int .u8 0, .int .u8 0, .int .u8 0, .int .u8 0] 5)) := make_d 8 (by decide) w
  go_enter Try.func32, Try.ntmps32
  go_wp2_with fail
  go_rounds 9
  go_ret
  exact ⟨rfl, below1 w _⟩
theorem wraps_u64 (n : Int) (h0 : 0 ≤ n) (h1 : n < 18446744073709551616) : IntKind.u64.wrap n = n := by rw [IntKind.wrap_u64]; omega
theorem bits_or_64 (a b : Nat) (ha : a < 18446744073709551616) (hb : b < 18446744073709551616) : bits .or .u64 (a : Int) (b : Int) = ((a ||| b : Nat) : Int) := by
  show IntKind.u64.wrap ((BitVec.ofInt 64 (a : Int) ||| BitVec.ofInt 64 (b : Int)).toNat : Int) = _
  rw [BitVec.ofInt_natCast, BitVec.ofInt_natCast, BitVec.toNat_or, BitVec.toNat_ofNat, BitVec.toNat_ofNat, Nat.mod_eq_of_lt (by omega), Nat.mod_eq_of_lt (by omega)]
  have h3 : a ||| b < 2 ^ 64 := Nat.or_lt_two_pow (by omega) (by omega)
  exact wraps_u64 _ (by omega) (by omega)
theorem or_step (x c k m : Nat) (M : Int) (hM : M = (m : Nat)) (hm : m = 2 ^ k) (hx : x < m) (hc : c < 256) (hk : m ≤ 72057594037927936) : bits .or .u64 (x : Int) (IntKind.u64.wrap (IntKind.u64.wrap (c : Nat) * M)) = ((x + c * m : Nat) : Int) := by
  subst hM
  have e1 : IntKind.u64.wrap (c : Nat) = (c : Int) := wraps_u64 _ (by omega) (by omega)
  have hcm : c * m ≤ 255 * 72057594037927936 := Nat.mul_le_mul (by omega) hk
  have e2 : ((c : Nat) : Int) * (m : Nat) = ((c * m : Nat) : Int) := by simp
  have e3 : IntKind.u64.wrap ((c * m : Nat) : Int) = ((c * m : Nat) : Int) := wraps_u64 _ (by omega) (by omega)
  rw [e1, e2, e3, bits_or_64 x (c * m) (by omega) (by omega)]
  subst hm
  rw [or_up hx]
theorem eight_or (c0 c1 c2 c3 c4 c5 c6 c7 : Nat) (h0 : c0 < 256) (h1 : c1 < 256) (h2 : c2 < 256) (h3 : c3 < 256) (h4 : c4 < 256) (h5 : c5 < 256) (h6 : c6 < 256) (h7 : c7 < 256) :
    (bits .or .u64 (bits .or .u64 (bits .or .u64 (bits .or .u64 (bits .or .u64 (bits .or .u64 (bits .or .u64 (bits .or .u64 0 (IntKind.u64.wrap (IntKind.u64.wrap (c0 : Nat)))) (IntKind.u64.wrap (IntKind.u64.wrap (c1 : Nat) * 256))) (IntKind.u64.wrap (IntKind.u64.wrap (c2 : Nat) * 65536))) (IntKind.u64.wrap (IntKind.u64.wrap (c3 : Nat) * 16777216))) (IntKind.u64.wrap (IntKind.u64.wrap (c4 : Nat) * 4294967296))) (IntKind.u64.wrap (IntKind.u64.wrap (c5 : Nat) * 1099511627776))) (IntKind.u64.wrap (IntKind.u64.wrap (c6 : Nat) * 281474976710656))) (IntKind.u64.wrap (IntKind.u64.wrap (c7 : Nat) * 72057594037927936))) = ((c0 + c1 * 256 + c2 * 65536 + c3 * 16777216 + (c4 + c5 * 256 + c6 * 65536 + c7 * 16777216) * 4294967296 : Nat) : Int) := by
  have s0 : bits .or .u64 0 (IntKind.u64.wrap (IntKind.u64.wrap (c0 : Nat))) = ((c0 : Nat) : Int) := by
    have := or_step 0 c0 0 1 1 rfl rfl (by decide) h0 (by decide)
    simpa using this
  rw [s0]
  have s1 := or_step c0 c1 8 256 256 rfl rfl (by omega) h1 (by decide)
  have s2 := or_step (c0 + c1 * 256) c2 16 65536 65536 rfl rfl (by omega) h2 (by decide)
  have s3 := or_step (c0 + c1 * 256 + c2 * 65536) c3 24 16777216 16777216 rfl rfl (by omega) h3 (by decide)
  have s4 := or_step (c0 + c1 * 256 + c2 * 65536 + c3 * 16777216) c4 32 4294967296 4294967296 rfl rfl (by omega) h4 (by decide)
  have s5 := or_step (c0 + c1 * 256 + c2 * 65536 + c3 * 16777216 + c4 * 4294967296) c5 40 1099511627776 1099511627776 rfl rfl (by omega) h5 (by decide)
  have s6 := or_step (c0 + c1 * 256 + c2 * 65536 + c3 * 16777216 + c4 * 4294967296 + c5 * 1099511627776) c6 48 281474976710656 281474976710656 rfl rfl (by omega) h6 (by decide)
  have s7 := or_step (c0 + c1 * 256 + c2 * 65536 + c3 * 16777216 + c4 * 4294967296 + c5 * 1099511627776 + c6 * 281474976710656) c7 56 72057594037927936 72057594037927936 rfl rfl (by omega) h7 (by decide)
  rw [s1, s2, s3, s4, s5, s6, s7]
  congr 1
  omega
/-- The number of eight bytes. -/
def rd8 (s : ByteArray) : Nat := rd4 s 0 + rd4 s 4 * 4294967296
set_option maxHeartbeats 1000000 in
theorem read_no (s : ByteArray) (w : World) (h : s.size ≠ 8) :
    Calls Try.prog 44 #[.string s] w fun e w' => e = .returned (.tuple #[.int .u64 0, .int .i64 3]) ∧ w = w' := by
  have h1 : ((s.size : Int) != 8) = true := by rw [bne_iff_ne]; omega
  go_enter Try.func44, Try.ntmps44
  go_wp2
  go_ret2
  exact ⟨rfl, rfl⟩
set_option maxHeartbeats 1000000 in
theorem read_yes (s : ByteArray) (w : World) (h : s.size = 8) :
    Calls Try.prog 44 #[.string s] w fun e w' => e = .returned (.tuple #[.int .u64 (rd8 s : Nat), .int .i64 0]) ∧ w = w' := by
  have h1 : ((s.size : Int) != 8) = false := by rw [bne_eq_false_iff_eq]; omega
  have h0 : 0 < s.size := by omega
  have h2 : 1 < s.size := by omega
  have h3 : 2 < s.size := by omega
  have h4 : 3 < s.size := by omega
  have h5 : 4 < s.size := by omega
  have h6 : 5 < s.size := by omega
  have h7 : 6 < s.size := by omega
  have h8 : 7 < s.size := by omega
  have E := Lib.hid (eight_or s[0].toNat s[1].toNat s[2].toNat s[3].toNat s[4].toNat s[5].toNat s[6].toNat s[7].toNat (UInt8.toNat_lt _) (UInt8.toNat_lt _) (UInt8.toNat_lt _) (UInt8.toNat_lt _) (UInt8.toNat_lt _) (UInt8.toNat_lt _) (UInt8.toNat_lt _) (UInt8.toNat_lt _))
  have R8 : RowKit.Hid (((rd8 s : Nat) : Int) = _) := Lib.hid (by unfold rd8 rd4; rw [bAt_in h0, bAt_in h2, bAt_in h3, bAt_in h4, bAt_in h5, bAt_in h6, bAt_in h7, bAt_in h8])
  have g0 : (0 : Int) < s.size := by omega
  have g2 : (1 : Int) < s.size := by omega
  have g3 : (2 : Int) < s.size := by omega
  have g4 : (3 : Int) < s.size := by omega
  have g5 : (4 : Int) < s.size := by omega
  have g6 : (5 : Int) < s.size := by omega
  have g7 : (6 : Int) < s.size := by omega
  have g8 : (7 : Int) < s.size := by omega
  go_enter Try.func44, Try.ntmps44
  go_wp2_with fail
  go_rounds 9
  go_ret2
  refine ⟨?_, rfl⟩
  rw [R8.out, ← E.out]
  rfl
end Go.Proofs.Ytgflnfmnjlmenaa
