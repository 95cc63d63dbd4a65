/- Bytes. -/
import Derived.Test.YtnedhjaphfjdmaaRC
import Derived.Handy
namespace Go.Proofs.Ytnedhjaphfjdmaa
open Go.RowKit Go.Deep Go.Joins
def leL (n : Nat) : List UInt8 := [UInt8.ofNat n, UInt8.ofNat (n / 256), UInt8.ofNat (n / 65536), UInt8.ofNat (n / 16777216), UInt8.ofNat (n / 4294967296), UInt8.ofNat (n / 1099511627776), UInt8.ofNat (n / 281474976710656), UInt8.ofNat (n / 72057594037927936)]
def bytesN (n s : Nat) : ByteArray := ⟨((leL n).take s).toArray⟩
theorem leL_length (n : Nat) : (leL n).length = 8 := rfl
theorem bytesN_size (n s : Nat) (h : s ≤ 8) : (bytesN n s).size = s := by
  show ((leL n).take s).toArray.size = s
  rw [List.size_toArray, List.length_take, leL_length]; omega
theorem byte_at (m : Nat) : Value.int .u8 ((UInt8.ofNat m).toNat : Int) = .int .u8 ((m : Int) % 256) := by
  rw [UInt8.toNat_ofNat']
  congr 1
theorem leL_cells (n : Nat) (hn : n < 18446744073709551616) : (dC (leL n)).toArray = #[.int .u8 ((n : Int) % 256), .int .u8 ((n : Int) / 256 % 256), .int .u8 ((n : Int) / 65536 % 256), .int .u8 ((n : Int) / 16777216 % 256), .int .u8 ((n : Int) / 4294967296 % 256),
      .int .u8 ((n : Int) / 1099511627776 % 256), .int .u8 ((n : Int) / 281474976710656 % 256), .int .u8 ((n : Int) / 72057594037927936)] := by
  have e : ((n / 72057594037927936 : Nat) : Int) % 256 = ((n / 72057594037927936 : Nat) : Int) := by omega
  simp only [dC, leL, List.map_cons, List.map_nil, byte_at, e]
  rfl
theorem bytes_cv (n s : Nat) (w : World) (hn : n < 18446744073709551616) (hs : s ≤ 8) :
    (convert 36 9 (.slice (some ⟨w.heap.size, 0, none⟩) s 8)).run Try.prog (w.alloc (.cells #[.int .u8 ((n : Int) % 256), .int .u8 ((n : Int) / 256 % 256), .int .u8 ((n : Int) / 65536 % 256), .int .u8 ((n : Int) / 16777216 % 256), .int .u8 ((n : Int) / 4294967296 % 256),
      .int .u8 ((n : Int) / 1099511627776 % 256), .int .u8 ((n : Int) / 281474976710656 % 256), .int .u8 ((n : Int) / 72057594037927936)] 99)) =
    .ok (.string (bytesN n s)) (w.alloc (.cells #[.int .u8 ((n : Int) % 256), .int .u8 ((n : Int) / 256 % 256), .int .u8 ((n : Int) / 65536 % 256), .int .u8 ((n : Int) / 16777216 % 256), .int .u8 ((n : Int) / 4294967296 % 256),
      .int .u8 ((n : Int) / 1099511627776 % 256), .int .u8 ((n : Int) / 281474976710656 % 256), .int .u8 ((n : Int) / 72057594037927936)] 99)) := by
  rw [← leL_cells n hn]
  have h := run_convert_bytes_back (P := Try.prog) (w.alloc (.cells (dC (leL n)).toArray 99)) 36 9 5 ⟨w.heap.size, 0, none⟩ 8 ((leL n).take s) Try.underlying36 Try.underlying5 Try.underlying9 (fun j hj => by
    rw [add_lit, Nat.zero_add, World.cell?_alloc_new]
    rw [List.length_take, leL_length] at hj
    rw [List.getElem?_toArray, dC, List.getElem?_map, List.getElem?_eq_getElem (by rw [leL_length]; omega), List.getElem_take]
    rfl)
  rw [List.length_take, leL_length, Nat.min_eq_left hs] at h
  exact h
set_option maxHeartbeats 1000000 in
set_option maxRecDepth 100000 in
theorem bytes_any (n : Nat) (s : Nat) (w : World) (hn : n < 18446744073709551616) (hs : s ≤ 8) :
    Calls Try.prog 34 #[.int .u64 n, .int .i64 s] w fun e w' => e = .returned (.string (bytesN n s)) ∧ Below w.heap.size w w' := by
  have hcv := bytes_cv n s w hn hs
  go_enter Try.func34, Try.ntmps34
  go_wp2_with fail
  go_rounds 9
  go_ret
  exact ⟨rfl, below1 w _⟩
end Go.Proofs.Ytnedhjaphfjdmaa
