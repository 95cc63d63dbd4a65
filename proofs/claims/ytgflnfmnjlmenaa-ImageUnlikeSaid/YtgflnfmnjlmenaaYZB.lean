/- Four bytes of a number, and back. -/
import Derived.Test.YtgflnfmnjlmenaaYZA
namespace Go.Proofs.Ytgflnfmnjlmenaa
open Go.RowKit Go.Deep Go.Joins
set_option maxRecDepth 100000
theorem wraps_u32 (n : Int) (h0 : 0 ≤ n) (h1 : n < 2 ^ 32) : IntKind.u32.wrap n = n := by rw [IntKind.wrap_u32]; omega
theorem len_eq (s : ByteArray) : s.data.toList.length = s.size := by rw [Array.length_toList]; rfl
def bcells (L : List UInt8) : Array Value := (L.map fun b => Value.int .u8 b.toNat).toArray
/-- A []byte OVER A ROW THAT IS KNOWN WHOLE, AS A STRING. -/
theorem run_string_of_row {P : Program} (w : World) (src dst e : TypeId) (g n cap : Nat) (L : List UInt8) (t : TypeId) (fr : Nat × Nat)
    (hs : P.underlying src = some (.slice e)) (he : P.underlying e = some (.int .u8)) (hd : P.underlying dst = some .string)
    (hg : w.heap[g]? = some (.cells (bcells L) t fr)) (hn : L.length = n) :
    (convert src dst (.slice (some ⟨g, 0, none⟩) n cap)).run P w = .ok (.string ⟨L.toArray⟩) w := by
  rw [run_convert_bytes_string w src dst e _ n cap hs he hd]
  have hl := run_loadCells_list (P := P) w ⟨g, 0, none⟩ ((L.map fun b => (b.toNat : Int)).map (Value.int .u8)) (by
    intro j v hv
    rw [show (⟨g, 0, none⟩ : Addr).add j = ⟨g, j, none⟩ from by unfold Addr.add; split <;> simp_all]
    rw [cell_of_row w g j _ t fr hg]
    simpa [bcells, Function.comp_def] using hv)
  simp only [List.length_map, hn] at hl
  rw [run_bytesToString w _ n cap _ hl]
  congr 2
  have hfold : ∀ (M : List UInt8) (r : ByteArray), (M.map fun b => (b.toNat : Int)).foldl (fun r n => r.push (UInt8.ofNat n.toNat)) r = ⟨r.data ++ M.toArray⟩ := by
    intro M
    induction M with
    | nil => intro r; cases r; simp
    | cons b M ih =>
      intro r
      rw [List.map_cons, List.foldl_cons, ih]
      cases r
      simp [ByteArray.push]
  rw [hfold]
  simp [ByteArray.empty, ByteArray.emptyWithCapacity]
  rfl
/-- The four bytes, the least first. -/
def shortL (n : Nat) : List UInt8 := [UInt8.ofNat (n % 256), UInt8.ofNat (n / 256 % 256), UInt8.ofNat (n / 65536 % 256), UInt8.ofNat (n / 16777216 % 256)]
def shortB (n : Nat) : ByteArray := ⟨(shortL n).toArray⟩
theorem u8_val (n : Nat) : ((UInt8.ofNat (n % 256)).toNat : Int) = (n : Int) % 256 := by
  rw [UInt8.toNat_ofNat']
  omega
theorem short_row (n : Nat) (h1 : n < 4294967296) : (#[.int .u8 ((n : Int) % 256), .int .u8 ((n : Int) / 256 % 256), .int .u8 ((n : Int) / 65536 % 256), .int .u8 ((n : Int) / 16777216)] : Array Value) = bcells (shortL n) := by
  have e4 : (n : Int) / 16777216 = (n : Int) / 16777216 % 256 := by omega
  have f : ∀ m : Nat, m < 256 → ((UInt8.ofNat m).toNat : Int) = (m : Int) := fun m h => by rw [UInt8.toNat_ofNat']; omega
  have hb : bcells (shortL n) = #[.int .u8 ((UInt8.ofNat (n % 256)).toNat : Int), .int .u8 ((UInt8.ofNat (n / 256 % 256)).toNat : Int), .int .u8 ((UInt8.ofNat (n / 65536 % 256)).toNat : Int), .int .u8 ((UInt8.ofNat (n / 16777216 % 256)).toNat : Int)] := rfl
  rw [hb, f _ (by omega), f _ (by omega), f _ (by omega), f _ (by omega), e4]
  rfl
set_option maxRecDepth 100000 in
set_option maxHeartbeats 1000000 in
theorem short_any (n : Nat) (w : World) (h1 : n < 4294967296) :
    Calls Try.prog 23 #[.int .u32 n] w fun e w' => e = .returned (.string (shortB n)) ∧ Below w.heap.size w w' := by
  have hcv : (convert 36 9 (.slice (some ⟨w.heap.size, 0, none⟩) 4 4)).run Try.prog (w.alloc (.cells #[.int .u8 ((n : Int) % 256), .int .u8 ((n : Int) / 256 % 256), .int .u8 ((n : Int) / 65536 % 256), .int .u8 ((n : Int) / 16777216)] 5)) = .ok (.string (shortB n)) (w.alloc (.cells #[.int .u8 ((n : Int) % 256), .int .u8 ((n : Int) / 256 % 256), .int .u8 ((n : Int) / 65536 % 256), .int .u8 ((n : Int) / 16777216)] 5)) := by
    refine run_string_of_row (P := Try.prog) _ 36 9 5 w.heap.size 4 4 (shortL n) 5 (0, 0) Try.underlying36 Try.underlying5 Try.underlying9 ?_ rfl
    rw [heap_alloc_new, short_row n h1]
  go_enter Try.func23, Try.ntmps23
  go_wp2_with fail
  go_ret
  exact ⟨rfl, below1 w _⟩
theorem ret_u32 {a b : Int} (h : a = b) : Ending.returned (.int .u32 a) = .returned (.int .u32 b) := by rw [h]
theorem shortB_size (n : Nat) : (shortB n).size = 4 := rfl
theorem bits_or_n (a b : Nat) (ha : a < 4294967296) (hb : b < 4294967296) : bits .or .u32 (a : Int) (b : Int) = ((a ||| b : Nat) : Int) := by
  show IntKind.u32.wrap ((BitVec.ofInt 32 (a : Int) ||| BitVec.ofInt 32 (b : Int)).toNat : Int) = _
  rw [BitVec.ofInt_natCast, BitVec.ofInt_natCast, BitVec.toNat_or, BitVec.toNat_ofNat, BitVec.toNat_ofNat, Nat.mod_eq_of_lt (by omega), Nat.mod_eq_of_lt (by omega)]
  have h3 : a ||| b < 2 ^ 32 := Nat.or_lt_two_pow (by omega) (by omega)
  exact wraps_u32 _ (by omega) (by omega)
theorem or_up {a b i : Nat} (h : a < 2 ^ i) : a ||| b * 2 ^ i = a + b * 2 ^ i := by
  rw [Nat.mul_comm, Nat.or_comm, ← Nat.two_pow_add_eq_or_of_lt h, Nat.add_comm]
theorem four_or (a b c d : Nat) (ha : a < 256) (hb : b < 256) (hc : c < 256) (hd : d < 256) :
    bits .or .u32 (bits .or .u32 (bits .or .u32 ((a : Int) % 4294967296) ((b : Int) % 4294967296 * 256 % 4294967296)) ((c : Int) % 4294967296 * 65536 % 4294967296)) ((d : Int) % 4294967296 * 16777216 % 4294967296) = ((a + b * 256 + c * 65536 + d * 16777216 : Nat) : Int) := by
  have e0 : (a : Int) % 4294967296 = (a : Int) := by omega
  have e1 : (b : Int) % 4294967296 * 256 % 4294967296 = ((b * 256 : Nat) : Int) := by omega
  have e2 : (c : Int) % 4294967296 * 65536 % 4294967296 = ((c * 65536 : Nat) : Int) := by omega
  have e3 : (d : Int) % 4294967296 * 16777216 % 4294967296 = ((d * 16777216 : Nat) : Int) := by omega
  rw [e0, e1, e2, e3, bits_or_n a (b * 256) (by omega) (by omega), show a ||| b * 256 = a + b * 256 from or_up (i := 8) (by omega),
    bits_or_n _ (c * 65536) (by omega) (by omega), show a + b * 256 ||| c * 65536 = a + b * 256 + c * 65536 from or_up (i := 16) (by omega),
    bits_or_n _ (d * 16777216) (by omega) (by omega), show a + b * 256 + c * 65536 ||| d * 16777216 = a + b * 256 + c * 65536 + d * 16777216 from or_up (i := 24) (by omega)]
/-- A byte of a string; nought where there is none. -/
def bAt (s : ByteArray) (k : Nat) : Nat := if h : k < s.size then (s[k]'h).toNat else 0
theorem bAt_in {s : ByteArray} {k : Nat} (h : k < s.size) : bAt s k = (s[k]'h).toNat := by unfold bAt; rw [dif_pos h]
theorem bAt_lt (s : ByteArray) (k : Nat) : bAt s k < 256 := by
  unfold bAt
  split
  · exact UInt8.toNat_lt _
  · omega
/-- The number of four bytes. -/
def rd4 (s : ByteArray) (k : Nat) : Nat := bAt s k + bAt s (k + 1) * 256 + bAt s (k + 2) * 65536 + bAt s (k + 3) * 16777216
theorem rd4_lt (s : ByteArray) (k : Nat) : rd4 s k < 4294967296 := by
  have := bAt_lt s k
  have := bAt_lt s (k + 1)
  have := bAt_lt s (k + 2)
  have := bAt_lt s (k + 3)
  unfold rd4
  omega
theorem four_rd (s : ByteArray) (h0 : 0 < s.size) (h1 : 1 < s.size) (h2 : 2 < s.size) (h3 : 3 < s.size) :
    bits .or .u32 (bits .or .u32 (bits .or .u32 (((s[0]'h0).toNat : Int) % 4294967296) (((s[1]'h1).toNat : Int) % 4294967296 * 256 % 4294967296)) (((s[2]'h2).toNat : Int) % 4294967296 * 65536 % 4294967296)) (((s[3]'h3).toNat : Int) % 4294967296 * 16777216 % 4294967296) = ((rd4 s 0 : Nat) : Int) := by
  rw [four_or _ _ _ _ (UInt8.toNat_lt _) (UInt8.toNat_lt _) (UInt8.toNat_lt _) (UInt8.toNat_lt _)]
  unfold rd4
  rw [bAt_in h0, bAt_in h1, bAt_in h2, bAt_in h3]
set_option maxRecDepth 100000 in
set_option maxHeartbeats 1000000 in
theorem rd_any (s : ByteArray) (w : World) (h4 : 4 ≤ s.size) :
    Calls Try.prog 24 #[.string s] w fun e w' => e = .returned (.int .u32 ((rd4 s 0 : Nat) : Int)) ∧ Below w.heap.size w w' := by
  have h0 : 0 < s.size := by omega
  have h1 : 1 < s.size := by omega
  have h2 : 2 < s.size := by omega
  have h3 : 3 < s.size := by omega
  have E := Lib.hid (four_rd s h0 h1 h2 h3)
  have g0 : (0 : Int) < (s.size : Int) := by omega
  have g1 : (1 : Int) < (s.size : Int) := by omega
  have g2 : (2 : Int) < (s.size : Int) := by omega
  have g3 : (3 : Int) < (s.size : Int) := by omega
  go_enter Try.func24, Try.ntmps24
  go_wp2
  go_region
  go_wp2
  go_ret
  exact ⟨ret_u32 E.out, (Below.refl _ _).drew⟩
theorem ext_get (s : ByteArray) (i j k : Nat) (hj : j ≤ s.size) (hk : i + k < j) : bAt (s.extract i j) k = bAt s (i + k) := by
  have h1 : k < (s.extract i j).size := by rw [ByteArray.size_extract]; omega
  rw [bAt_in h1, bAt_in (show i + k < s.size by omega), ByteArray.getElem_extract]
theorem rd4_ext (s : ByteArray) (i j k : Nat) (hj : j ≤ s.size) (hk : i + k + 3 < j) : rd4 (s.extract i j) k = rd4 s (i + k) := by
  unfold rd4
  rw [ext_get s i j k hj (by omega), ext_get s i j (k + 1) hj (by omega), ext_get s i j (k + 2) hj (by omega), ext_get s i j (k + 3) hj (by omega)]
  rfl
end Go.Proofs.Ytgflnfmnjlmenaa
