/- A frame, the program's. -/
import Derived.Test.YtkecjopojnllnaaM05
import Derived.Lib.EndianBits
import Derived.Lib.AppendStr
import Derived.Deep.WholeRow
namespace Go.Proofs.Ytkecjopojnllnaa
open Go.RowKit Go.Deep Go.Joins

theorem xor_u32 (a b : Nat) (ha : a < 4294967296) (hb : b < 4294967296) : bits .xor .u32 (a : Int) (b : Int) = ((a ^^^ b : Nat) : Int) := by
  show IntKind.u32.wrap ((BitVec.ofInt 32 (a : Int) ^^^ BitVec.ofInt 32 (b : Int)).toNat : Int) = _
  have h1 : (BitVec.ofInt 32 (a : Int)).toNat = a := by rw [BitVec.ofInt_natCast, BitVec.toNat_ofNat]; exact Nat.mod_eq_of_lt (by omega)
  have h2 : (BitVec.ofInt 32 (b : Int)).toNat = b := by rw [BitVec.ofInt_natCast, BitVec.toNat_ofNat]; exact Nat.mod_eq_of_lt (by omega)
  rw [BitVec.toNat_xor, h1, h2]
  have h3 : a ^^^ b < 2 ^ 32 := Nat.xor_lt_two_pow (by omega) (by omega)
  exact wraps_u32 _ (by omega) (by omega)
theorem xor_lt {a b : Nat} (ha : a < 4294967296) (hb : b < 4294967296) : a ^^^ b < 4294967296 := Nat.xor_lt_two_pow (n := 32) (by omega) (by omega)
theorem and1_u32 (x : Nat) (h : x < 4294967296) : bits .and .u32 (x : Int) 1 = ((x % 2 : Nat) : Int) := by
  have h := bits_mask .u32 32 (by decide) wraps_u32 1 (by decide) (x : Int) (by omega) (by omega)
  simpa using h
/-- One of the eight turns. -/
def turn (m : Nat) : Nat := if m % 2 = 1 then m / 2 ^^^ 3988292384 else m / 2
theorem turn_lt {m : Nat} (h : m < 4294967296) : turn m < 4294967296 := by
  unfold turn
  split
  · exact xor_lt (by omega) (by omega)
  · omega
def turns : Nat → Nat → Nat
  | 0, m => m
  | k + 1, m => turns k (turn m)
theorem turns_lt {k m : Nat} (h : m < 4294967296) : turns k m < 4294967296 := by
  induction k generalizing m with
  | zero => exact h
  | succ k ih => exact ih (turn_lt h)
theorem turn_prog (m : Nat) (h : m < 4294967296) : bits BinOp.xor IntKind.u32 ((m : Int) / 2) (bits BinOp.and IntKind.u32 (m : Int) 1 * 3988292384 % 4294967296) = ((turn m : Nat) : Int) := by
  rw [and1_u32 m h, show (m : Int) / 2 = ((m / 2 : Nat) : Int) by omega]
  unfold turn
  split
  · rename_i h1
    rw [h1, ← xor_u32 _ _ (by omega) (by omega)]
    rfl
  · rw [show m % 2 = 0 by omega]
    show bits BinOp.xor IntKind.u32 _ (((0 : Nat) : Int)) = _
    rw [xor_u32 _ _ (by omega) (by omega), Nat.xor_zero]

set_option maxRecDepth 100000 in
set_option maxHeartbeats 1000000 in
theorem stir_any (n : Nat) (w : World) (h1 : n < 4294967296) :
    Calls Try.prog 75 #[.int .u32 n] w fun e w' => e = .returned (.int .u32 ((turns 8 n : Nat) : Int)) ∧ w = w' := by
  go_enter Try.func75, Try.ntmps75
  go_wp2_with fail
  go_loopw [3, 0] (fun i v wr => ∃ (k m : Nat), k ≤ 8 ∧ i = .int .i64 k ∧ v = .int .u32 m ∧ m < 4294967296 ∧ Hid (turns (8 - k) m = turns 8 n) ∧ wr = w) (fun i _ _ => 8 - (intOf i).toNat)
  case atStart => exact ⟨0, n, by omega, rfl, rfl, h1, rfl, rfl⟩
  case round =>
    obtain ⟨k, m, hk, rfl, rfl, hm1, hm, rfl⟩ := hrel
    by_cases hlt : k < 8
    · go_wp2_with fail
      case roundEnd =>
        refine ⟨⟨k + 1, turn m, by omega, by go_num, ?_, turn_lt hm1, ?_, trivial⟩, by simp [intOf]; omega⟩
        · rw [turn_prog m hm1]
        · have := hm.out
          show _ = _
          rw [← this, show 8 - k = (8 - (k + 1)) + 1 by omega]
          rfl
    · obtain rfl : k = 8 := by omega
      go_wp2_with fail
      go_ret
      have := hm.out
      exact ⟨by rw [← this]; rfl, rfl⟩

/-- The four bytes, the least first. -/
def shortL (n : Nat) : List UInt8 := [UInt8.ofNat (n % 256), UInt8.ofNat (n / 256 % 256), UInt8.ofNat (n / 65536 % 256), UInt8.ofNat (n / 16777216 % 256)]
def shortB (n : Nat) : ByteArray := ⟨(shortL n).toArray⟩
theorem u8_val (n : Nat) : ((UInt8.ofNat (n % 256)).toNat : Int) = (n : Int) % 256 := by
  rw [UInt8.toNat_ofNat']
  omega

theorem short_row (n : Nat) (h1 : n < 4294967296) : (#[.int .u8 ((n : Int) % 256), .int .u8 ((n : Int) / 256 % 256), .int .u8 ((n : Int) / 65536 % 256), .int .u8 ((n : Int) / 16777216)] : Array Value) = bcells (shortL n) := by
  have e4 : (n : Int) / 16777216 = (n : Int) / 16777216 % 256 := by omega
  have f : ∀ m : Nat, m < 256 → ((UInt8.ofNat m).toNat : Int) = (m : Int) := fun m h => by rw [UInt8.toNat_ofNat']; omega
  have hb : bcells (shortL n) = #[.int .u8 ((UInt8.ofNat (n % 256)).toNat : Int), .int .u8 ((UInt8.ofNat (n / 256 % 256)).toNat : Int), .int .u8 ((UInt8.ofNat (n / 65536 % 256)).toNat : Int), .int .u8 ((UInt8.ofNat (n / 16777216 % 256)).toNat : Int)] := rfl
  rw [hb, f _ (by omega), f _ (by omega), f _ (by omega), f _ (by omega), e4]
  rfl

set_option maxRecDepth 100000 in
set_option maxHeartbeats 1000000 in
theorem short_any (n : Nat) (w : World) (h1 : n < 4294967296) :
    Calls Try.prog 64 #[.int .u32 n] w fun e w' => e = .returned (.string (shortB n)) ∧ Below w.heap.size w w' := by
  have hcv : (convert 86 9 (.slice (some ⟨w.heap.size, 0, none⟩) 4 4)).run Try.prog (w.alloc (.cells #[.int .u8 ((n : Int) % 256), .int .u8 ((n : Int) / 256 % 256), .int .u8 ((n : Int) / 65536 % 256), .int .u8 ((n : Int) / 16777216)] 5)) = .ok (.string (shortB n)) (w.alloc (.cells #[.int .u8 ((n : Int) % 256), .int .u8 ((n : Int) / 256 % 256), .int .u8 ((n : Int) / 65536 % 256), .int .u8 ((n : Int) / 16777216)] 5)) := by
    refine run_string_of_row (P := Try.prog) _ 86 9 5 w.heap.size 4 4 (shortL n) 5 (0, 0) Try.underlying86 Try.underlying5 Try.underlying9 ?_ rfl
    rw [heap_alloc_new, short_row n h1]
  go_enter Try.func64, Try.ntmps64
  go_wp2_with fail
  go_ret
  exact ⟨rfl, below1 w _⟩
set_option maxRecDepth 100000 in
set_option maxHeartbeats 1000000 in
theorem short3_any (n : Nat) (w : World) (h1 : n < 4294967296) :
    Calls Try.prog 63 #[.int .u32 n] w fun e w' => e = .returned (.string (shortB n)) ∧ Below w.heap.size w w' := by
  have hcv : (convert 86 9 (.slice (some ⟨w.heap.size, 0, none⟩) 4 4)).run Try.prog (w.alloc (.cells #[.int .u8 ((n : Int) % 256), .int .u8 ((n : Int) / 256 % 256), .int .u8 ((n : Int) / 65536 % 256), .int .u8 ((n : Int) / 16777216)] 5)) = .ok (.string (shortB n)) (w.alloc (.cells #[.int .u8 ((n : Int) % 256), .int .u8 ((n : Int) / 256 % 256), .int .u8 ((n : Int) / 65536 % 256), .int .u8 ((n : Int) / 16777216)] 5)) := by
    refine run_string_of_row (P := Try.prog) _ 86 9 5 w.heap.size 4 4 (shortL n) 5 (0, 0) Try.underlying86 Try.underlying5 Try.underlying9 ?_ rfl
    rw [heap_alloc_new, short_row n h1]
  go_enter Try.func63, Try.ntmps63
  go_wp2_with fail
  go_ret
  exact ⟨rfl, below1 w _⟩
end Go.Proofs.Ytkecjopojnllnaa
namespace Go.Proofs.Ytkecjopojnllnaa
open Go.RowKit Go.Deep Go.Joins

def strs (P : List ByteArray) : List Value := P.map Value.string
theorem strs_length (P : List ByteArray) : (strs P).length = P.length := by simp [strs]
theorem Reads.str {w : World} {v : Value} {P : List ByteArray} (h : Reads w v 1 P.length (strs P)) (k : Nat) (hk : k < P.length) :
    ∃ b off cap, v = .slice (some ⟨b, off, none⟩) P.length cap ∧ P.length ≤ cap ∧ cap ≤ maxLen ∧ b < w.heap.size ∧ w.cell? ⟨b, off + k, none⟩ = some (.string P[k]) := by
  obtain ⟨b, off, cap, hv, h1, h2, hb, hc⟩ := h.at (by omega)
  exact ⟨b, off, cap, hv, h1, h2, hb, hc k _ (by unfold strs; rw [List.getElem?_map, List.getElem?_eq_getElem hk]; rfl)⟩
/-- A row's bytes, stirred in. -/
def sumF (n : Nat) (L : List UInt8) : Nat := L.foldl (fun n c => turns 8 (n ^^^ c.toNat)) n
def sumP (n : Nat) (P : List ByteArray) : Nat := P.foldl (fun n s => sumF n s.data.toList) n
def sumOf (P : List ByteArray) : Nat := 4294967295 ^^^ sumP 4294967295 P
theorem sumF_lt (L : List UInt8) {n : Nat} (h : n < 4294967296) : sumF n L < 4294967296 := by
  induction L generalizing n with
  | nil => exact h
  | cons c L ih =>
    have := c.toNat_lt
    exact ih (turns_lt (xor_lt h (by omega)))
theorem sumP_lt (P : List ByteArray) {n : Nat} (h : n < 4294967296) : sumP n P < 4294967296 := by
  induction P generalizing n with
  | nil => exact h
  | cons c P ih => exact ih (sumF_lt _ h)
theorem drop_at (s : ByteArray) (k : Nat) (h : k < s.size) : s.data.toList.drop k = s[k] :: s.data.toList.drop (k + 1) := by
  rw [List.drop_eq_getElem_cons (by rw [len_eq]; exact h)]; rfl

theorem ret_u32 {a b : Int} (h : a = b) : Ending.returned (.int .u32 a) = .returned (.int .u32 b) := by rw [h]

set_option maxRecDepth 100000 in
set_option maxHeartbeats 1000000 in
theorem sum_any (P : List ByteArray) (v : Value) (w : World) (hr : Reads w v 1 P.length (strs P)) (hm : P.length ≤ 1099511627776) (hs : ∀ s ∈ P, s.size ≤ 1099511627776) :
    Calls Try.prog 65 #[v] w fun e w' => e = .returned (.int .u32 ((sumOf P : Nat) : Int)) ∧ w = w' := by
  obtain ⟨q, cap, rfl⟩ := hr.is
  have HS := Lib.hid hs
  clear hs
  go_enter Try.func65, Try.ntmps65
  go_wp2_with fail
  go_loopw [9, 3] (fun i v wr => ∃ (k m : Nat), k ≤ P.length ∧ i = .int .i64 k ∧ v = .int .u32 m ∧ m < 4294967296 ∧ Hid (sumP m (P.drop k) = sumP 4294967295 P) ∧ wr = w) (fun i _ _ => P.length - (intOf i).toNat)
  case atStart => exact ⟨0, 4294967295, by omega, rfl, rfl, by omega, rfl, rfl⟩
  case round =>
    obtain ⟨k, m, hk, rfl, rfl, hm1, hmm, rfl⟩ := hrel
    obtain ⟨wo, hwo⟩ : ∃ wo, wo = wr := ⟨_, rfl⟩
    subst hwo
    by_cases hlt : k < P.length
    · obtain ⟨b, off, cap1, hv, _, _, hb, c0⟩ := hr.str k hlt
      obtain ⟨rfl, rfl⟩ : q = some ⟨b, off, none⟩ ∧ cap = cap1 := by simpa using hv
      have hstep : sumP m (P.drop k) = sumP (sumF m P[k].data.toList) (P.drop (k + 1)) := by
        rw [List.drop_eq_getElem_cons hlt]; rfl
      have HST := Lib.hid hstep
      have hsz := HS.out P[k] (List.getElem_mem _)
      clear hv hstep
      obtain ⟨s, hs⟩ : ∃ s, P[k] = s := ⟨_, rfl⟩
      rw [hs] at HST c0 hsz
      clear hs
      go_wp2_with fail
      go_loopw [15, 3] (fun i v wr => ∃ (j n : Nat), j ≤ s.size ∧ i = .int .i64 j ∧ v = .int .u32 n ∧ n < 4294967296 ∧ Hid (sumF n (s.data.toList.drop j) = sumF m s.data.toList) ∧ wr = wo) (fun i _ _ => s.size - (intOf i).toNat)
      case atStart => exact ⟨0, m, by omega, rfl, rfl, hm1, rfl, rfl⟩
      case round =>
        obtain ⟨j, n, hj, rfl, rfl, hn1, hnn, rfl⟩ := hrel
        by_cases hjl : j < s.size
        · have hc := s[j].toNat_lt
          have hx : bits BinOp.xor IntKind.u32 (n : Int) (s[j].toNat : Int) = ((n ^^^ s[j].toNat : Nat) : Int) := xor_u32 _ _ hn1 (by omega)
          have hxl : n ^^^ s[j].toNat < 4294967296 := xor_lt hn1 (by omega)
          have hcall := stir_any (n ^^^ s[j].toNat) wr hxl
          rw [← hx] at hcall
          have HC := Lib.hid hcall
          clear hcall hx
          go_wp2_with (go_at_call 75; refine HC.out.mono ?_; rintro e w1 ⟨rfl, rfl⟩)
          case roundEnd =>
            refine ⟨⟨j + 1, turns 8 (n ^^^ s[j].toNat), by omega, by go_num, rfl, turns_lt hxl, ?_, trivial⟩, by simp [intOf]; omega⟩
            show _ = _
            rw [← hnn.out, drop_at s j hjl]
            rfl
        · obtain rfl : j = s.size := by omega
          go_wp2_with fail
          case roundEnd =>
            have hn2 := hnn.out
            rw [List.drop_of_length_le (by rw [len_eq]; exact Nat.le_refl _)] at hn2
            refine ⟨⟨k + 1, n, by omega, by go_num, rfl, hn1, ?_, trivial⟩, by simp [intOf]; omega⟩
            show _ = _
            rw [← hmm.out, HST.out, ← hn2]
            rfl
    · have hm2 := hmm.out
      rw [List.drop_of_length_le (by omega)] at hm2
      have HM := Lib.hid hm2
      clear hm2
      go_wp2_with fail
      go_ret
      refine ⟨ret_u32 ?_, rfl⟩
      have e : (IntKind.u32.max : Int) = ((4294967295 : Nat) : Int) := by decide
      rw [e, xor_u32 _ _ (by omega) hm1]
      unfold sumOf
      rw [← HM.out]
      rfl

set_option maxRecDepth 100000 in
set_option maxHeartbeats 1000000 in
theorem sum3_any (P : List ByteArray) (v : Value) (w : World) (hr : Reads w v 1 P.length (strs P)) (hm : P.length ≤ 1099511627776) (hs : ∀ s ∈ P, s.size ≤ 1099511627776) :
    Calls Try.prog 62 #[v] w fun e w' => e = .returned (.int .u32 ((sumOf P : Nat) : Int)) ∧ w = w' := by
  obtain ⟨q, cap, rfl⟩ := hr.is
  have HS := Lib.hid hs
  clear hs
  go_enter Try.func62, Try.ntmps62
  go_wp2_with fail
  go_loopw [4, 3] (fun i v wr => ∃ (k m : Nat), k ≤ P.length ∧ i = .int .i64 k ∧ v = .int .u32 m ∧ m < 4294967296 ∧ Hid (sumP m (P.drop k) = sumP 4294967295 P) ∧ wr = w) (fun i _ _ => P.length - (intOf i).toNat)
  case atStart => exact ⟨0, 4294967295, by omega, rfl, rfl, by omega, rfl, rfl⟩
  case round =>
    obtain ⟨k, m, hk, rfl, rfl, hm1, hmm, rfl⟩ := hrel
    obtain ⟨wo, hwo⟩ : ∃ wo, wo = wr := ⟨_, rfl⟩
    subst hwo
    by_cases hlt : k < P.length
    · obtain ⟨b, off, cap1, hv, _, _, hb, c0⟩ := hr.str k hlt
      obtain ⟨rfl, rfl⟩ : q = some ⟨b, off, none⟩ ∧ cap = cap1 := by simpa using hv
      have hstep : sumP m (P.drop k) = sumP (sumF m P[k].data.toList) (P.drop (k + 1)) := by
        rw [List.drop_eq_getElem_cons hlt]; rfl
      have HST := Lib.hid hstep
      have hsz := HS.out P[k] (List.getElem_mem _)
      clear hv hstep
      obtain ⟨s, hs⟩ : ∃ s, P[k] = s := ⟨_, rfl⟩
      rw [hs] at HST c0 hsz
      clear hs
      go_wp2_with fail
      go_loopw [5, 3] (fun i v wr => ∃ (j n : Nat), j ≤ s.size ∧ i = .int .i64 j ∧ v = .int .u32 n ∧ n < 4294967296 ∧ Hid (sumF n (s.data.toList.drop j) = sumF m s.data.toList) ∧ wr = wo) (fun i _ _ => s.size - (intOf i).toNat)
      case atStart => exact ⟨0, m, by omega, rfl, rfl, hm1, rfl, rfl⟩
      case round =>
        obtain ⟨j, n, hj, rfl, rfl, hn1, hnn, rfl⟩ := hrel
        by_cases hjl : j < s.size
        · have hc := s[j].toNat_lt
          obtain ⟨wi, hwi⟩ : ∃ wi, wi = wr := ⟨_, rfl⟩
          subst hwi
          go_wp2_with fail
          go_loopw [6, 3] (fun i v wr => ∃ (t x : Nat), t ≤ 8 ∧ i = .int .i64 t ∧ v = .int .u32 x ∧ x < 4294967296 ∧ Hid (turns (8 - t) x = turns 8 (n ^^^ s[j].toNat)) ∧ wr = wi) (fun i _ _ => 8 - (intOf i).toNat)
          case atStart => exact ⟨0, n ^^^ s[j].toNat, by omega, rfl, by rw [xor_u32 _ _ hn1 (by omega)], xor_lt hn1 (by omega), rfl, rfl⟩
          case round =>
            obtain ⟨t, x, ht, rfl, rfl, hx1, hxx, rfl⟩ := hrel
            by_cases htl : t < 8
            · have hnext : turns (8 - (t + 1)) (turn x) = turns 8 (n ^^^ s[j].toNat) := by
                rw [← hxx.out, show 8 - t = (8 - (t + 1)) + 1 by omega]
                rfl
              have HN := Lib.hid hnext
              clear hnext
              by_cases hodd : x % 2 = 1
              · have ha : bits BinOp.and IntKind.u32 (x : Int) 1 = 1 := by rw [and1_u32 x hx1, hodd]; rfl
                have hb : bits BinOp.xor IntKind.u32 ((x : Int) / 2) 3988292384 = ((turn x : Nat) : Int) := by
                  unfold turn
                  rw [if_pos hodd, ← xor_u32 _ _ (by omega) (by omega)]
                  rfl
                clear hodd
                go_wp2_with fail
                case roundEnd => exact ⟨⟨t + 1, turn x, by omega, by go_num, rfl, turn_lt hx1, HN.out, trivial⟩, by simp [intOf]; omega⟩
              · have ha : bits BinOp.and IntKind.u32 (x : Int) 1 = 0 := by rw [and1_u32 x hx1, show x % 2 = 0 by omega]; rfl
                have hb : (x : Int) / 2 = ((turn x : Nat) : Int) := by
                  unfold turn
                  rw [if_neg hodd]
                  omega
                have HB := Lib.hid hb
                clear hodd hb
                go_wp2_with fail
                case roundEnd => exact ⟨⟨t + 1, turn x, by omega, by go_num, by rw [HB.out], turn_lt hx1, HN.out, trivial⟩, by simp [intOf]; omega⟩
            · obtain rfl : t = 8 := by omega
              have hx2 := hxx.out
              have HX := Lib.hid hx2
              clear hx2
              go_wp2_with fail
              case roundEnd =>
                refine ⟨⟨j + 1, x, by omega, by go_num, rfl, hx1, ?_, trivial⟩, by simp [intOf]; omega⟩
                show _ = _
                have h3 : x = turns 8 (n ^^^ s[j].toNat) := HX.out
                rw [← hnn.out, drop_at s j hjl, h3]
                rfl
        · obtain rfl : j = s.size := by omega
          go_wp2_with fail
          case roundEnd =>
            have hn2 := hnn.out
            rw [List.drop_of_length_le (by rw [len_eq]; exact Nat.le_refl _)] at hn2
            refine ⟨⟨k + 1, n, by omega, by go_num, rfl, hn1, ?_, trivial⟩, by simp [intOf]; omega⟩
            show _ = _
            rw [← hmm.out, HST.out, ← hn2]
            rfl
    · have hm2 := hmm.out
      rw [List.drop_of_length_le (by omega)] at hm2
      have HM := Lib.hid hm2
      clear hm2
      go_wp2_with fail
      go_ret
      refine ⟨ret_u32 ?_, rfl⟩
      have e : (IntKind.u32.max : Int) = ((4294967295 : Nat) : Int) := by decide
      rw [e, xor_u32 _ _ (by omega) hm1]
      unfold sumOf
      rw [← HM.out]
      rfl
end Go.Proofs.Ytkecjopojnllnaa
namespace Go.Proofs.Ytkecjopojnllnaa
open Go.RowKit Go.Deep Go.Joins

def frameB (s : ByteArray) : ByteArray := shortB s.size ++ shortB (sumOf [shortB s.size, s]) ++ s ++ ⟨#[255]⟩
def frameV (s : ByteArray) : Value := if s.size ≤ 131072 then .tuple #[.string (frameB s), .int .i64 0] else .tuple #[.string ⟨#[]⟩, .int .i64 2]
theorem shortB_size (n : Nat) : (shortB n).size = 4 := rfl
theorem sumOf_lt (P : List ByteArray) : sumOf P < 4294967296 := xor_lt (by omega) (sumP_lt P (by omega))
theorem frameB_size (s : ByteArray) : (frameB s).size = s.size + 9 := by
  unfold frameB
  rw [ByteArray.size_append, ByteArray.size_append, ByteArray.size_append, shortB_size, shortB_size]
  show 4 + 4 + s.size + 1 = _
  omega
theorem two_reads (W : World) (a b : ByteArray) : Reads (W.alloc (.cells #[.string a, .string b] 9)) (.slice (some ⟨W.heap.size, 0, none⟩) 2 2) 1 [a, b].length (strs [a, b]) := by
  refine ⟨rfl, .inr ⟨_, 2, rfl, Nat.le_refl _, by decide, fun j u hu => ?_⟩⟩
  rw [add_lit, Nat.zero_add, cell_of_row _ _ _ _ 9 _ (heap_alloc_new W _)]
  simpa [strs] using hu
theorem two_small {a b : ByteArray} (ha : a.size ≤ 1099511627776) (hb : b.size ≤ 1099511627776) : ∀ s ∈ [a, b], s.size ≤ 1099511627776 := by
  intro s hs
  simp only [List.mem_cons, List.not_mem_nil, or_false] at hs
  rcases hs with rfl | rfl
  · exact ha
  · exact hb
theorem sum_two (W : World) (a b : ByteArray) (ha : a.size ≤ 1099511627776) (hb : b.size ≤ 1099511627776) : Calls Try.prog 65 #[.slice (some ⟨W.heap.size, 0, none⟩) 2 2] (W.alloc (.cells #[.string a, .string b] 9)) fun e w' => e = .returned (.int .u32 ((sumOf [a, b] : Nat) : Int)) ∧ Below W.heap.size W w' :=
  (sum_any [a, b] _ _ (two_reads W a b) (by simp) (two_small ha hb)).mono fun _ _ h => ⟨h.1, h.2 ▸ below1 W _⟩
theorem sum3_two (W : World) (a b : ByteArray) (ha : a.size ≤ 1099511627776) (hb : b.size ≤ 1099511627776) : Calls Try.prog 62 #[.slice (some ⟨W.heap.size, 0, none⟩) 2 2] (W.alloc (.cells #[.string a, .string b] 9)) fun e w' => e = .returned (.int .u32 ((sumOf [a, b] : Nat) : Int)) ∧ Below W.heap.size W w' :=
  (sum3_any [a, b] _ _ (two_reads W a b) (by simp) (two_small ha hb)).mono fun _ _ h => ⟨h.1, h.2 ▸ below1 W _⟩

set_option maxRecDepth 100000 in
set_option maxHeartbeats 1000000 in
theorem frame3_any (s : ByteArray) (w : World) (hs : s.size ≤ 1099511627776) :
    Calls Try.prog 45 #[.string s] w fun e w' => e = .returned (frameV s) ∧ Below w.heap.size w w' := by
  by_cases h : s.size ≤ 131072
  · have h' : ¬ (131072 : Int) < (s.size : Int) := by omega
    have h4 : s.size < 4294967296 := by omega
    have hc := short3_any s.size
    have HC := Lib.hid hc
    have hd := short3_any (sumOf [shortB s.size, s])
    have HD := Lib.hid hd
    have hsl := sumOf_lt [shortB s.size, s]
    obtain ⟨m, hm⟩ : ∃ m, sumOf [shortB s.size, s] = m := ⟨_, rfl⟩
    have he := fun W => sum3_two W (shortB s.size) s (by rw [shortB_size]; omega) hs
    rw [hm] at hsl HD he
    have HE := Lib.hid he
    have hz1 := shortB_size s.size
    have hz2 := shortB_size m
    have hz3 : (shortB s.size ++ shortB m).size = 8 := by rw [ByteArray.size_append, hz1, hz2]
    have hz4 : (shortB s.size ++ shortB m ++ s).size = 8 + s.size := by rw [ByteArray.size_append, hz3]
    have hq1 : ¬ 9223372036854775807 < 8 + s.size := by omega
    have hq2 : ¬ 9223372036854775807 < 8 + s.size + 1 := by omega
    clear hc hd he
    go_enter Try.func45, Try.ntmps45
    go_wp2_with first
      | (go_at_call 62; with_reducible refine (HE.out _).mono ?_; rintro e w2 ⟨rfl, hb2⟩)
      | (go_at_call 63; with_reducible refine (HC.out _ h4).mono ?_; rintro e w1 ⟨rfl, hb1⟩)
      | (go_at_call 63; with_reducible refine (HD.out _ hsl).mono ?_; rintro e w3 ⟨rfl, hb3⟩)
      | fail
    go_ret2
    exact ⟨by unfold frameV frameB; rw [if_pos h, hm]; rfl, below_then hb1 (below_then hb2 hb3)⟩
  · have h' : (131072 : Int) < (s.size : Int) := by omega
    go_enter Try.func45, Try.ntmps45
    go_wp2_with fail
    go_ret2
    exact ⟨by unfold frameV; rw [if_neg h]; rfl, Below.refl _ _⟩
end Go.Proofs.Ytkecjopojnllnaa
namespace Go.Proofs.Ytkecjopojnllnaa
open Go.RowKit Go.Deep Go.Joins

theorem st_row (W : World) (g o n : Nat) (t : ByteArray) (cur : Array Value) (hn : t.size = n) (hg : W.heap[g]? = some (.cells cur 5 (0, 0))) (hfit : o + n ≤ cur.size) :
    (storeCells ⟨g, o, none⟩ (List.take n (t.data.toList.map fun b => Value.int .u8 b.toNat))).run Try.prog W = .ok () (W.setRow g (cur.toList.take o ++ Lib.strCells t ++ cur.toList.drop (o + n)).toArray) := by
  have h := run_storeCells_at Try.prog g o 5 (Lib.strCells t) 0 cur W hg (by rw [Lib.strCells_length]; omega) (Lib.strCells_oneCell t)
  rw [Lib.strCells_length, hn, Nat.add_zero] at h
  rw [List.take_of_length_le (by rw [List.length_map, len_eq]; omega)]
  exact h
theorem frame_arm (s : ByteArray) (m : Nat) (w w1 w2 w3 : World) (cur1 cur2 cur3 : Array Value) (hz2 : (shortB m).size = 4) (hb1 : Below w.heap.size w w1) (hb2 : Below (w1.alloc (.cells cur1 5)).heap.size (w1.alloc (.cells cur1 5)) w2) (hb3 : Below w2.heap.size w2 w3)
    (hg3 : w3.heap[w1.heap.size]? = some (.cells cur1 5 (0, 0))) (hs1 : cur1.size = 9 + s.size) (hs2 : cur2.size = 9 + s.size) (hs3 : cur3.size = 9 + s.size)
    (hcur2 : (cur1.toList.take 4 ++ Lib.strCells (shortB m) ++ cur1.toList.drop (4 + 4)).toArray = cur2) (hcur3 : (cur2.toList.take 8 ++ Lib.strCells s ++ cur2.toList.drop (8 + s.size)).toArray = cur3)
    (hlast : cur3.setIfInBounds (8 + s.size) (.int .u8 255) = bcells (frameB s).data.toList) :
    (storeCells ⟨w1.heap.size, 4, none⟩ (List.take 4 ((shortB m).data.toList.map fun b => Value.int .u8 b.toNat))).run Try.prog w3 = .ok () (w3.setRow w1.heap.size cur2) ∧
    (storeCells ⟨w1.heap.size, 8, none⟩ (List.take s.size (s.data.toList.map fun b => Value.int .u8 b.toNat))).run Try.prog (w3.setRow w1.heap.size cur2) = .ok () ((w3.setRow w1.heap.size cur2).setRow w1.heap.size cur3) ∧
    (((w3.setRow w1.heap.size cur2).setRow w1.heap.size cur3).alloc (.cells #[.int .u8 255] 5)).frozen? ⟨w1.heap.size, 8 + s.size, none⟩ = false ∧
    (((w3.setRow w1.heap.size cur2).setRow w1.heap.size cur3).alloc (.cells #[.int .u8 255] 5)).cell? ⟨w1.heap.size, 8 + s.size, none⟩ = some cur3[8 + s.size] ∧
    (convert 86 9 (.slice (some ⟨w1.heap.size, 0, none⟩) (8 + s.size + 1) (9 + s.size))).run Try.prog ((((w3.setRow w1.heap.size cur2).setRow w1.heap.size cur3).alloc (.cells #[.int .u8 255] 5)).setCell ⟨w1.heap.size, 8 + s.size, none⟩ (.int .u8 255)) = .ok (.string (frameB s)) ((((w3.setRow w1.heap.size cur2).setRow w1.heap.size cur3).alloc (.cells #[.int .u8 255] 5)).setCell ⟨w1.heap.size, 8 + s.size, none⟩ (.int .u8 255)) ∧
    Below w.heap.size w ((((w3.setRow w1.heap.size cur2).setRow w1.heap.size cur3).alloc (.cells #[.int .u8 255] 5)).setCell ⟨w1.heap.size, 8 + s.size, none⟩ (.int .u8 255)) := by
  have st3 := st_row w3 w1.heap.size 4 4 (shortB m) cur1 hz2 hg3 (by omega)
  rw [hcur2] at st3
  have hg4 := setRow_heap w3 _ _ cur2 _ _ hg3
  have st4 := st_row (w3.setRow w1.heap.size cur2) w1.heap.size 8 s.size s cur2 rfl hg4 (by omega)
  rw [hcur3] at st4
  have hg5 := setRow_heap (w3.setRow w1.heap.size cur2) w1.heap.size cur2 cur3 5 (0, 0) hg4
  have hw8 : w1.heap.size < w3.heap.size := (Array.getElem?_eq_some_iff.1 hg3).1
  have hg6 : (((w3.setRow w1.heap.size cur2).setRow w1.heap.size cur3).alloc (.cells #[.int .u8 255] 5)).heap[w1.heap.size]? = some (.cells cur3 5 (0, 0)) := by
    rw [Below.heap_alloc _ _ _ (by simpa using hw8)]; exact hg5
  have hg7 := heap_setCell_same _ w1.heap.size (8 + s.size) cur3 5 (.int .u8 255) hg6
  rw [hlast] at hg7
  refine ⟨st3, st4, frozen_of_row _ w1.heap.size (8 + s.size) cur3 5 hg6, ?_, ?_, ?_⟩
  · rw [cell_of_row _ _ _ _ 5 _ hg6, Array.getElem?_eq_getElem (by omega)]
  · exact run_string_of_row (P := Try.prog) _ 86 9 5 w1.heap.size (8 + s.size + 1) (9 + s.size) (frameB s).data.toList 5 (0, 0) Try.underlying86 Try.underlying5 Try.underlying9 hg7 (by rw [len_eq, frameB_size]; omega)
  · have hx1 : Below w.heap.size w (w1.alloc (.cells cur1 5)) := hb1.alloc hb1.size _
    have hx := below_then hx1 (below_then hb2 hb3)
    have hx4 := below_setRow (below_setRow hx hb1.size cur2) hb1.size cur3
    have hx5 := hx4.alloc (by simp only [size_setRow]; exact Nat.le_trans hb1.size (Nat.le_of_lt hw8)) (.cells #[.int .u8 255] 5)
    exact hx5.setCell hb1.size _
set_option maxRecDepth 100000 in
set_option maxHeartbeats 1000000 in
theorem frame_any (s : ByteArray) (w : World) (hs : s.size ≤ 1099511627776) :
    Calls Try.prog 46 #[.string s] w fun e w' => e = .returned (frameV s) ∧ Below w.heap.size w w' := by
  by_cases h : s.size ≤ 131072
  · have h' : ¬ (131072 : Int) < (s.size : Int) := by omega
    have h4 : s.size < 4294967296 := by omega
    have hc := short_any s.size
    have HC := Lib.hid hc
    have hd := short_any (sumOf [shortB s.size, s])
    have HD := Lib.hid hd
    have hsl := sumOf_lt [shortB s.size, s]
    obtain ⟨m, hm⟩ : ∃ m, sumOf [shortB s.size, s] = m := ⟨_, rfl⟩
    have he := fun W => sum_two W (shortB s.size) s (by rw [shortB_size]; omega) hs
    rw [hm] at hsl HD he
    have HE := Lib.hid he
    have hz1 := shortB_size s.size
    have hz2 := shortB_size m
    clear hc hd he
    obtain ⟨i0, hi, hiz0, hiz1, hiz2⟩ := info_parts (show (Try.prog.info? 5).map (fun i => (i.zero, i.size, i.bytes)) = some (some (.int .u8 0), 1, 1) by kernel_rfl)
    obtain ⟨cur0, hcur0⟩ : ∃ cur0, madeCells (Value.int .u8 0).cells ((9 + (s.size : Int)).toNat * 1) = cur0 := ⟨_, rfl⟩
    have hmk : ∀ W, (Instr.makeSlice 86 (.int .i64 0) (.int .i64 (9 + (s.size : Int)))).run Try.prog W = .ok (.slice (some ⟨W.heap.size, 0, none⟩) 0 (9 + s.size)) (W.alloc (.cells cur0 5)) := by
      intro W
      have h := run_make (P := Try.prog) W 86 5 i0 (.int .u8 0) Try.underlying86 hi hiz0 .i64 .i64 0 (9 + (s.size : Int)) (by omega) (by omega) (by rw [hiz2]; omega) (by omega)
      rw [hiz1, hcur0] at h
      rw [h, show (9 + (s.size : Int)).toNat = 9 + s.size by omega]
      rfl
    obtain ⟨cur1, hcur1⟩ : ∃ cur1, (cur0.toList.take 0 ++ Lib.strCells (shortB s.size) ++ cur0.toList.drop (0 + 4)).toArray = cur1 := ⟨_, rfl⟩
    have hs0 : cur0.size = 9 + s.size := by rw [← hcur0, size_madeCells]; omega
    have hst1 : ∀ W : World, (storeCells ⟨W.heap.size, 0, none⟩ (List.take 4 ((shortB s.size).data.toList.map fun b => Value.int .u8 b.toNat))).run Try.prog (W.alloc (.cells cur0 5)) = .ok () (W.alloc (.cells cur1 5)) := by
      intro W
      rw [st_row (W.alloc (.cells cur0 5)) W.heap.size 0 4 (shortB s.size) cur0 hz1 (heap_alloc_new W _) (by omega), hcur1, World.setRow_alloc_new]
    have he2 : ∀ W : World, Calls Try.prog 65 #[.slice (some ⟨W.heap.size + 1, 0, none⟩) 2 2] ((W.alloc (.cells cur1 5)).alloc (.cells #[.string (shortB s.size), .string s] 9)) fun e w' => e = .returned (.int .u32 (m : Int)) ∧ Below (W.alloc (.cells cur1 5)).heap.size (W.alloc (.cells cur1 5)) w' := by
      intro W
      have h := HE.out (W.alloc (.cells cur1 5))
      rw [show (W.alloc (.cells cur1 5)).heap.size = W.heap.size + 1 by simp] at h ⊢
      exact h
    have hs1 : cur1.size = 9 + s.size := by
      rw [← hcur1, List.size_toArray, List.length_append, List.length_append, List.length_take, List.length_drop, Lib.strCells_length, Array.length_toList, hs0, hz1]
      omega
    have hrow : ∀ W w2 w3 : World, Below (W.alloc (.cells cur1 5)).heap.size (W.alloc (.cells cur1 5)) w2 → Below w2.heap.size w2 w3 → w3.heap[W.heap.size]? = some (.cells cur1 5 (0, 0)) := by
      intro W w2 w3 h2 h3
      have h4 := below_then h2 h3
      rw [h4.block _ (by simp), heap_alloc_new]
    obtain ⟨cur2, hcur2⟩ : ∃ cur2, (cur1.toList.take 4 ++ Lib.strCells (shortB m) ++ cur1.toList.drop (4 + 4)).toArray = cur2 := ⟨_, rfl⟩
    have hs2 : cur2.size = 9 + s.size := by
      rw [← hcur2, List.size_toArray, List.length_append, List.length_append, List.length_take, List.length_drop, Lib.strCells_length, Array.length_toList, hs1, hz2]
      omega
    obtain ⟨cur3, hcur3⟩ : ∃ cur3, (cur2.toList.take 8 ++ Lib.strCells s ++ cur2.toList.drop (8 + s.size)).toArray = cur3 := ⟨_, rfl⟩
    have hs3 : cur3.size = 9 + s.size := by
      rw [← hcur3, List.size_toArray, List.length_append, List.length_append, List.length_take, List.length_drop, Lib.strCells_length, Array.length_toList, hs2]
      omega
    have hlast : cur3.setIfInBounds (8 + s.size) (.int .u8 255) = bcells (frameB s).data.toList := by
      apply Array.ext'
      have z1 := Lib.strCells_length (shortB s.size)
      have z2 := Lib.strCells_length (shortB m)
      have z3 := Lib.strCells_length s
      rw [hz1] at z1
      rw [hz2] at z2
      have l1 : cur1.toList = Lib.strCells (shortB s.size) ++ cur0.toList.drop (0 + 4) := by rw [← hcur1]; simp
      have l2 : cur2.toList = Lib.strCells (shortB s.size) ++ Lib.strCells (shortB m) ++ cur1.toList.drop (4 + 4) := by
        rw [← hcur2, l1]
        simp [z1]
      have l3 : cur3.toList = Lib.strCells (shortB s.size) ++ Lib.strCells (shortB m) ++ Lib.strCells s ++ cur2.toList.drop (8 + s.size) := by
        rw [← hcur3, l2]
        simp only [List.take_append, z1, z2, List.length_append]
        rw [List.take_of_length_le (by rw [z1]; omega), List.take_of_length_le (by rw [z2]; omega)]
        simp
      have hd : (cur2.toList.drop (8 + s.size)).length = 1 := by rw [List.length_drop, Array.length_toList, hs2]; omega
      obtain ⟨x, hx⟩ := List.length_eq_one_iff.1 hd
      rw [hx] at l3
      rw [Array.toList_setIfInBounds, l3, List.set_append_right _ _ (by simp [z1, z2, z3]; omega)]
      have e0 : 8 + s.size - (Lib.strCells (shortB s.size) ++ Lib.strCells (shortB m) ++ Lib.strCells s).length = 0 := by simp [z1, z2, z3]; omega
      rw [e0]
      have hf : (frameB s).data.toList = (shortB s.size).data.toList ++ (shortB m).data.toList ++ s.data.toList ++ [255] := by unfold frameB; rw [hm]; simp
      rw [hf]
      unfold bcells Lib.strCells
      simp
    have HLAST := Lib.hid hlast
    clear hlast
    have HE2 := Lib.hid he2
    have HROW := Lib.hid hrow
    have HCU2 := Lib.hid hcur2
    have HCU3 := Lib.hid hcur3
    have HCU := Lib.hid hcur1
    clear he2 hrow hcur2 hcur3
    have HCU0 := Lib.hid hcur0
    clear hcur1 hcur0
    go_enter Try.func46, Try.ntmps46
    go_wp2_with first
      | (go_at_call 65; with_reducible refine (HE2.out _).mono ?_; rintro e w2 ⟨rfl, hb2⟩)
      | (go_at_call 64; with_reducible refine (HC.out _ h4).mono ?_; rintro e w1 ⟨rfl, hb1⟩)
      | (go_at_call 64; with_reducible refine (HD.out _ hsl).mono ?_; rintro e w3 ⟨rfl, hb3⟩; have hg3 := HROW.out w1 w2 w3 hb2 hb3
         obtain ⟨st3, st4, hz6, hc6, hcv, hb9⟩ := frame_arm s m w w1 w2 w3 cur1 cur2 cur3 hz2 hb1 hb2 hb3 hg3 hs1 hs2 hs3 HCU2.out HCU3.out HLAST.out
         have HB9 := Lib.hid hb9
         clear hb9 hg3)
      | fail
    go_ret2
    exact ⟨by unfold frameV; rw [if_pos h]; rfl, HB9.out⟩
  · have h' : (131072 : Int) < (s.size : Int) := by omega
    go_enter Try.func46, Try.ntmps46
    go_wp2_with fail
    go_ret2
    exact ⟨by unfold frameV; rw [if_neg h]; rfl, Below.refl _ _⟩
end Go.Proofs.Ytkecjopojnllnaa
