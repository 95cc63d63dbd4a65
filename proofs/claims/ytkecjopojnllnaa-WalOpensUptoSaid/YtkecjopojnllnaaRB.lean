/- The sum of strings, both sides. -/
import Derived.Test.YtkecjopojnllnaaRA
namespace Go.Proofs.Ytkecjopojnllnaa
open Go.RowKit Go.Deep Go.Joins

def strs (P : List ByteArray) : List Value := P.map Value.string
theorem strs_length (P : List ByteArray) : (strs P).length = P.length := by simp [strs]
theorem Reads.str {w : World} {v : Value} {P : List ByteArray} (h : Reads w v 1 P.length (strs P)) (k : Nat) (hk : k < P.length) :
    ∃ b off cap, v = .slice (some ⟨b, off, none⟩) P.length cap ∧ P.length ≤ cap ∧ cap ≤ maxLen ∧ b < w.heap.size ∧ w.cell? ⟨b, off + k, none⟩ = some (.string P[k]) := by
  obtain ⟨b, off, cap, hv, h1, h2, hb, hc⟩ := h.at (by omega)
  exact ⟨b, off, cap, hv, h1, h2, hb, hc k _ (by unfold strs; rw [List.getElem?_map, List.getElem?_eq_getElem hk]; rfl)⟩
/-- A row's bytes, stirred in. -/
def sumF (n : Nat) (L : List UInt8) : Nat := L.foldl (fun n c => turns 8 (n ^^^ c.toNat)) n
def sumP (n : Nat) (P : List ByteArray) : Nat := P.foldl (fun n s => sumF n s.data.toList) n
def sumOf (P : List ByteArray) : Nat := 4294967295 ^^^ sumP 4294967295 P
theorem sumF_lt (L : List UInt8) {n : Nat} (h : n < 4294967296) : sumF n L < 4294967296 := by
  induction L generalizing n with
  | nil => exact h
  | cons c L ih =>
    have := c.toNat_lt
    exact ih (turns_lt (xor_lt h (by omega)))
theorem sumP_lt (P : List ByteArray) {n : Nat} (h : n < 4294967296) : sumP n P < 4294967296 := by
  induction P generalizing n with
  | nil => exact h
  | cons c P ih => exact ih (sumF_lt _ h)
theorem drop_at (s : ByteArray) (k : Nat) (h : k < s.size) : s.data.toList.drop k = s[k] :: s.data.toList.drop (k + 1) := by
  rw [List.drop_eq_getElem_cons (by rw [len_eq]; exact h)]; rfl

theorem ret_u32 {a b : Int} (h : a = b) : Ending.returned (.int .u32 a) = .returned (.int .u32 b) := by rw [h]

set_option maxRecDepth 100000 in
set_option maxHeartbeats 1000000 in
theorem sum_any (P : List ByteArray) (v : Value) (w : World) (hr : Reads w v 1 P.length (strs P)) (hm : P.length ≤ 1099511627776) (hs : ∀ s ∈ P, s.size ≤ 1099511627776) :
    Calls Try.prog 65 #[v] w fun e w' => e = .returned (.int .u32 ((sumOf P : Nat) : Int)) ∧ w = w' := by
  obtain ⟨q, cap, rfl⟩ := hr.is
  have HS := Lib.hid hs
  clear hs
  go_enter Try.func65, Try.ntmps65
  go_wp2_with fail
  go_loopw [9, 3] (fun i v wr => ∃ (k m : Nat), k ≤ P.length ∧ i = .int .i64 k ∧ v = .int .u32 m ∧ m < 4294967296 ∧ Hid (sumP m (P.drop k) = sumP 4294967295 P) ∧ wr = w) (fun i _ _ => P.length - (intOf i).toNat)
  case atStart => exact ⟨0, 4294967295, by omega, rfl, rfl, by omega, rfl, rfl⟩
  case round =>
    obtain ⟨k, m, hk, rfl, rfl, hm1, hmm, rfl⟩ := hrel
    obtain ⟨wo, hwo⟩ : ∃ wo, wo = wr := ⟨_, rfl⟩
    subst hwo
    by_cases hlt : k < P.length
    · obtain ⟨b, off, cap1, hv, _, _, hb, c0⟩ := hr.str k hlt
      obtain ⟨rfl, rfl⟩ : q = some ⟨b, off, none⟩ ∧ cap = cap1 := by simpa using hv
      have hstep : sumP m (P.drop k) = sumP (sumF m P[k].data.toList) (P.drop (k + 1)) := by
        rw [List.drop_eq_getElem_cons hlt]; rfl
      have HST := Lib.hid hstep
      have hsz := HS.out P[k] (List.getElem_mem _)
      clear hv hstep
      obtain ⟨s, hs⟩ : ∃ s, P[k] = s := ⟨_, rfl⟩
      rw [hs] at HST c0 hsz
      clear hs
      go_wp2_with fail
      go_loopw [15, 3] (fun i v wr => ∃ (j n : Nat), j ≤ s.size ∧ i = .int .i64 j ∧ v = .int .u32 n ∧ n < 4294967296 ∧ Hid (sumF n (s.data.toList.drop j) = sumF m s.data.toList) ∧ wr = wo) (fun i _ _ => s.size - (intOf i).toNat)
      case atStart => exact ⟨0, m, by omega, rfl, rfl, hm1, rfl, rfl⟩
      case round =>
        obtain ⟨j, n, hj, rfl, rfl, hn1, hnn, rfl⟩ := hrel
        by_cases hjl : j < s.size
        · have hc := s[j].toNat_lt
          have hx : bits BinOp.xor IntKind.u32 (n : Int) (s[j].toNat : Int) = ((n ^^^ s[j].toNat : Nat) : Int) := xor_u32 _ _ hn1 (by omega)
          have hxl : n ^^^ s[j].toNat < 4294967296 := xor_lt hn1 (by omega)
          have hcall := stir_any (n ^^^ s[j].toNat) wr hxl
          rw [← hx] at hcall
          have HC := Lib.hid hcall
          clear hcall hx
          go_wp2_with (go_at_call 75; refine HC.out.mono ?_; rintro e w1 ⟨rfl, rfl⟩)
          case roundEnd =>
            refine ⟨⟨j + 1, turns 8 (n ^^^ s[j].toNat), by omega, by go_num, rfl, turns_lt hxl, ?_, trivial⟩, by simp [intOf]; omega⟩
            show _ = _
            rw [← hnn.out, drop_at s j hjl]
            rfl
        · obtain rfl : j = s.size := by omega
          go_wp2_with fail
          case roundEnd =>
            have hn2 := hnn.out
            rw [List.drop_of_length_le (by rw [len_eq]; exact Nat.le_refl _)] at hn2
            refine ⟨⟨k + 1, n, by omega, by go_num, rfl, hn1, ?_, trivial⟩, by simp [intOf]; omega⟩
            show _ = _
            rw [← hmm.out, HST.out, ← hn2]
            rfl
    · have hm2 := hmm.out
      rw [List.drop_of_length_le (by omega)] at hm2
      have HM := Lib.hid hm2
      clear hm2
      go_wp2_with fail
      go_ret
      refine ⟨ret_u32 ?_, rfl⟩
      have e : (IntKind.u32.max : Int) = ((4294967295 : Nat) : Int) := by decide
      rw [e, xor_u32 _ _ (by omega) hm1]
      unfold sumOf
      rw [← HM.out]
      rfl

set_option maxRecDepth 100000 in
set_option maxHeartbeats 1000000 in
theorem sum3_any (P : List ByteArray) (v : Value) (w : World) (hr : Reads w v 1 P.length (strs P)) (hm : P.length ≤ 1099511627776) (hs : ∀ s ∈ P, s.size ≤ 1099511627776) :
    Calls Try.prog 62 #[v] w fun e w' => e = .returned (.int .u32 ((sumOf P : Nat) : Int)) ∧ w = w' := by
  obtain ⟨q, cap, rfl⟩ := hr.is
  have HS := Lib.hid hs
  clear hs
  go_enter Try.func62, Try.ntmps62
  go_wp2_with fail
  go_loopw [4, 3] (fun i v wr => ∃ (k m : Nat), k ≤ P.length ∧ i = .int .i64 k ∧ v = .int .u32 m ∧ m < 4294967296 ∧ Hid (sumP m (P.drop k) = sumP 4294967295 P) ∧ wr = w) (fun i _ _ => P.length - (intOf i).toNat)
  case atStart => exact ⟨0, 4294967295, by omega, rfl, rfl, by omega, rfl, rfl⟩
  case round =>
    obtain ⟨k, m, hk, rfl, rfl, hm1, hmm, rfl⟩ := hrel
    obtain ⟨wo, hwo⟩ : ∃ wo, wo = wr := ⟨_, rfl⟩
    subst hwo
    by_cases hlt : k < P.length
    · obtain ⟨b, off, cap1, hv, _, _, hb, c0⟩ := hr.str k hlt
      obtain ⟨rfl, rfl⟩ : q = some ⟨b, off, none⟩ ∧ cap = cap1 := by simpa using hv
      have hstep : sumP m (P.drop k) = sumP (sumF m P[k].data.toList) (P.drop (k + 1)) := by
        rw [List.drop_eq_getElem_cons hlt]; rfl
      have HST := Lib.hid hstep
      have hsz := HS.out P[k] (List.getElem_mem _)
      clear hv hstep
      obtain ⟨s, hs⟩ : ∃ s, P[k] = s := ⟨_, rfl⟩
      rw [hs] at HST c0 hsz
      clear hs
      go_wp2_with fail
      go_loopw [5, 3] (fun i v wr => ∃ (j n : Nat), j ≤ s.size ∧ i = .int .i64 j ∧ v = .int .u32 n ∧ n < 4294967296 ∧ Hid (sumF n (s.data.toList.drop j) = sumF m s.data.toList) ∧ wr = wo) (fun i _ _ => s.size - (intOf i).toNat)
      case atStart => exact ⟨0, m, by omega, rfl, rfl, hm1, rfl, rfl⟩
      case round =>
        obtain ⟨j, n, hj, rfl, rfl, hn1, hnn, rfl⟩ := hrel
        by_cases hjl : j < s.size
        · have hc := s[j].toNat_lt
          obtain ⟨wi, hwi⟩ : ∃ wi, wi = wr := ⟨_, rfl⟩
          subst hwi
          go_wp2_with fail
          go_loopw [6, 3] (fun i v wr => ∃ (t x : Nat), t ≤ 8 ∧ i = .int .i64 t ∧ v = .int .u32 x ∧ x < 4294967296 ∧ Hid (turns (8 - t) x = turns 8 (n ^^^ s[j].toNat)) ∧ wr = wi) (fun i _ _ => 8 - (intOf i).toNat)
          case atStart => exact ⟨0, n ^^^ s[j].toNat, by omega, rfl, by rw [xor_u32 _ _ hn1 (by omega)], xor_lt hn1 (by omega), rfl, rfl⟩
          case round =>
            obtain ⟨t, x, ht, rfl, rfl, hx1, hxx, rfl⟩ := hrel
            by_cases htl : t < 8
            · have hnext : turns (8 - (t + 1)) (turn x) = turns 8 (n ^^^ s[j].toNat) := by
                rw [← hxx.out, show 8 - t = (8 - (t + 1)) + 1 by omega]
                rfl
              have HN := Lib.hid hnext
              clear hnext
              by_cases hodd : x % 2 = 1
              · have ha : bits BinOp.and IntKind.u32 (x : Int) 1 = 1 := by rw [and1_u32 x hx1, hodd]; rfl
                have hb : bits BinOp.xor IntKind.u32 ((x : Int) / 2) 3988292384 = ((turn x : Nat) : Int) := by
                  unfold turn
                  rw [if_pos hodd, ← xor_u32 _ _ (by omega) (by omega)]
                  rfl
                clear hodd
                go_wp2_with fail
                case roundEnd => exact ⟨⟨t + 1, turn x, by omega, by go_num, rfl, turn_lt hx1, HN.out, trivial⟩, by simp [intOf]; omega⟩
              · have ha : bits BinOp.and IntKind.u32 (x : Int) 1 = 0 := by rw [and1_u32 x hx1, show x % 2 = 0 by omega]; rfl
                have hb : (x : Int) / 2 = ((turn x : Nat) : Int) := by
                  unfold turn
                  rw [if_neg hodd]
                  omega
                have HB := Lib.hid hb
                clear hodd hb
                go_wp2_with fail
                case roundEnd => exact ⟨⟨t + 1, turn x, by omega, by go_num, by rw [HB.out], turn_lt hx1, HN.out, trivial⟩, by simp [intOf]; omega⟩
            · obtain rfl : t = 8 := by omega
              have hx2 := hxx.out
              have HX := Lib.hid hx2
              clear hx2
              go_wp2_with fail
              case roundEnd =>
                refine ⟨⟨j + 1, x, by omega, by go_num, rfl, hx1, ?_, trivial⟩, by simp [intOf]; omega⟩
                show _ = _
                have h3 : x = turns 8 (n ^^^ s[j].toNat) := HX.out
                rw [← hnn.out, drop_at s j hjl, h3]
                rfl
        · obtain rfl : j = s.size := by omega
          go_wp2_with fail
          case roundEnd =>
            have hn2 := hnn.out
            rw [List.drop_of_length_le (by rw [len_eq]; exact Nat.le_refl _)] at hn2
            refine ⟨⟨k + 1, n, by omega, by go_num, rfl, hn1, ?_, trivial⟩, by simp [intOf]; omega⟩
            show _ = _
            rw [← hmm.out, HST.out, ← hn2]
            rfl
    · have hm2 := hmm.out
      rw [List.drop_of_length_le (by omega)] at hm2
      have HM := Lib.hid hm2
      clear hm2
      go_wp2_with fail
      go_ret
      refine ⟨ret_u32 ?_, rfl⟩
      have e : (IntKind.u32.max : Int) = ((4294967295 : Nat) : Int) := by decide
      rw [e, xor_u32 _ _ (by omega) hm1]
      unfold sumOf
      rw [← HM.out]
      rfl
end Go.Proofs.Ytkecjopojnllnaa
