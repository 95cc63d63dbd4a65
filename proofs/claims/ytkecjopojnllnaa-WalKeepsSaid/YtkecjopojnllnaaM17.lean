/- Four bytes as a number; firstFrame; Scan of both sides. -/
import Derived.Test.YtkecjopojnllnaaM06
import Derived.Deep.RegionHeld3
import Derived.Test.YtkecjopojnllnaaM13
namespace Go.Proofs.Ytkecjopojnllnaa
open Go.RowKit Go.Deep Go.Joins

theorem bits_or_n (a b : Nat) (ha : a < 4294967296) (hb : b < 4294967296) : bits .or .u32 (a : Int) (b : Int) = ((a ||| b : Nat) : Int) := by
  show IntKind.u32.wrap ((BitVec.ofInt 32 (a : Int) ||| BitVec.ofInt 32 (b : Int)).toNat : Int) = _
  rw [BitVec.ofInt_natCast, BitVec.ofInt_natCast, BitVec.toNat_or, BitVec.toNat_ofNat, BitVec.toNat_ofNat, Nat.mod_eq_of_lt (by omega), Nat.mod_eq_of_lt (by omega)]
  have h3 : a ||| b < 2 ^ 32 := Nat.or_lt_two_pow (by omega) (by omega)
  exact wraps_u32 _ (by omega) (by omega)
theorem or_up {a b i : Nat} (h : a < 2 ^ i) : a ||| b * 2 ^ i = a + b * 2 ^ i := by
  rw [Nat.mul_comm, Nat.or_comm, ← Nat.two_pow_add_eq_or_of_lt h, Nat.add_comm]
theorem four_or (a b c d : Nat) (ha : a < 256) (hb : b < 256) (hc : c < 256) (hd : d < 256) :
    bits .or .u32 (bits .or .u32 (bits .or .u32 ((a : Int) % 4294967296) ((b : Int) % 4294967296 * 256 % 4294967296)) ((c : Int) % 4294967296 * 65536 % 4294967296)) ((d : Int) % 4294967296 * 16777216 % 4294967296) = ((a + b * 256 + c * 65536 + d * 16777216 : Nat) : Int) := by
  have e0 : (a : Int) % 4294967296 = (a : Int) := by omega
  have e1 : (b : Int) % 4294967296 * 256 % 4294967296 = ((b * 256 : Nat) : Int) := by omega
  have e2 : (c : Int) % 4294967296 * 65536 % 4294967296 = ((c * 65536 : Nat) : Int) := by omega
  have e3 : (d : Int) % 4294967296 * 16777216 % 4294967296 = ((d * 16777216 : Nat) : Int) := by omega
  rw [e0, e1, e2, e3, bits_or_n a (b * 256) (by omega) (by omega), show a ||| b * 256 = a + b * 256 from or_up (i := 8) (by omega),
    bits_or_n _ (c * 65536) (by omega) (by omega), show a + b * 256 ||| c * 65536 = a + b * 256 + c * 65536 from or_up (i := 16) (by omega),
    bits_or_n _ (d * 16777216) (by omega) (by omega), show a + b * 256 + c * 65536 ||| d * 16777216 = a + b * 256 + c * 65536 + d * 16777216 from or_up (i := 24) (by omega)]
/-- A byte of a string; nought where there is none. -/
def bAt (s : ByteArray) (k : Nat) : Nat := if h : k < s.size then (s[k]'h).toNat else 0
theorem bAt_in {s : ByteArray} {k : Nat} (h : k < s.size) : bAt s k = (s[k]'h).toNat := by unfold bAt; rw [dif_pos h]
theorem bAt_lt (s : ByteArray) (k : Nat) : bAt s k < 256 := by
  unfold bAt
  split
  · exact UInt8.toNat_lt _
  · omega
/-- The number of four bytes. -/
def rd4 (s : ByteArray) (k : Nat) : Nat := bAt s k + bAt s (k + 1) * 256 + bAt s (k + 2) * 65536 + bAt s (k + 3) * 16777216
theorem rd4_lt (s : ByteArray) (k : Nat) : rd4 s k < 4294967296 := by
  have := bAt_lt s k
  have := bAt_lt s (k + 1)
  have := bAt_lt s (k + 2)
  have := bAt_lt s (k + 3)
  unfold rd4
  omega
theorem four_rd (s : ByteArray) (h0 : 0 < s.size) (h1 : 1 < s.size) (h2 : 2 < s.size) (h3 : 3 < s.size) :
    bits .or .u32 (bits .or .u32 (bits .or .u32 (((s[0]'h0).toNat : Int) % 4294967296) (((s[1]'h1).toNat : Int) % 4294967296 * 256 % 4294967296)) (((s[2]'h2).toNat : Int) % 4294967296 * 65536 % 4294967296)) (((s[3]'h3).toNat : Int) % 4294967296 * 16777216 % 4294967296) = ((rd4 s 0 : Nat) : Int) := by
  rw [four_or _ _ _ _ (UInt8.toNat_lt _) (UInt8.toNat_lt _) (UInt8.toNat_lt _) (UInt8.toNat_lt _)]
  unfold rd4
  rw [bAt_in h0, bAt_in h1, bAt_in h2, bAt_in h3]
set_option maxRecDepth 100000 in
set_option maxHeartbeats 1000000 in
theorem rd_any (s : ByteArray) (w : World) (h4 : 4 ≤ s.size) :
    Calls Try.prog 79 #[.string s] w fun e w' => e = .returned (.int .u32 ((rd4 s 0 : Nat) : Int)) ∧ Below w.heap.size w w' := by
  have h0 : 0 < s.size := by omega
  have h1 : 1 < s.size := by omega
  have h2 : 2 < s.size := by omega
  have h3 : 3 < s.size := by omega
  have E := Lib.hid (four_rd s h0 h1 h2 h3)
  have g0 : (0 : Int) < (s.size : Int) := by omega
  have g1 : (1 : Int) < (s.size : Int) := by omega
  have g2 : (2 : Int) < (s.size : Int) := by omega
  have g3 : (3 : Int) < (s.size : Int) := by omega
  go_enter Try.func79, Try.ntmps79
  go_wp2
  go_region
  go_wp2
  go_ret
  exact ⟨ret_u32 E.out, (Below.refl _ _).drew⟩
set_option maxRecDepth 100000 in
set_option maxHeartbeats 1000000 in
theorem rd3_any (s : ByteArray) (w : World) (h4 : 4 ≤ s.size) :
    Calls Try.prog 61 #[.string s] w fun e w' => e = .returned (.int .u32 ((rd4 s 0 : Nat) : Int)) ∧ Below w.heap.size w w' := by
  have h0 : 0 < s.size := by omega
  have h1 : 1 < s.size := by omega
  have h2 : 2 < s.size := by omega
  have h3 : 3 < s.size := by omega
  have E := Lib.hid (four_rd s h0 h1 h2 h3)
  have g0 : (0 : Int) < (s.size : Int) := by omega
  have g1 : (1 : Int) < (s.size : Int) := by omega
  have g2 : (2 : Int) < (s.size : Int) := by omega
  have g3 : (3 : Int) < (s.size : Int) := by omega
  go_enter Try.func61, Try.ntmps61
  go_wp2
  go_region
  go_wp2
  go_ret
  exact ⟨ret_u32 E.out, (Below.refl _ _).drew⟩

end Go.Proofs.Ytkecjopojnllnaa
namespace Go.Proofs.Ytkecjopojnllnaa
open Go.RowKit Go.Deep Go.Joins

theorem ext_get (s : ByteArray) (i j k : Nat) (hj : j ≤ s.size) (hk : i + k < j) : bAt (s.extract i j) k = bAt s (i + k) := by
  have h1 : k < (s.extract i j).size := by rw [ByteArray.size_extract]; omega
  rw [bAt_in h1, bAt_in (show i + k < s.size by omega), ByteArray.getElem_extract]
theorem rd4_ext (s : ByteArray) (i j k : Nat) (hj : j ≤ s.size) (hk : i + k + 3 < j) : rd4 (s.extract i j) k = rd4 s (i + k) := by
  unfold rd4
  rw [ext_get s i j k hj (by omega), ext_get s i j (k + 1) hj (by omega), ext_get s i j (k + 2) hj (by omega), ext_get s i j (k + 3) hj (by omega)]
  rfl
/-- The string of the whole frame that begins at a place. -/
def oneAt (s : ByteArray) (at_ : Nat) : Option ByteArray :=
  if at_ + 9 ≤ s.size ∧ rd4 s at_ ≤ 131072 ∧ at_ + rd4 s at_ + 9 ≤ s.size then
    (if bAt s (at_ + 8 + rd4 s at_) = 255 ∧ rd4 s (at_ + 4) = sumOf [s.extract at_ (at_ + 4), s.extract (at_ + 8) (at_ + 8 + rd4 s at_)] then some (s.extract (at_ + 8) (at_ + 8 + rd4 s at_)) else none)
  else none
theorem sum_cells (a b : ByteArray) (g : Nat) (W : World) (ha : a.size ≤ 1099511627776) (hb : b.size ≤ 1099511627776) (h0 : W.cell? ⟨g, 0, none⟩ = some (.string a)) (h1 : W.cell? ⟨g, 1, none⟩ = some (.string b)) :
    Calls Try.prog 65 #[.slice (some ⟨g, 0, none⟩) 2 2] W fun e w' => e = .returned (.int .u32 ((sumOf [a, b] : Nat) : Int)) ∧ W = w' := by
  refine sum_any [a, b] _ _ ⟨rfl, .inr ⟨_, 2, rfl, Nat.le_refl _, by decide, fun j u hu => ?_⟩⟩ (by simp) (two_small ha hb)
  rw [add_lit, Nat.zero_add]
  rcases j with _ | _ | j
  · simp [strs] at hu; rw [← hu]; exact h0
  · simp [strs] at hu; rw [← hu]; exact h1
  · simp [strs] at hu
theorem sum3_cells (a b : ByteArray) (g : Nat) (W : World) (ha : a.size ≤ 1099511627776) (hb : b.size ≤ 1099511627776) (h0 : W.cell? ⟨g, 0, none⟩ = some (.string a)) (h1 : W.cell? ⟨g, 1, none⟩ = some (.string b)) :
    Calls Try.prog 62 #[.slice (some ⟨g, 0, none⟩) 2 2] W fun e w' => e = .returned (.int .u32 ((sumOf [a, b] : Nat) : Int)) ∧ W = w' := by
  refine sum3_any [a, b] _ _ ⟨rfl, .inr ⟨_, 2, rfl, Nat.le_refl _, by decide, fun j u hu => ?_⟩⟩ (by simp) (two_small ha hb)
  rw [add_lit, Nat.zero_add]
  rcases j with _ | _ | j
  · simp [strs] at hu; rw [← hu]; exact h0
  · simp [strs] at hu; rw [← hu]; exact h1
  · simp [strs] at hu
def ffNo (w : World) (e : Ending) (w' : World) : Prop := e = .returned (.tuple #[.string ⟨#[]⟩, .bool false]) ∧ Below w.heap.size w w'
set_option maxRecDepth 100000 in
set_option maxHeartbeats 1000000 in
theorem ff_short (s : ByteArray) (w : World) (hs : s.size ≤ 1099511627776) (h : ¬ 9 ≤ s.size) : Calls Try.prog 72 #[.string s] w (ffNo w) := by
  have h' : (s.size : Int) < 9 := by omega
  go_enter Try.func72, Try.ntmps72
  go_wp2_with fail
  go_ret2
  exact ⟨rfl, Below.refl _ _⟩
set_option maxRecDepth 100000 in
set_option maxHeartbeats 1000000 in
theorem ff_long (s : ByteArray) (w : World) (hs : s.size ≤ 1099511627776) (h : 9 ≤ s.size) (hn : ¬ rd4 s 0 ≤ 131072) : Calls Try.prog 72 #[.string s] w (ffNo w) := by
  have h' : ¬ (s.size : Int) < 9 := by omega
  have hl := rd4_lt s 0
  have HC := Lib.hid (rd_any s w (by omega))
  obtain ⟨n, hnn⟩ : ∃ n, rd4 s 0 = n := ⟨_, rfl⟩
  rw [hnn] at hn hl HC
  have g1 : (131072 : Int) < (n : Int) := by omega
  clear hnn hn
  go_enter Try.func72, Try.ntmps72
  go_wp2_with (first | (go_at_call 79; (with_reducible refine HC.out.mono ?_); rintro e w1 ⟨rfl, N1⟩) | fail)
  go_ret2
  exact ⟨rfl, N1⟩
set_option maxRecDepth 100000 in
set_option maxHeartbeats 1000000 in
theorem ff_over (s : ByteArray) (w : World) (hs : s.size ≤ 1099511627776) (h : 9 ≤ s.size) (hn : rd4 s 0 ≤ 131072) (ho : ¬ rd4 s 0 + 9 ≤ s.size) : Calls Try.prog 72 #[.string s] w (ffNo w) := by
  have h' : ¬ (s.size : Int) < 9 := by omega
  have HC := Lib.hid (rd_any s w (by omega))
  obtain ⟨n, hnn⟩ : ∃ n, rd4 s 0 = n := ⟨_, rfl⟩
  rw [hnn] at hn HC ho
  have g1 : ¬ (131072 : Int) < (n : Int) := by omega
  have g2 : (s.size : Int) - 9 < (n : Int) := by omega
  clear hnn
  go_enter Try.func72, Try.ntmps72
  go_wp2_with (first | (go_at_call 79; (with_reducible refine HC.out.mono ?_); rintro e w1 ⟨rfl, N1⟩) | fail)
  go_ret2
  exact ⟨rfl, N1⟩

end Go.Proofs.Ytkecjopojnllnaa
namespace Go.Proofs.Ytkecjopojnllnaa
open Go.RowKit Go.Deep Go.Joins
set_option maxRecDepth 100000 in
set_option maxHeartbeats 2000000 in
theorem ff_last (s : ByteArray) (w : World) (hs : s.size ≤ 1099511627776) (h : 9 ≤ s.size) (hn : rd4 s 0 ≤ 131072) (ho : rd4 s 0 + 9 ≤ s.size) (hb : bAt s (8 + rd4 s 0) ≠ 255) : Calls Try.prog 72 #[.string s] w (ffNo w) := by
  have h' : ¬ (s.size : Int) < 9 := by omega
  have HC := Lib.hid (fun W => rd_any s W (by omega))
  obtain ⟨m, hm⟩ : ∃ m, 8 + rd4 s 0 = m := ⟨_, rfl⟩
  have hms : m < s.size := by omega
  rw [hm, bAt_in hms] at hb
  have P1 : (((s[m]'hms).toNat : Int) != 255) = true := by rw [bne_iff_ne]; omega
  clear hb
  obtain ⟨n, hnn⟩ : ∃ n, rd4 s 0 = n := ⟨_, rfl⟩
  rw [hnn] at hn HC ho hm
  clear hnn
  have g1 : ¬ (131072 : Int) < (n : Int) := by omega
  have g2 : ¬ (s.size : Int) - 9 < (n : Int) := by omega
  have g3 : 8 + (n : Int) = (m : Int) := by omega
  have g4 : (m : Int) < (s.size : Int) := by omega
  have g5 : 8 ≤ m := by omega
  have g6 : (8 : Int) ≤ (m : Int) := by omega
  have g7 : (m : Int) ≤ (s.size : Int) := by omega
  have g8 : (4 : Int) ≤ (s.size : Int) := by omega
  clear hm
  go_enter Try.func72, Try.ntmps72
  go_upto_region 8 with (first | (go_at_call 79; (with_reducible refine (HC.out _).mono ?_); rintro e w1 ⟨rfl, N1⟩) | fail)
  go_region
  go_wp2_with fail
  go_ret2
  all_goals exact ⟨rfl, by repeat (first | with_reducible exact N1 | with_reducible refine below_then ?_ N2 | with_reducible refine nb_drew ?_ | with_reducible refine nb_alloc ?_ _)⟩
set_option maxRecDepth 100000 in
set_option maxHeartbeats 2000000 in
theorem ff_sum (s : ByteArray) (w : World) (hs : s.size ≤ 1099511627776) (h : 9 ≤ s.size) (hn : rd4 s 0 ≤ 131072) (ho : rd4 s 0 + 9 ≤ s.size) (hb : bAt s (8 + rd4 s 0) = 255) (hq : rd4 s 4 ≠ sumOf [s.extract 0 4, s.extract 8 (8 + rd4 s 0)]) : Calls Try.prog 72 #[.string s] w (ffNo w) := by
  have h' : ¬ (s.size : Int) < 9 := by omega
  have HC := Lib.hid (fun W => rd_any s W (by omega))
  obtain ⟨m, hm⟩ : ∃ m, 8 + rd4 s 0 = m := ⟨_, rfl⟩
  have hms : m < s.size := by omega
  rw [hm, bAt_in hms] at hb
  rw [hm] at hq
  have HR := Lib.hid (fun W => rd_any (s.extract 4 s.size) W (by rw [ByteArray.size_extract]; omega))
  rw [show rd4 (s.extract 4 s.size) 0 = rd4 s 4 from rd4_ext s 4 s.size 0 (Nat.le_refl _) (by omega)] at HR
  have HS := Lib.hid (fun W g => sum_cells (s.extract 0 4) (s.extract 8 m) g W (by rw [ByteArray.size_extract]; omega) (by rw [ByteArray.size_extract]; omega))
  have hq1 := rd4_lt s 4
  obtain ⟨x, hx⟩ : ∃ x, rd4 s 4 = x := ⟨_, rfl⟩
  obtain ⟨y, hy⟩ : ∃ y, sumOf [s.extract 0 4, s.extract 8 m] = y := ⟨_, rfl⟩
  rw [hx] at HR hq
  rw [hy] at HS hq
  have P2 : ((x : Int) != (y : Int)) = true := by rw [bne_iff_ne]; omega
  clear hx hy hq hq1
  have P1 : ((s[m]'hms).toNat : Int) = 255 := by rw [hb]; rfl
  clear hb
  obtain ⟨n, hnn⟩ : ∃ n, rd4 s 0 = n := ⟨_, rfl⟩
  rw [hnn] at hn HC ho hm
  clear hnn
  have g1 : ¬ (131072 : Int) < (n : Int) := by omega
  have g2 : ¬ (s.size : Int) - 9 < (n : Int) := by omega
  have g3 : 8 + (n : Int) = (m : Int) := by omega
  have g4 : (m : Int) < (s.size : Int) := by omega
  have g5 : 8 ≤ m := by omega
  have g6 : (8 : Int) ≤ (m : Int) := by omega
  have g7 : (m : Int) ≤ (s.size : Int) := by omega
  have g8 : (4 : Int) ≤ (s.size : Int) := by omega
  clear hm
  go_enter Try.func72, Try.ntmps72
  go_upto_region 8 with (first | (go_at_call 79; (with_reducible refine (HC.out _).mono ?_); rintro e w1 ⟨rfl, N1⟩) | fail)
  go_region_held3 (fun _ => True) (trivial)
    (first
      | (go_at_call 79; (with_reducible refine (HR.out _).mono ?_); rintro e u1 ⟨rfl, N2⟩)
      | (go_at_call 65; (with_reducible refine (HS.out _ _ ?c0 ?c1).mono ?_); (case c0 => first | (simp; done) | exact (N2.cell (by simp)).trans (by simp)); (case c1 => first | (simp; done) | exact (N2.cell (by simp)).trans (by simp)); rintro e u2 ⟨rfl, rfl⟩)
      | fail)
  all_goals go_wp2_with fail
  all_goals go_ret2
  all_goals exact ⟨rfl, by repeat (first | with_reducible exact N1 | with_reducible refine below_then ?_ N2 | with_reducible refine nb_drew ?_ | with_reducible refine nb_alloc ?_ _)⟩
set_option maxRecDepth 100000 in
set_option maxHeartbeats 2000000 in
theorem ff_yes (s : ByteArray) (w : World) (hs : s.size ≤ 1099511627776) (h : 9 ≤ s.size) (hn : rd4 s 0 ≤ 131072) (ho : rd4 s 0 + 9 ≤ s.size) (hb : bAt s (8 + rd4 s 0) = 255) (hq : rd4 s 4 = sumOf [s.extract 0 4, s.extract 8 (8 + rd4 s 0)]) : Calls Try.prog 72 #[.string s] w fun e w' => e = .returned (.tuple #[.string (s.extract 8 (8 + rd4 s 0)), .bool true]) ∧ Below w.heap.size w w' := by
  have h' : ¬ (s.size : Int) < 9 := by omega
  have HC := Lib.hid (fun W => rd_any s W (by omega))
  obtain ⟨m, hm⟩ : ∃ m, 8 + rd4 s 0 = m := ⟨_, rfl⟩
  have hms : m < s.size := by omega
  rw [hm, bAt_in hms] at hb
  rw [hm]
  rw [hm] at hq
  have HR := Lib.hid (fun W => rd_any (s.extract 4 s.size) W (by rw [ByteArray.size_extract]; omega))
  rw [show rd4 (s.extract 4 s.size) 0 = rd4 s 4 from rd4_ext s 4 s.size 0 (Nat.le_refl _) (by omega)] at HR
  have HS := Lib.hid (fun W g => sum_cells (s.extract 0 4) (s.extract 8 m) g W (by rw [ByteArray.size_extract]; omega) (by rw [ByteArray.size_extract]; omega))
  have hq1 := rd4_lt s 4
  obtain ⟨x, hx⟩ : ∃ x, rd4 s 4 = x := ⟨_, rfl⟩
  obtain ⟨y, hy⟩ : ∃ y, sumOf [s.extract 0 4, s.extract 8 m] = y := ⟨_, rfl⟩
  rw [hx] at HR hq
  rw [hy] at HS hq
  have P2 : ((x : Int) != (y : Int)) = false := by rw [hq]; simp
  clear hx hy hq hq1
  have P1 : ((s[m]'hms).toNat : Int) = 255 := by rw [hb]; rfl
  clear hb
  obtain ⟨n, hnn⟩ : ∃ n, rd4 s 0 = n := ⟨_, rfl⟩
  rw [hnn] at hn HC ho hm
  clear hnn
  have g1 : ¬ (131072 : Int) < (n : Int) := by omega
  have g2 : ¬ (s.size : Int) - 9 < (n : Int) := by omega
  have g3 : 8 + (n : Int) = (m : Int) := by omega
  have g4 : (m : Int) < (s.size : Int) := by omega
  have g5 : 8 ≤ m := by omega
  have g6 : (8 : Int) ≤ (m : Int) := by omega
  have g7 : (m : Int) ≤ (s.size : Int) := by omega
  have g8 : (4 : Int) ≤ (s.size : Int) := by omega
  clear hm
  go_enter Try.func72, Try.ntmps72
  go_upto_region 8 with (first | (go_at_call 79; (with_reducible refine (HC.out _).mono ?_); rintro e w1 ⟨rfl, N1⟩) | fail)
  go_region_held3 (fun _ => True) (trivial)
    (first
      | (go_at_call 79; (with_reducible refine (HR.out _).mono ?_); rintro e u1 ⟨rfl, N2⟩)
      | (go_at_call 65; (with_reducible refine (HS.out _ _ ?c0 ?c1).mono ?_); (case c0 => first | (simp; done) | exact (N2.cell (by simp)).trans (by simp)); (case c1 => first | (simp; done) | exact (N2.cell (by simp)).trans (by simp)); rintro e u2 ⟨rfl, rfl⟩)
      | fail)
  all_goals go_wp2_with fail
  all_goals go_ret2
  all_goals exact ⟨rfl, by repeat (first | with_reducible exact N1 | with_reducible refine below_then ?_ N2 | with_reducible refine nb_drew ?_ | with_reducible refine nb_alloc ?_ _)⟩

def ffV (o : Option ByteArray) : Value := match o with | some b => .tuple #[.string b, .bool true] | none => .tuple #[.string ⟨#[]⟩, .bool false]
theorem ff_any (s : ByteArray) (w : World) (hs : s.size ≤ 1099511627776) : Calls Try.prog 72 #[.string s] w fun e w' => e = .returned (ffV (oneAt s 0)) ∧ Below w.heap.size w w' := by
  have no : oneAt s 0 = none → (Calls Try.prog 72 #[.string s] w (ffNo w)) → Calls Try.prog 72 #[.string s] w fun e w' => e = .returned (ffV (oneAt s 0)) ∧ Below w.heap.size w w' := fun e h => by
    rw [e]; exact h
  by_cases h : 9 ≤ s.size
  · by_cases hn : rd4 s 0 ≤ 131072
    · by_cases ho : rd4 s 0 + 9 ≤ s.size
      · have hc : 0 + 9 ≤ s.size ∧ rd4 s 0 ≤ 131072 ∧ 0 + rd4 s 0 + 9 ≤ s.size := ⟨by omega, hn, by omega⟩
        by_cases hb : bAt s (8 + rd4 s 0) = 255
        · by_cases hq : rd4 s 4 = sumOf [s.extract 0 4, s.extract 8 (8 + rd4 s 0)]
          · rw [show oneAt s 0 = some (s.extract 8 (8 + rd4 s 0)) by unfold oneAt; rw [if_pos hc]; simp only [Nat.zero_add]; rw [if_pos ⟨hb, hq⟩]]
            exact ff_yes s w hs h hn ho hb hq
          · exact no (by unfold oneAt; rw [if_pos hc]; simp only [Nat.zero_add]; rw [if_neg (fun x => hq x.2)]) (ff_sum s w hs h hn ho hb hq)
        · exact no (by unfold oneAt; rw [if_pos hc]; simp only [Nat.zero_add]; rw [if_neg (fun x => hb x.1)]) (ff_last s w hs h hn ho hb)
      · exact no (by unfold oneAt; rw [if_neg (fun x => ho (by omega))]) (ff_over s w hs h hn ho)
    · exact no (by unfold oneAt; rw [if_neg (fun x => hn x.2.1)]) (ff_long s w hs h hn)
  · exact no (by unfold oneAt; rw [if_neg (fun x => h (by omega))]) (ff_short s w hs h)
/-- The same of what stands behind a place. -/
theorem oneAt_drop (s : ByteArray) (k : Nat) (hk : k ≤ s.size) : oneAt (s.extract k s.size) 0 = oneAt s k := by
  have hz : (s.extract k s.size).size = s.size - k := by rw [ByteArray.size_extract]; omega
  have hx : ∀ i j, (s.extract k s.size).extract i j = s.extract (k + i) (min (k + j) s.size) := fun i j => by rw [ByteArray.extract_extract]
  unfold oneAt
  rw [hz]
  by_cases h9 : k + 9 ≤ s.size
  · have e0 : rd4 (s.extract k s.size) 0 = rd4 s k := by rw [rd4_ext s k s.size 0 (Nat.le_refl _) (by omega)]; rfl
    rw [e0]
    by_cases hc : k + 9 ≤ s.size ∧ rd4 s k ≤ 131072 ∧ k + rd4 s k + 9 ≤ s.size
    · have e4 : rd4 (s.extract k s.size) (0 + 4) = rd4 s (k + 4) := by rw [rd4_ext s k s.size (0 + 4) (Nat.le_refl _) (by omega)]
      rw [if_pos hc, if_pos ⟨by omega, hc.2.1, by omega⟩, e4, ext_get s k s.size _ (Nat.le_refl _) (by omega), hx, hx]
      simp only [Nat.zero_add, Nat.add_zero]
      rw [show min (k + 4) s.size = k + 4 by omega, show k + (8 + rd4 s k) = k + 8 + rd4 s k by omega, show min (k + 8 + rd4 s k) s.size = k + 8 + rd4 s k by omega]
    · rw [if_neg hc, if_neg (fun x => hc ⟨h9, x.2.1, by omega⟩)]
  · rw [if_neg (fun x => h9 (by have := x.1; omega)), if_neg (fun x => h9 x.1)]

end Go.Proofs.Ytkecjopojnllnaa
namespace Go.Proofs.Ytkecjopojnllnaa
open Go.RowKit Go.Deep Go.Joins

def scanF (s : ByteArray) : Nat → Nat → List ByteArray × Nat
  | 0, a => ([], a)
  | f + 1, a => match oneAt s a with
    | none => ([], a)
    | some b => (b :: (scanF s f (a + 9 + b.size)).1, (scanF s f (a + 9 + b.size)).2)
/-- The strings of the whole frames that s begins with, and how many bytes these are. -/
def scanL (s : ByteArray) : List ByteArray × Nat := scanF s (s.size + 1) 0
theorem scanF_none {s : ByteArray} {a : Nat} (h : oneAt s a = none) (f : Nat) : scanF s f a = ([], a) := by
  cases f with
  | zero => rfl
  | succ f => unfold scanF; rw [h]
theorem scanF_some {s : ByteArray} {a : Nat} {b : ByteArray} (h : oneAt s a = some b) (f : Nat) : scanF s (f + 1) a = (b :: (scanF s f (a + 9 + b.size)).1, (scanF s f (a + 9 + b.size)).2) := by
  rw [scanF, h]
theorem oneAt_size {s : ByteArray} {a : Nat} {b : ByteArray} (h : oneAt s a = some b) : a + 9 + b.size ≤ s.size ∧ b.size ≤ 131072 := by
  unfold oneAt at h
  split at h
  · rename_i hc
    split at h
    · obtain rfl := Option.some.inj h
      rw [ByteArray.size_extract]
      omega
    · cases h
  · cases h
/-- On the way: these strings have come, and this many bytes are behind us. -/
def ScanAt (s : ByteArray) (P : List ByteArray) (a : Nat) : Prop :=
  a ≤ s.size ∧ P.length * 9 ≤ a ∧ ∃ f, s.size + 1 ≤ a + f ∧ scanL s = (P ++ (scanF s f a).1, (scanF s f a).2)
theorem ScanAt.start (s : ByteArray) : ScanAt s [] 0 := ⟨Nat.zero_le _, by simp, s.size + 1, by omega, rfl⟩
theorem ScanAt.over {s : ByteArray} {P : List ByteArray} {a : Nat} (h : ScanAt s P a) (hn : oneAt s a = none) : scanL s = (P, a) := by
  obtain ⟨_, _, f, _, h3⟩ := h
  rw [h3, scanF_none hn, List.append_nil]
theorem ScanAt.next {s : ByteArray} {P : List ByteArray} {a : Nat} {b : ByteArray} (h : ScanAt s P a) (hn : oneAt s a = some b) : ScanAt s (P ++ [b]) (a + 9 + b.size) := by
  obtain ⟨h1, h2, f, h3, h4⟩ := h
  have hz := (oneAt_size hn).1
  obtain ⟨g, rfl⟩ : ∃ g, f = g + 1 := ⟨f - 1, by omega⟩
  refine ⟨hz, by rw [List.length_append, List.length_singleton]; omega, g, by omega, ?_⟩
  rw [h4, scanF_some hn, List.append_assoc]
  rfl
theorem strs_one (P : List ByteArray) (b : ByteArray) : strs (P ++ [b]) = strs P ++ [.string b] := by
  unfold strs
  rw [List.map_append]
  rfl
def ScanPost (s : ByteArray) (w : World) (e : Ending) (w' : World) : Prop :=
  ∃ v, e = .returned (.tuple #[v, .int .i64 (((scanL s).2 : Nat) : Int)]) ∧ w'.ownsRow w.heap.size 9 1 v (scanL s).1.length (strs (scanL s).1) ∧ Below w.heap.size w w'
set_option maxRecDepth 100000 in
set_option maxHeartbeats 2000000 in
theorem scan_any (s : ByteArray) (w : World) (hs : s.size ≤ 1099511627776) : Calls Try.prog 55 #[.string s] w (ScanPost s w) := by
  obtain ⟨i0, hi, hz0, hz1, hz2⟩ := info_parts (show (Try.prog.info? 9).map (fun i => (i.zero, i.size, i.bytes)) = some (some (.string .empty), 1, 16) by kernel_rfl)
  go_enter Try.func55, Try.ntmps55
  go_wp2_with fail
  go_loopw [4, 5] (fun u i wr => ∃ (P : List ByteArray) (a : Nat), i = .int .i64 (a : Int) ∧ a ≤ s.size ∧ Hid (ScanAt s P a) ∧ Hid (wr.ownsRow w.heap.size 9 1 u P.length (strs P)) ∧ Hid (Below w.heap.size w wr)) (fun _ i _ => s.size - (intOf i).toNat)
  case atStart => exact ⟨[], 0, rfl, Nat.zero_le _, ScanAt.start s, World.ownsRow_nil _ _ _ _, Below.refl _ _⟩
  case round =>
    obtain ⟨P, a, rfl, hal, hat, hown, hbl⟩ := hrel
    obtain ⟨wo, hwo⟩ : ∃ wo, wo = wr := ⟨_, rfl⟩
    subst hwo
    have hff := fun W => ff_any (s.extract a s.size) W (by rw [ByteArray.size_extract]; omega)
    rw [oneAt_drop s a hal] at hff
    have hal' : (a : Int) ≤ (s.size : Int) := by omega
    cases hone : oneAt s a with
    | none =>
      rw [hone] at hff
      have HFF := Lib.hid hff
      have HE := Lib.hid (hat.out.over hone)
      clear hff hone
      unfold ffV at HFF
      dsimp only at HFF
      go_wp2_with (first | (go_at_call 72; (with_reducible refine (HFF.out _).mono ?_); rintro e w1 ⟨rfl, hb1⟩; have HB1 := Lib.hid hb1; clear hb1) | fail)
      go_ret2
      unfold ScanPost
      rw [HE.out]
      exact ⟨_, rfl, owns_below hown.out HB1.out, below_then hbl.out HB1.out⟩
    | some b =>
      rw [hone] at hff
      have HFF := Lib.hid hff
      have HE := Lib.hid (hat.out.next hone)
      obtain ⟨hz1', hz2'⟩ := oneAt_size hone
      have hlen : P.length * 9 ≤ s.size := Nat.le_trans hat.out.2.1 hal
      clear hff hone
      unfold ffV at HFF
      dsimp only at HFF
      go_wp2_with (first
        | (go_at_call 72; (with_reducible refine (HFF.out _).mono ?_); rintro e w1 ⟨rfl, hb1⟩; have HB1 := Lib.hid hb1; clear hb1)
        | (at_builtin; refine wpList_append_own _ rfl _ _ 27 rfl w.heap.size 9 i0 (.string .empty) 1 16 Try.underlying27 hi hz0 hz1 hz2 rfl (by decide) _ P.length (strs P) rfl ?a1 ⟨w1.heap.size, 0, none⟩ 1 1 [.string b] rfl rfl ?a2 ?a3 ?a4 ?a5 ?a6 ?_; rotate_right 1; intro v6 w6 hown6 hg6 hnil6; have HOWN6 := Lib.hid hown6; have HG6 := Lib.hid hg6; clear hown6 hg6 hnil6)
        | fail)
      case a1 => exact owns_below (owns_below hown.out HB1.out) (below1 _ _)
      case a2 =>
        intro j u hu
        rw [add_lit, Nat.zero_add, cell_of_row _ _ _ _ 9 _ (heap_alloc_new w1 _)]
        simpa using hu
      case a3 =>
        intro u hu
        simp at hu
        rcases hu with rfl
        rfl
      case a4 => unfold maxLen; omega
      case a5 => omega
      case a6 => have := hbl.out.size; have := HB1.out.size; simp; omega
      go_roundw
      case rel =>
        have hbx := nb_alloc (below_then hbl.out HB1.out) (.cells #[.string b] 9)
        refine ⟨P ++ [b], a + 9 + b.size, by go_num, hz1', HE, ?_, ?_⟩
        · rw [strs_one, List.length_append, List.length_singleton]
          exact HOWN6
        · exact Lib.hid (below_grown hbx (owns_below (owns_below hown.out HB1.out) (below1 _ _)) HG6.out)
      case measure => simp [intOf]; omega

end Go.Proofs.Ytkecjopojnllnaa
namespace Go.Proofs.Ytkecjopojnllnaa
open Go.RowKit Go.Deep Go.Joins

theorem scan_done {s : ByteArray} {w wo wx : World} {P : List ByteArray} {a : Nat} {u : Value} (hat : ScanAt s P a) (ho : oneAt s a = none) (hown : wo.ownsRow w.heap.size 9 1 u P.length (strs P)) (hb : Below w.heap.size w wo) (hx : Below wo.heap.size wo wx) :
    ScanPost s w (.returned (.tuple #[u, .int .i64 (a : Int)])) wx := by
  unfold ScanPost
  rw [hat.over ho]
  exact ⟨_, rfl, owns_below hown hx, below_then hb hx⟩
set_option maxRecDepth 100000 in
set_option maxHeartbeats 4000000 in
theorem scan3_any (s : ByteArray) (w : World) (hs : s.size ≤ 1099511627776) : Calls Try.prog 40 #[.string s] w (ScanPost s w) := by
  obtain ⟨i0, hi, hz0, hz1, hz2⟩ := info_parts (show (Try.prog.info? 9).map (fun i => (i.zero, i.size, i.bytes)) = some (some (.string .empty), 1, 16) by kernel_rfl)
  go_enter Try.func40, Try.ntmps40
  go_wp2_with fail
  go_loopw [5, 4] (fun u i wr => ∃ (P : List ByteArray) (a : Nat), i = .int .i64 (a : Int) ∧ a ≤ s.size ∧ Hid (ScanAt s P a) ∧ Hid (wr.ownsRow w.heap.size 9 1 u P.length (strs P)) ∧ Hid (Below w.heap.size w wr)) (fun _ i _ => s.size - (intOf i).toNat)
  case atStart => exact ⟨[], 0, rfl, Nat.zero_le _, ScanAt.start s, World.ownsRow_nil _ _ _ _, Below.refl _ _⟩
  case round =>
    obtain ⟨P, a, rfl, hal, hat, hown, hbl⟩ := hrel
    obtain ⟨wo, hwo⟩ : ∃ wo, wo = wr := ⟨_, rfl⟩
    subst hwo
    by_cases h9 : a + 9 ≤ s.size
    · have HC := Lib.hid (fun W => rd3_any (s.extract a s.size) W (by rw [ByteArray.size_extract]; omega))
      rw [show rd4 (s.extract a s.size) 0 = rd4 s a from rd4_ext s a s.size 0 (Nat.le_refl _) (by omega)] at HC
      have k1 : (9 : Int) ≤ (s.size : Int) - (a : Int) := by omega
      have k2 : (a : Int) ≤ (s.size : Int) := by omega
      by_cases hn : rd4 s a ≤ 131072
      · by_cases ho : a + rd4 s a + 9 ≤ s.size
        · have hif : a + 9 ≤ s.size ∧ rd4 s a ≤ 131072 ∧ a + rd4 s a + 9 ≤ s.size := ⟨h9, hn, ho⟩
          obtain ⟨q, hq⟩ : ∃ q, a + 4 = q := ⟨_, rfl⟩
          obtain ⟨m, hm⟩ : ∃ m, a + 8 = m := ⟨_, rfl⟩
          obtain ⟨l, hl⟩ : ∃ l, a + 8 + rd4 s a = l := ⟨_, rfl⟩
          have hone : oneAt s a = if bAt s l = 255 ∧ rd4 s q = sumOf [s.extract a q, s.extract m l] then some (s.extract m l) else none := by
            unfold oneAt
            rw [if_pos hif, hq, hm, ← hl, hm]
          have HR := Lib.hid (fun W => rd3_any (s.extract q s.size) W (by rw [ByteArray.size_extract]; omega))
          rw [show rd4 (s.extract q s.size) 0 = rd4 s q from rd4_ext s q s.size 0 (Nat.le_refl _) (by omega)] at HR
          have HS := Lib.hid (fun W g => sum3_cells (s.extract a q) (s.extract m l) g W (by rw [ByteArray.size_extract]; omega) (by rw [ByteArray.size_extract]; omega))
          have hbs : (s.extract m l).size = rd4 s a := by rw [ByteArray.size_extract]; omega
          have hls : l < s.size := by omega
          rw [bAt_in hls] at hone
          obtain ⟨n, hnn⟩ : ∃ n, rd4 s a = n := ⟨_, rfl⟩
          rw [hnn] at hn HC ho hl hbs
          obtain ⟨x, hx⟩ : ∃ x, rd4 s q = x := ⟨_, rfl⟩
          obtain ⟨y, hy⟩ : ∃ y, sumOf [s.extract a q, s.extract m l] = y := ⟨_, rfl⟩
          rw [hx] at HR hone
          rw [hy] at HS hone
          clear hx hy hnn hif
          have g1 : ¬ (131072 : Int) < (n : Int) := by omega
          have g2 : ¬ (s.size : Int) - (a : Int) - 9 < (n : Int) := by omega
          have g3 : (a : Int) + 8 = (m : Int) := by omega
          have g4 : (m : Int) + (n : Int) = (l : Int) := by omega
          have g5 : (a : Int) + 4 = (q : Int) := by omega
          have g6 : (m : Int) ≤ (l : Int) := by omega
          have g7 : (l : Int) ≤ (s.size : Int) := by omega
          have g8 : (q : Int) ≤ (s.size : Int) := by omega
          have g9 : (a : Int) ≤ (q : Int) := by omega
          have g10 : (l : Int) < (s.size : Int) := by omega
          have ga : m ≤ l := by omega
          have z1 : (0 : Int) ≤ (a : Int) := by omega
          have z2 : (0 : Int) ≤ (q : Int) := by omega
          have z3 : (0 : Int) ≤ (m : Int) := by omega
          have z4 : (0 : Int) ≤ (l : Int) := by omega
          have z5 : (0 : Int) ≤ (n : Int) := by omega
          have w2q : IntKind.i64.wrap ((a : Int) + 4) = (q : Int) := by rw [IntKind.wrap_i64]; omega
          have w2m : IntKind.i64.wrap ((a : Int) + 8) = (m : Int) := by rw [IntKind.wrap_i64]; omega
          have w2l : IntKind.i64.wrap ((m : Int) + (n : Int)) = (l : Int) := by rw [IntKind.wrap_i64]; omega
          have w2n : IntKind.i64.wrap (n : Int) = (n : Int) := by rw [IntKind.wrap_i64]; omega
          have w1q : IntKind.i64.wrap (q : Int) = (q : Int) := by rw [IntKind.wrap_i64]; omega
          have w1m : IntKind.i64.wrap (m : Int) = (m : Int) := by rw [IntKind.wrap_i64]; omega
          have w1l : IntKind.i64.wrap (l : Int) = (l : Int) := by rw [IntKind.wrap_i64]; omega
          have gb : a ≤ q := by omega
          have HF := Lib.hid (show a + 9 + n ≤ s.size ∧ a + 8 + n = l ∧ n ≤ 131072 from ⟨by omega, hl, hn⟩)
          clear hq hm hl
          by_cases hsum : x = y
          · subst hsum
            by_cases hlast : (s[l]'hls).toNat = 255
            · have HO : Hid (oneAt s a = some (s.extract m l)) := Lib.hid (by rw [hone, if_pos ⟨hlast, rfl⟩])
              have P1 : ((s[l]'hls).toNat : Int) = 255 := by rw [hlast]; rfl
              have HBS := Lib.hid hbs
              have HLEN := Lib.hid (show P.length * 9 ≤ s.size from Nat.le_trans hat.out.2.1 hal)
              clear hone hlast hbs
              go_upto_region 7 with (first | (go_at_call 61; (with_reducible refine (HC.out _).mono ?_); rintro e w1 ⟨rfl, N1⟩) | fail)
              go_cut [61] from 8 to 70 (fun v wx => v = .bool false ∧ Hid (Below wo.heap.size wo wx))
              case first =>
                go_region_held3 (fun _ => True) (trivial)
                  (first
                    | (go_at_call 61; (with_reducible refine (HR.out _).mono ?_); rintro e u1 ⟨rfl, N2⟩)
                    | (go_at_call 62; (with_reducible refine (HS.out _ _ ?c0 ?c1).mono ?_); (case c0 => first | (simp; done) | exact (N2.cell (by simp)).trans (by simp)); (case c1 => first | (simp; done) | exact (N2.cell (by simp)).trans (by simp)); rintro e u2 ⟨rfl, rfl⟩)
                    | fail)
                all_goals (go_wp2_with fail; go_meet)
                all_goals exact ⟨rfl, Lib.hid (by repeat (first | with_reducible exact N1 | with_reducible refine below_then ?_ N2 | with_reducible refine nb_drew ?_ | with_reducible refine nb_alloc ?_ _))⟩
              case rest =>
                obtain ⟨rfl, hbx⟩ := hcut
                clear HR HS HC
                go_wp2_with (first | (at_builtin; refine wpList_append_own _ rfl _ _ 27 rfl w.heap.size 9 i0 (.string .empty) 1 16 Try.underlying27 hi hz0 hz1 hz2 rfl (by decide) _ P.length (strs P) rfl ?a1 ⟨wc.heap.size, 0, none⟩ 1 1 [.string (s.extract m l)] rfl rfl ?a2 ?a3 ?a4 ?a5 ?a6 ?_; rotate_right 1; intro v6 w6 hown6 hg6 hnil6; have HOWN6 := Lib.hid hown6; have HG6 := Lib.hid hg6; clear hown6 hg6 hnil6) | fail)
                case a1 => exact owns_below (owns_below hown.out hbx.out) (below1 _ _)
                case a2 =>
                  intro j u hu
                  rw [add_lit, Nat.zero_add, cell_of_row _ _ _ _ 9 _ (heap_alloc_new wc _)]
                  simpa using hu
                case a3 =>
                  intro u hu
                  simp at hu
                  rcases hu with rfl
                  rfl
                case a4 => have := HLEN.out; unfold maxLen; omega
                case a5 => have := HLEN.out; omega
                case a6 => have := hbl.out.size; have := hbx.out.size; simp; omega
                go_roundw
                case rel =>
                  have hbz := nb_alloc (below_then hbl.out hbx.out) (.cells #[.string (s.extract m l)] 9)
                  have HN := hat.out.next HO.out
                  obtain ⟨f1, f2, f3⟩ := HF.out
                  have HB2 := HBS.out
                  rw [HB2] at HN
                  refine ⟨P ++ [s.extract m l], a + 9 + n, by go_num, f1, Lib.hid HN, ?_, ?_⟩
                  · rw [strs_one, List.length_append, List.length_singleton]
                    exact HOWN6
                  · exact Lib.hid (below_grown hbz (owns_below (owns_below hown.out hbx.out) (below1 _ _)) HG6.out)
                case measure => have := HF.out; simp [intOf]; omega
            · have HO : Hid (oneAt s a = none) := Lib.hid (by rw [hone, if_neg (fun h => hlast h.1)])
              have P1 : ¬ ((s[l]'hls).toNat : Int) = 255 := by omega
              have P2 : (((s[l]'hls).toNat : Int) != 255) = true := by rw [bne_iff_ne]; exact P1
              have P3 : (((s[l]'hls).toNat : Int) == 255) = false := by rw [beq_eq_false_iff_ne]; exact P1
              clear hone hlast hbs
              go_upto_region 7 with (first | (go_at_call 61; (with_reducible refine (HC.out _).mono ?_); rintro e w1 ⟨rfl, N1⟩) | fail)
              go_cut [61] from 8 to 70 (fun v wx => v = .bool true ∧ Hid (Below wo.heap.size wo wx))
              case first =>
                go_region_held3 (fun _ => True) (trivial)
                  (first
                    | (go_at_call 61; (with_reducible refine (HR.out _).mono ?_); rintro e u1 ⟨rfl, N2⟩)
                    | (go_at_call 62; (with_reducible refine (HS.out _ _ ?c0 ?c1).mono ?_); (case c0 => first | (simp; done) | exact (N2.cell (by simp)).trans (by simp)); (case c1 => first | (simp; done) | exact (N2.cell (by simp)).trans (by simp)); rintro e u2 ⟨rfl, rfl⟩)
                    | fail)
                all_goals (go_wp2_with fail; go_meet)
                all_goals exact ⟨rfl, Lib.hid (by repeat (first | with_reducible exact N1 | with_reducible refine below_then ?_ N2 | with_reducible refine nb_drew ?_ | with_reducible refine nb_alloc ?_ _))⟩
              case rest =>
                obtain ⟨rfl, hbx⟩ := hcut
                go_wp2_with fail
                go_ret2
                exact scan_done hat.out HO.out hown.out hbl.out hbx.out
          · have HO : Hid (oneAt s a = none) := Lib.hid (by rw [hone, if_neg (fun h => hsum h.2)])
            have P1 : ¬ (x : Int) = (y : Int) := by omega
            have P2 : ((x : Int) != (y : Int)) = true := by rw [bne_iff_ne]; exact P1
            have P3 : ((x : Int) == (y : Int)) = false := by rw [beq_eq_false_iff_ne]; exact P1
            clear hone hsum hbs
            go_upto_region 7 with (first | (go_at_call 61; (with_reducible refine (HC.out _).mono ?_); rintro e w1 ⟨rfl, N1⟩) | fail)
            go_cut [61] from 8 to 70 (fun v wx => v = .bool true ∧ Hid (Below wo.heap.size wo wx))
            case first =>
              refine wp_region_noPanic ?_
              refine wp_region_held_drew (S := fun _ => True) (by kernel_rfl) trivial (fun _ => ?_)
              refine wpAnyH_take (i := 0) (oi := ⟨some 38, .move (.tmp 0), _, _, _, none⟩) (v := ?_) rfl (by kernel_rfl) (by kernel_rfl) (by kernel_rfl) (fun _ _ _ h => h) (Or.inl ⟨by rfl, ?_⟩) trivial ?_
              rotate_left
              · (intro w hSw; (try dsimp only at hSw); go_simp; try with_reducible rfl)
              try simp only [Act.put, List.setIfInBounds_toArray, List.set_cons_zero, List.set_cons_succ]
              refine wpAnyH_take (i := 1) (oi := ⟨some 39, .move (.tmp 4), _, _, _, none⟩) (v := ?_) rfl (by kernel_rfl) (by kernel_rfl) (by kernel_rfl) (fun _ _ _ h => h) (Or.inl ⟨by rfl, ?_⟩) trivial ?_
              rotate_left
              · (intro w hSw; (try dsimp only at hSw); go_simp; try with_reducible rfl)
              try simp only [Act.put, List.setIfInBounds_toArray, List.set_cons_zero, List.set_cons_succ]
              refine wpAnyH_take (i := 2) (oi := ⟨some 40, .binOp .add 3 (.tmp 39) (.const (.int .i64 4)) 3, _, _, _, none⟩) (v := ?_) rfl (by kernel_rfl) (by kernel_rfl) (by kernel_rfl) (fun _ _ _ h => h) (Or.inl ⟨by rfl, ?_⟩) trivial ?_
              rotate_left
              · (intro w hSw; (try dsimp only at hSw); go_simp; try with_reducible rfl)
              try simp only [Act.put, List.setIfInBounds_toArray, List.set_cons_zero, List.set_cons_succ]
              refine wpAnyH_take (i := 3) (oi := ⟨some 41, .slice 9 (.tmp 38) (some (.tmp 40)) none none, _, _, _, none⟩) (v := ?_) rfl (by kernel_rfl) (by kernel_rfl) (by kernel_rfl) (fun _ _ _ h => h) (Or.inl ⟨by rfl, ?_⟩) trivial ?_
              rotate_left
              · (intro w hSw; (try dsimp only at hSw); go_simp; try with_reducible rfl)
              try simp only [Act.put, List.setIfInBounds_toArray, List.set_cons_zero, List.set_cons_succ]
              refine wpAnyH_take (i := 5) (oi := ⟨some 43, .move (.tmp 0), _, _, _, none⟩) (v := ?_) rfl (by kernel_rfl) (by kernel_rfl) (by kernel_rfl) (fun _ _ _ h => h) (Or.inl ⟨by rfl, ?_⟩) trivial ?_
              rotate_left
              · (intro w hSw; (try dsimp only at hSw); go_simp; try with_reducible rfl)
              try simp only [Act.put, List.setIfInBounds_toArray, List.set_cons_zero, List.set_cons_succ]
              refine wpAnyH_take (i := 6) (oi := ⟨some 44, .move (.tmp 4), _, _, _, none⟩) (v := ?_) rfl (by kernel_rfl) (by kernel_rfl) (by kernel_rfl) (fun _ _ _ h => h) (Or.inl ⟨by rfl, ?_⟩) trivial ?_
              rotate_left
              · (intro w hSw; (try dsimp only at hSw); go_simp; try with_reducible rfl)
              try simp only [Act.put, List.setIfInBounds_toArray, List.set_cons_zero, List.set_cons_succ]
              refine wpAnyH_take (i := 7) (oi := ⟨some 45, .move (.tmp 4), _, _, _, none⟩) (v := ?_) rfl (by kernel_rfl) (by kernel_rfl) (by kernel_rfl) (fun _ _ _ h => h) (Or.inl ⟨by rfl, ?_⟩) trivial ?_
              rotate_left
              · (intro w hSw; (try dsimp only at hSw); go_simp; try with_reducible rfl)
              try simp only [Act.put, List.setIfInBounds_toArray, List.set_cons_zero, List.set_cons_succ]
              refine wpAnyH_take (i := 8) (oi := ⟨some 46, .binOp .add 3 (.tmp 45) (.const (.int .i64 4)) 3, _, _, _, none⟩) (v := ?_) rfl (by kernel_rfl) (by kernel_rfl) (by kernel_rfl) (fun _ _ _ h => h) (Or.inl ⟨by rfl, ?_⟩) trivial ?_
              rotate_left
              · (intro w hSw; (try dsimp only at hSw); go_simp; try with_reducible rfl)
              try simp only [Act.put, List.setIfInBounds_toArray, List.set_cons_zero, List.set_cons_succ]
              refine wpAnyH_take (i := 9) (oi := ⟨some 47, .slice 9 (.tmp 43) (some (.tmp 44)) (some (.tmp 46)) none, _, _, _, none⟩) (v := ?_) rfl (by kernel_rfl) (by kernel_rfl) (by kernel_rfl) (fun _ _ _ h => h) (Or.inl ⟨by rfl, ?_⟩) trivial ?_
              rotate_left
              · (intro w hSw; (try dsimp only at hSw); go_simp; try with_reducible rfl)
              try simp only [Act.put, List.setIfInBounds_toArray, List.set_cons_zero, List.set_cons_succ]
              refine wpAnyH_take (i := 10) (oi := ⟨some 48, .move (.tmp 7), _, _, _, none⟩) (v := ?_) rfl (by kernel_rfl) (by kernel_rfl) (by kernel_rfl) (fun _ _ _ h => h) (Or.inl ⟨by rfl, ?_⟩) trivial ?_
              rotate_left
              · (intro w hSw; (try dsimp only at hSw); go_simp; try with_reducible rfl)
              try simp only [Act.put, List.setIfInBounds_toArray, List.set_cons_zero, List.set_cons_succ]
              refine wpAnyH_ready (rs := [4, 11]) (by kernel_rfl) (by simp) ?_
              refine AllReadyH.cons (o := ⟨some 42, .call { callee := .value (.func 61), args := #[.tmp 41], argTypes := #[9] }, _, _, _, none⟩) rfl (fun K hK => ?_) ?_
              · go_simp
                go_at_call 61
                with_reducible refine (HR.out _).mono ?_
                rintro e u1 ⟨rfl, N2⟩
                refine hK.out _ _ trivial (fun _ => ?_)
                clear hK K
                try simp only [Act.put, List.setIfInBounds_toArray, List.set_cons_zero, List.set_cons_succ]
                refine wpAnyH_ready (rs := [11]) (by kernel_rfl) (by simp) ?_
                refine AllReadyH.cons (o := ⟨some 49, .buildSlice 27 2 #[(0, .tmp 47), (1, .tmp 48)], _, _, _, none⟩) rfl (fun K hK => ?_) ?_
                rotate_left
                · exact AllReadyH.nil
                go_simp
                refine hK.out _ _ trivial (fun _ => ?_)
                clear hK K
                try simp only [Act.put, List.setIfInBounds_toArray, List.set_cons_zero, List.set_cons_succ]
                refine wpAnyH_ready (rs := [12]) (by kernel_rfl) (by simp) ?_
                refine AllReadyH.cons (o := ⟨some 50, .call { callee := .value (.func 62), args := #[.tmp 49], argTypes := #[27] }, _, _, _, none⟩) rfl (fun K hK => ?_) ?_
                rotate_left
                · exact AllReadyH.nil
                go_simp
                go_at_call 62
                with_reducible refine (HS.out _ _ ?c0 ?c1).mono ?_
                case c0 => first | (simp; done) | exact (N2.cell (by simp)).trans (by simp)
                case c1 => first | (simp; done) | exact (N2.cell (by simp)).trans (by simp)
                rintro e u2 ⟨rfl, rfl⟩
                refine hK.out _ _ trivial (fun _ => ?_)
                clear hK K
                try simp only [Act.put, List.setIfInBounds_toArray, List.set_cons_zero, List.set_cons_succ]
                refine wpAnyH_take (i := 13) (oi := ⟨some 51, .binOp .neq 107 (.tmp 42) (.tmp 50) 107, _, _, _, none⟩) (v := ?_) rfl (by kernel_rfl) (by kernel_rfl) (by kernel_rfl) (fun _ _ _ h => h) (Or.inl ⟨by rfl, ?_⟩) trivial ?_
                rotate_left
                · (intro w hSw; (try dsimp only at hSw); go_simp; try with_reducible rfl)
                try simp only [Act.put, List.setIfInBounds_toArray, List.set_cons_zero, List.set_cons_succ]
                refine wpAnyH_take (i := 14) (oi := ⟨some 52, .move (.tmp 51), _, _, _, none⟩) (v := ?_) rfl (by kernel_rfl) (by kernel_rfl) (by kernel_rfl) (fun _ _ _ h => h) (Or.inl ⟨by rfl, ?_⟩) trivial ?_
                rotate_left
                · (intro w hSw; (try dsimp only at hSw); go_simp; try with_reducible rfl)
                try simp only [Act.put, List.setIfInBounds_toArray, List.set_cons_zero, List.set_cons_succ]
                refine wpAnyH_take (i := 15) (oi := ⟨some 53, .move (.tmp 0), _, _, _, some (14, false)⟩) (v := undef) rfl (by kernel_rfl) (by kernel_rfl) (by kernel_rfl) (fun _ _ _ h => h) (Or.inr ⟨by rfl, rfl⟩) trivial ?_
                try simp only [Act.put, List.setIfInBounds_toArray, List.set_cons_zero, List.set_cons_succ]
                refine wpAnyH_take (i := 16) (oi := ⟨some 54, .move (.tmp 4), _, _, _, some (14, false)⟩) (v := undef) rfl (by kernel_rfl) (by kernel_rfl) (by kernel_rfl) (fun _ _ _ h => h) (Or.inr ⟨by rfl, rfl⟩) trivial ?_
                try simp only [Act.put, List.setIfInBounds_toArray, List.set_cons_zero, List.set_cons_succ]
                refine wpAnyH_take (i := 17) (oi := ⟨some 55, .binOp .add 3 (.tmp 54) (.const (.int .i64 8)) 3, _, _, _, some (14, false)⟩) (v := undef) rfl (by kernel_rfl) (by kernel_rfl) (by kernel_rfl) (fun _ _ _ h => h) (Or.inr ⟨by rfl, rfl⟩) trivial ?_
                try simp only [Act.put, List.setIfInBounds_toArray, List.set_cons_zero, List.set_cons_succ]
                refine wpAnyH_take (i := 18) (oi := ⟨some 56, .move (.tmp 6), _, _, _, some (14, false)⟩) (v := undef) rfl (by kernel_rfl) (by kernel_rfl) (by kernel_rfl) (fun _ _ _ h => h) (Or.inr ⟨by rfl, rfl⟩) trivial ?_
                try simp only [Act.put, List.setIfInBounds_toArray, List.set_cons_zero, List.set_cons_succ]
                refine wpAnyH_take (i := 19) (oi := ⟨some 57, .convert 107 3 (.tmp 56), _, _, _, some (14, false)⟩) (v := undef) rfl (by kernel_rfl) (by kernel_rfl) (by kernel_rfl) (fun _ _ _ h => h) (Or.inr ⟨by rfl, rfl⟩) trivial ?_
                try simp only [Act.put, List.setIfInBounds_toArray, List.set_cons_zero, List.set_cons_succ]
                refine wpAnyH_take (i := 20) (oi := ⟨some 58, .binOp .add 3 (.tmp 55) (.tmp 57) 3, _, _, _, some (14, false)⟩) (v := undef) rfl (by kernel_rfl) (by kernel_rfl) (by kernel_rfl) (fun _ _ _ h => h) (Or.inr ⟨by rfl, rfl⟩) trivial ?_
                try simp only [Act.put, List.setIfInBounds_toArray, List.set_cons_zero, List.set_cons_succ]
                refine wpAnyH_take (i := 21) (oi := ⟨some 59, .index 9 (.tmp 53) (.tmp 58), _, _, _, some (14, false)⟩) (v := undef) rfl (by kernel_rfl) (by kernel_rfl) (by kernel_rfl) (fun _ _ _ h => h) (Or.inr ⟨by rfl, rfl⟩) trivial ?_
                try simp only [Act.put, List.setIfInBounds_toArray, List.set_cons_zero, List.set_cons_succ]
                refine wpAnyH_take (i := 22) (oi := ⟨some 60, .binOp .neq 5 (.tmp 59) (.const (.int .u8 255)) 5, _, _, _, some (14, false)⟩) (v := undef) rfl (by kernel_rfl) (by kernel_rfl) (by kernel_rfl) (fun _ _ _ h => h) (Or.inr ⟨by rfl, rfl⟩) trivial ?_
                try simp only [Act.put, List.setIfInBounds_toArray, List.set_cons_zero, List.set_cons_succ]
                refine wpAnyH_take (i := 23) (oi := ⟨some 61, .pick (.tmp 52) (.const (.bool true)) (.tmp 60), _, _, _, none⟩) (v := ?_) rfl (by kernel_rfl) (by kernel_rfl) (by kernel_rfl) (fun _ _ _ h => h) (Or.inl ⟨by rfl, ?_⟩) trivial ?_
                rotate_left
                · (intro w hSw; (try dsimp only at hSw); go_simp; try with_reducible rfl)
                try simp only [Act.put, List.setIfInBounds_toArray, List.set_cons_zero, List.set_cons_succ]
                refine wpAnyH_done (by kernel_rfl) ?_ _
                refine NoPanic.normal ?_
                go_wp2_with fail
                go_meet
                exact ⟨rfl, Lib.hid (by repeat (first | with_reducible exact N1 | with_reducible refine below_then ?_ N2 | with_reducible refine nb_drew ?_ | with_reducible refine nb_alloc ?_ _))⟩
              refine AllReadyH.cons (o := ⟨some 49, .buildSlice 27 2 #[(0, .tmp 47), (1, .tmp 48)], _, _, _, none⟩) rfl (fun K hK => ?_) ?_
              · go_simp
                refine hK.out _ _ trivial (fun _ => ?_)
                clear hK K
                try simp only [Act.put, List.setIfInBounds_toArray, List.set_cons_zero, List.set_cons_succ]
                refine wpAnyH_ready (rs := [4]) (by kernel_rfl) (by simp) ?_
                refine AllReadyH.cons (o := ⟨some 42, .call { callee := .value (.func 61), args := #[.tmp 41], argTypes := #[9] }, _, _, _, none⟩) rfl (fun K hK => ?_) ?_
                rotate_left
                · exact AllReadyH.nil
                go_simp
                go_at_call 61
                with_reducible refine (HR.out _).mono ?_
                rintro e u1 ⟨rfl, N2⟩
                refine hK.out _ _ trivial (fun _ => ?_)
                clear hK K
                try simp only [Act.put, List.setIfInBounds_toArray, List.set_cons_zero, List.set_cons_succ]
                refine wpAnyH_ready (rs := [12]) (by kernel_rfl) (by simp) ?_
                refine AllReadyH.cons (o := ⟨some 50, .call { callee := .value (.func 62), args := #[.tmp 49], argTypes := #[27] }, _, _, _, none⟩) rfl (fun K hK => ?_) ?_
                rotate_left
                · exact AllReadyH.nil
                go_simp
                go_at_call 62
                with_reducible refine (HS.out _ _ ?c0 ?c1).mono ?_
                case c0 => first | (simp; done) | exact (N2.cell (by simp)).trans (by simp)
                case c1 => first | (simp; done) | exact (N2.cell (by simp)).trans (by simp)
                rintro e u2 ⟨rfl, rfl⟩
                refine hK.out _ _ trivial (fun _ => ?_)
                clear hK K
                try simp only [Act.put, List.setIfInBounds_toArray, List.set_cons_zero, List.set_cons_succ]
                refine wpAnyH_take (i := 13) (oi := ⟨some 51, .binOp .neq 107 (.tmp 42) (.tmp 50) 107, _, _, _, none⟩) (v := ?_) rfl (by kernel_rfl) (by kernel_rfl) (by kernel_rfl) (fun _ _ _ h => h) (Or.inl ⟨by rfl, ?_⟩) trivial ?_
                rotate_left
                · (intro w hSw; (try dsimp only at hSw); go_simp; try with_reducible rfl)
                try simp only [Act.put, List.setIfInBounds_toArray, List.set_cons_zero, List.set_cons_succ]
                refine wpAnyH_take (i := 14) (oi := ⟨some 52, .move (.tmp 51), _, _, _, none⟩) (v := ?_) rfl (by kernel_rfl) (by kernel_rfl) (by kernel_rfl) (fun _ _ _ h => h) (Or.inl ⟨by rfl, ?_⟩) trivial ?_
                rotate_left
                · (intro w hSw; (try dsimp only at hSw); go_simp; try with_reducible rfl)
                try simp only [Act.put, List.setIfInBounds_toArray, List.set_cons_zero, List.set_cons_succ]
                refine wpAnyH_take (i := 15) (oi := ⟨some 53, .move (.tmp 0), _, _, _, some (14, false)⟩) (v := undef) rfl (by kernel_rfl) (by kernel_rfl) (by kernel_rfl) (fun _ _ _ h => h) (Or.inr ⟨by rfl, rfl⟩) trivial ?_
                try simp only [Act.put, List.setIfInBounds_toArray, List.set_cons_zero, List.set_cons_succ]
                refine wpAnyH_take (i := 16) (oi := ⟨some 54, .move (.tmp 4), _, _, _, some (14, false)⟩) (v := undef) rfl (by kernel_rfl) (by kernel_rfl) (by kernel_rfl) (fun _ _ _ h => h) (Or.inr ⟨by rfl, rfl⟩) trivial ?_
                try simp only [Act.put, List.setIfInBounds_toArray, List.set_cons_zero, List.set_cons_succ]
                refine wpAnyH_take (i := 17) (oi := ⟨some 55, .binOp .add 3 (.tmp 54) (.const (.int .i64 8)) 3, _, _, _, some (14, false)⟩) (v := undef) rfl (by kernel_rfl) (by kernel_rfl) (by kernel_rfl) (fun _ _ _ h => h) (Or.inr ⟨by rfl, rfl⟩) trivial ?_
                try simp only [Act.put, List.setIfInBounds_toArray, List.set_cons_zero, List.set_cons_succ]
                refine wpAnyH_take (i := 18) (oi := ⟨some 56, .move (.tmp 6), _, _, _, some (14, false)⟩) (v := undef) rfl (by kernel_rfl) (by kernel_rfl) (by kernel_rfl) (fun _ _ _ h => h) (Or.inr ⟨by rfl, rfl⟩) trivial ?_
                try simp only [Act.put, List.setIfInBounds_toArray, List.set_cons_zero, List.set_cons_succ]
                refine wpAnyH_take (i := 19) (oi := ⟨some 57, .convert 107 3 (.tmp 56), _, _, _, some (14, false)⟩) (v := undef) rfl (by kernel_rfl) (by kernel_rfl) (by kernel_rfl) (fun _ _ _ h => h) (Or.inr ⟨by rfl, rfl⟩) trivial ?_
                try simp only [Act.put, List.setIfInBounds_toArray, List.set_cons_zero, List.set_cons_succ]
                refine wpAnyH_take (i := 20) (oi := ⟨some 58, .binOp .add 3 (.tmp 55) (.tmp 57) 3, _, _, _, some (14, false)⟩) (v := undef) rfl (by kernel_rfl) (by kernel_rfl) (by kernel_rfl) (fun _ _ _ h => h) (Or.inr ⟨by rfl, rfl⟩) trivial ?_
                try simp only [Act.put, List.setIfInBounds_toArray, List.set_cons_zero, List.set_cons_succ]
                refine wpAnyH_take (i := 21) (oi := ⟨some 59, .index 9 (.tmp 53) (.tmp 58), _, _, _, some (14, false)⟩) (v := undef) rfl (by kernel_rfl) (by kernel_rfl) (by kernel_rfl) (fun _ _ _ h => h) (Or.inr ⟨by rfl, rfl⟩) trivial ?_
                try simp only [Act.put, List.setIfInBounds_toArray, List.set_cons_zero, List.set_cons_succ]
                refine wpAnyH_take (i := 22) (oi := ⟨some 60, .binOp .neq 5 (.tmp 59) (.const (.int .u8 255)) 5, _, _, _, some (14, false)⟩) (v := undef) rfl (by kernel_rfl) (by kernel_rfl) (by kernel_rfl) (fun _ _ _ h => h) (Or.inr ⟨by rfl, rfl⟩) trivial ?_
                try simp only [Act.put, List.setIfInBounds_toArray, List.set_cons_zero, List.set_cons_succ]
                refine wpAnyH_take (i := 23) (oi := ⟨some 61, .pick (.tmp 52) (.const (.bool true)) (.tmp 60), _, _, _, none⟩) (v := ?_) rfl (by kernel_rfl) (by kernel_rfl) (by kernel_rfl) (fun _ _ _ h => h) (Or.inl ⟨by rfl, ?_⟩) trivial ?_
                rotate_left
                · (intro w hSw; (try dsimp only at hSw); go_simp; try with_reducible rfl)
                try simp only [Act.put, List.setIfInBounds_toArray, List.set_cons_zero, List.set_cons_succ]
                refine wpAnyH_done (by kernel_rfl) ?_ _
                refine NoPanic.normal ?_
                go_wp2_with fail
                go_meet
                exact ⟨rfl, Lib.hid (by repeat (first | with_reducible exact N1 | with_reducible refine below_then ?_ N2 | with_reducible refine nb_drew ?_ | with_reducible refine nb_alloc ?_ _))⟩
              exact AllReadyH.nil
            case rest =>
              obtain ⟨rfl, hbx⟩ := hcut
              go_wp2_with fail
              go_ret2
              exact scan_done hat.out HO.out hown.out hbl.out hbx.out
        · have HO : Hid (oneAt s a = none) := Lib.hid (by unfold oneAt; rw [if_neg (fun h => ho h.2.2)])
          obtain ⟨n, hnn⟩ : ∃ n, rd4 s a = n := ⟨_, rfl⟩
          rw [hnn] at hn HC ho
          clear hnn
          have g1 : ¬ (131072 : Int) < (n : Int) := by omega
          have g2 : (s.size : Int) - (a : Int) - 9 < (n : Int) := by omega
          go_wp2_with (first | (go_at_call 61; (with_reducible refine (HC.out _).mono ?_); rintro e w1 ⟨rfl, hb1⟩; have HB1 := Lib.hid hb1; clear hb1) | fail)
          go_ret2
          exact scan_done hat.out HO.out hown.out hbl.out HB1.out
      · have HO : Hid (oneAt s a = none) := Lib.hid (by unfold oneAt; rw [if_neg (fun h => hn h.2.1)])
        have hl := rd4_lt s a
        obtain ⟨n, hnn⟩ : ∃ n, rd4 s a = n := ⟨_, rfl⟩
        rw [hnn] at hn HC hl
        clear hnn
        have g1 : (131072 : Int) < (n : Int) := by omega
        go_wp2_with (first | (go_at_call 61; (with_reducible refine (HC.out _).mono ?_); rintro e w1 ⟨rfl, hb1⟩; have HB1 := Lib.hid hb1; clear hb1) | fail)
        go_ret2
        exact scan_done hat.out HO.out hown.out hbl.out HB1.out
    · have HO : Hid (oneAt s a = none) := Lib.hid (by unfold oneAt; rw [if_neg (fun h => h9 h.1)])
      have k1 : ¬ (9 : Int) ≤ (s.size : Int) - (a : Int) := by omega
      go_wp2_with fail
      go_ret2
      unfold ScanPost
      rw [hat.out.over HO.out]
      exact ⟨_, rfl, hown.out, hbl.out⟩

end Go.Proofs.Ytkecjopojnllnaa
