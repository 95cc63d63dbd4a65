/- Bits of a word. -/
import Derived.Test.YtnbpadnbmbdfeaaDoorRows
import Derived.Below
import Derived.Deep.Draws
import Derived.Deep.Slices
import Derived.BigQuiet
import Derived.Carry
import Derived.ChangeMaps
import Derived.Deep.DeepCutAuto
import Derived.Deep.RegionHeld3
import Derived.Deep.RegionWith
import Derived.IntWalk
import Derived.Laws.BitsAllLaws
import Derived.Lib.Hide
import Derived.Lib.SmallJoins
import Derived.OpenShut
import Derived.ProofKit
import Derived.SizedLaws
import Derived.WalkKit
import Derived.WalkLawsBesides
namespace Go.Proofs.YtnbpadnbmbdfeaaDoor
open Go.RowKit Go.Deep Go.Joins

theorem ret_bool {a b : Bool} (h : a = b) : Ending.returned (.bool a) = .returned (.bool b) := by rw [h]
theorem ret_int {k : IntKind} {a b : Int} (h : a = b) : Ending.returned (.int k a) = .returned (.int k b) := by rw [h]
theorem below1 (w : World) (a : Obj) : Below w.heap.size w (w.alloc a) := (Below.refl _ _).alloc (Nat.le_refl _) _
theorem below_then {w w1 w2 : World} (h : Below w.heap.size w w1) (h2 : Below w1.heap.size w1 w2) : Below w.heap.size w w2 := h.trans (h2.mono h.size)
/-- So many bits of a word, from one on. -/
def cutN (w l k : Nat) : Nat := w / 2 ^ l % 2 ^ k
theorem cutN_lt (w l k : Nat) : cutN w l k < 2 ^ k := Nat.mod_lt _ (Nat.two_pow_pos k)
theorem cut_bits (w h l : Nat) (hl : l ≤ h) (hh : h ≤ 31) : w * 2 ^ (31 - h) % 4294967296 / 2 ^ (31 - h + l) = cutN w l (h + 1 - l) := by
  unfold cutN
  have e : (4294967296 : Nat) = 2 ^ (h + 1) * 2 ^ (31 - h) := by
    rw [← Nat.pow_add, show h + 1 + (31 - h) = 32 by omega]
  rw [e, Nat.mul_mod_mul_right, Nat.pow_add 2 (31 - h) l, ← Nat.div_div_eq_div_mul, Nat.mul_div_cancel _ (Nat.two_pow_pos _)]
  rw [show (2 : Nat) ^ (h + 1) = 2 ^ l * 2 ^ (h + 1 - l) by rw [← Nat.pow_add, show l + (h + 1 - l) = h + 1 by omega]]
  rw [Nat.mod_mul_right_div_self]
set_option maxHeartbeats 400000 in
theorem bits_gen (w h l : Nat) (W : World) (hh : h ≤ 31) (hl : l ≤ h) :
    Calls Tryd.prog 24 #[.int .u32 w, .int .u64 h, .int .u64 l] W fun e W' => e = .returned (.int .u32 (cutN w l (h + 1 - l) : Nat)) ∧ W = W' := by
  have E := Lib.hid (cut_bits w h l hl hh)
  have e1 : (31 - (h : Int)).toNat = 31 - h := by omega
  have e2 : (31 - (h : Int) + (l : Int)).toNat = 31 - h + l := by omega
  go_enter Tryd.func24, Tryd.ntmps24
  go_wp2
  go_ret
  refine ⟨ret_int ?_, rfl⟩
  rw [← E.out]
  simp only [Int.natCast_ediv, Int.natCast_emod, Int.natCast_mul, Int.natCast_pow, Int.cast_ofNat_Int]
theorem mask_cut (w l k : Nat) (hw : w < 4294967296) (hk : k < 32) : bits .and .u32 ((w / 2 ^ l : Nat) : Int) ((2 ^ k - 1 : Nat) : Int) = (cutN w l k : Nat) := by
  have h1 : w / 2 ^ l ≤ w := Nat.div_le_self _ _
  have h2 : 2 ^ k ≤ 2 ^ 31 := Nat.pow_le_pow_right (by omega) (by omega)
  rw [u32_and_nat _ _ (by omega) (by omega), Nat.and_two_pow_sub_one_eq_mod]
  rfl
set_option maxHeartbeats 400000 in
theorem cut_gen (w l k : Nat) (W : World) (hw : w < 4294967296) (hl : l ≤ 31) (hk : k < 32) :
    Calls Tryd.prog 12 #[.int .u32 w, .int .u64 l, .int .u64 k] W fun e W' => e = .returned (.int .u32 (cutN w l k : Nat)) ∧ W = W' := by
  have E := Lib.hid (mask_cut w l k hw hk)
  have h2 : (2 : Nat) ^ k ≤ 2 ^ 31 := Nat.pow_le_pow_right (by omega) (by omega)
  have h0 : (0 : Nat) < 2 ^ k := Nat.two_pow_pos k
  have HH := Lib.hid (And.intro h2 h0)
  clear h2 h0
  go_enter Tryd.func12, Tryd.ntmps12
  go_wp2
  go_ret
  refine ⟨ret_int ?_, rfl⟩
  rw [← E.out]
  obtain ⟨h2, h0⟩ := HH.out
  have e : ((2 : Int) ^ k - 1) % 4294967296 = ((2 ^ k - 1 : Nat) : Int) := by
    have : ((2 ^ k : Nat) : Int) = (2 : Int) ^ k := by simp only [Int.natCast_pow, Int.cast_ofNat_Int]
    rw [← this]
    omega
  rw [e]
  simp only [Int.natCast_ediv, Int.natCast_pow, Int.cast_ofNat_Int]
def wideI (n k : Nat) : Int := if n < 2 ^ (k - 1) then n else (n : Int) - 2 ^ k
set_option maxHeartbeats 400000 in
theorem wide12 (n : Nat) (W : World) (hn : n < 4096) :
    Calls Tryd.prog 15 #[.int .u32 n, .int .u64 12] W fun e W' => e = .returned (.int .i64 (wideI n 12)) ∧ W = W' := by
  go_enter Tryd.func15, Tryd.ntmps15
  go_wp2
  go_ret
  refine ⟨ret_int ?_, rfl⟩
  unfold wideI wrap64 wrap32
  split <;> simp at * <;> omega
set_option maxHeartbeats 400000 in
theorem wide13 (n : Nat) (W : World) (hn : n < 8192) :
    Calls Tryd.prog 15 #[.int .u32 n, .int .u64 13] W fun e W' => e = .returned (.int .i64 (wideI n 13)) ∧ W = W' := by
  go_enter Tryd.func15, Tryd.ntmps15
  go_wp2
  go_ret
  refine ⟨ret_int ?_, rfl⟩
  unfold wideI wrap64 wrap32
  split <;> simp at * <;> omega
set_option maxHeartbeats 400000 in
theorem wide21 (n : Nat) (W : World) (hn : n < 2097152) :
    Calls Tryd.prog 15 #[.int .u32 n, .int .u64 21] W fun e W' => e = .returned (.int .i64 (wideI n 21)) ∧ W = W' := by
  go_enter Tryd.func15, Tryd.ntmps15
  go_wp2
  go_ret
  refine ⟨ret_int ?_, rfl⟩
  unfold wideI wrap64 wrap32
  split <;> simp at * <;> omega
theorem orN {a b i : Nat} (h : b < 2 ^ i) : a * 2 ^ i ||| b = a * 2 ^ i + b := by
  rw [Nat.mul_comm, ← Nat.two_pow_add_eq_or_of_lt h]
theorem or_u32 {a b : Nat} (i : Nat) (h : b < 2 ^ i) (h1 : a * 2 ^ i + b < 4294967296) : bits .or .u32 ((a * 2 ^ i : Nat) : Int) (b : Int) = ((a * 2 ^ i + b : Nat) : Int) := by
  rw [u32_or_nat _ _ (by omega) (by omega), orN h]
theorem or_i64 {b i : Nat} (h : b < 2 ^ i) (hi : i ≤ 62) : bits .or .i64 (-((2 ^ i : Nat) : Int)) (b : Int) = (b : Int) - ((2 ^ i : Nat) : Int) := by
  have hp : (2 : Nat) ^ i ≤ 2 ^ 62 := Nat.pow_le_pow_right (by omega) hi
  have h0 : (0 : Nat) < 2 ^ i := Nat.two_pow_pos i
  show IntKind.i64.wrap ((BitVec.ofInt 64 (-((2 ^ i : Nat) : Int)) ||| BitVec.ofInt 64 (b : Int)).toNat : Int) = _
  have e1 : (BitVec.ofInt 64 (-((2 ^ i : Nat) : Int))).toNat = (2 ^ (64 - i) - 1) * 2 ^ i := by
    have hm : (2 ^ (64 - i)) * 2 ^ i = (2 : Nat) ^ 64 := by rw [← Nat.pow_add, show 64 - i + i = 64 by omega]
    rw [Nat.sub_mul, hm, BitVec.toNat_ofInt]
    omega
  have e2 : (BitVec.ofInt 64 (b : Int)).toNat = b := by
    rw [BitVec.ofInt_natCast, BitVec.toNat_ofNat]; exact Nat.mod_eq_of_lt (by omega)
  have hm : (2 ^ (64 - i)) * 2 ^ i = (2 : Nat) ^ 64 := by rw [← Nat.pow_add, show 64 - i + i = 64 by omega]
  rw [BitVec.toNat_or, e1, e2, orN h, Nat.sub_mul, hm, IntKind.wrap_i64]
  omega
/-- The sign's places above a number. -/
theorem sgn_or {s f : Nat} (i : Nat) (hs : s ≤ 1) (h : f < 2 ^ i) (hi : i ≤ 62) : bits .or .i64 (-(s : Int) * ((2 ^ i : Nat) : Int)) (f : Int) = (f : Int) - ((2 ^ i : Nat) : Int) * (s : Int) := by
  have hp : (2 : Nat) ^ i ≤ 2 ^ 62 := Nat.pow_le_pow_right (by omega) hi
  rcases (show s = 0 ∨ s = 1 by omega) with rfl | rfl
  · show IntKind.i64.wrap ((BitVec.ofInt 64 (-((0 : Nat) : Int) * ((2 ^ i : Nat) : Int)) ||| BitVec.ofInt 64 (f : Int)).toNat : Int) = _
    have e2 : (BitVec.ofInt 64 (f : Int)).toNat = f := by
      rw [BitVec.ofInt_natCast, BitVec.toNat_ofNat]; exact Nat.mod_eq_of_lt (by omega)
    rw [BitVec.toNat_or, e2, show -((0 : Nat) : Int) * ((2 ^ i : Nat) : Int) = 0 by simp, show (BitVec.ofInt 64 0).toNat = 0 by rfl, Nat.zero_or, IntKind.wrap_i64]
    omega
  · rw [show -((1 : Nat) : Int) * ((2 ^ i : Nat) : Int) = -((2 ^ i : Nat) : Int) by omega, or_i64 h hi]
    omega
theorem bits_14_12 (w : Nat) (W : World) : Calls Tryd.prog 24 #[.int .u32 w, .int .u64 14, .int .u64 12] W fun e W' => e = .returned (.int .u32 (cutN w 12 3 : Nat)) ∧ W = W' := bits_gen w 14 12 W (by omega) (by omega)
theorem bits_6_0 (w : Nat) (W : World) : Calls Tryd.prog 24 #[.int .u32 w, .int .u64 6, .int .u64 0] W fun e W' => e = .returned (.int .u32 (cutN w 0 7 : Nat)) ∧ W = W' := bits_gen w 6 0 W (by omega) (by omega)
theorem bits_31_26 (w : Nat) (W : World) : Calls Tryd.prog 24 #[.int .u32 w, .int .u64 31, .int .u64 26] W fun e W' => e = .returned (.int .u32 (cutN w 26 6 : Nat)) ∧ W = W' := bits_gen w 31 26 W (by omega) (by omega)
theorem bits_25_20 (w : Nat) (W : World) : Calls Tryd.prog 24 #[.int .u32 w, .int .u64 25, .int .u64 20] W fun e W' => e = .returned (.int .u32 (cutN w 20 6 : Nat)) ∧ W = W' := bits_gen w 25 20 W (by omega) (by omega)
theorem bits_31_25 (w : Nat) (W : World) : Calls Tryd.prog 24 #[.int .u32 w, .int .u64 31, .int .u64 25] W fun e W' => e = .returned (.int .u32 (cutN w 25 7 : Nat)) ∧ W = W' := bits_gen w 31 25 W (by omega) (by omega)
theorem bits_24_20 (w : Nat) (W : World) : Calls Tryd.prog 24 #[.int .u32 w, .int .u64 24, .int .u64 20] W fun e W' => e = .returned (.int .u32 (cutN w 20 5 : Nat)) ∧ W = W' := bits_gen w 24 20 W (by omega) (by omega)
theorem bits_31_27 (w : Nat) (W : World) : Calls Tryd.prog 24 #[.int .u32 w, .int .u64 31, .int .u64 27] W fun e W' => e = .returned (.int .u32 (cutN w 27 5 : Nat)) ∧ W = W' := bits_gen w 31 27 W (by omega) (by omega)
theorem bits_31_20 (w : Nat) (W : World) : Calls Tryd.prog 24 #[.int .u32 w, .int .u64 31, .int .u64 20] W fun e W' => e = .returned (.int .u32 (cutN w 20 12 : Nat)) ∧ W = W' := bits_gen w 31 20 W (by omega) (by omega)
theorem bits_11_7 (w : Nat) (W : World) : Calls Tryd.prog 24 #[.int .u32 w, .int .u64 11, .int .u64 7] W fun e W' => e = .returned (.int .u32 (cutN w 7 5 : Nat)) ∧ W = W' := bits_gen w 11 7 W (by omega) (by omega)
theorem bits_19_15 (w : Nat) (W : World) : Calls Tryd.prog 24 #[.int .u32 w, .int .u64 19, .int .u64 15] W fun e W' => e = .returned (.int .u32 (cutN w 15 5 : Nat)) ∧ W = W' := bits_gen w 19 15 W (by omega) (by omega)
theorem bits_31_31 (w : Nat) (W : World) : Calls Tryd.prog 24 #[.int .u32 w, .int .u64 31, .int .u64 31] W fun e W' => e = .returned (.int .u32 (cutN w 31 1 : Nat)) ∧ W = W' := bits_gen w 31 31 W (by omega) (by omega)
theorem bits_7_7 (w : Nat) (W : World) : Calls Tryd.prog 24 #[.int .u32 w, .int .u64 7, .int .u64 7] W fun e W' => e = .returned (.int .u32 (cutN w 7 1 : Nat)) ∧ W = W' := bits_gen w 7 7 W (by omega) (by omega)
theorem bits_30_25 (w : Nat) (W : World) : Calls Tryd.prog 24 #[.int .u32 w, .int .u64 30, .int .u64 25] W fun e W' => e = .returned (.int .u32 (cutN w 25 6 : Nat)) ∧ W = W' := bits_gen w 30 25 W (by omega) (by omega)
theorem bits_11_8 (w : Nat) (W : World) : Calls Tryd.prog 24 #[.int .u32 w, .int .u64 11, .int .u64 8] W fun e W' => e = .returned (.int .u32 (cutN w 8 4 : Nat)) ∧ W = W' := bits_gen w 11 8 W (by omega) (by omega)
theorem bits_31_12 (w : Nat) (W : World) : Calls Tryd.prog 24 #[.int .u32 w, .int .u64 31, .int .u64 12] W fun e W' => e = .returned (.int .u32 (cutN w 12 20 : Nat)) ∧ W = W' := bits_gen w 31 12 W (by omega) (by omega)
theorem bits_19_12 (w : Nat) (W : World) : Calls Tryd.prog 24 #[.int .u32 w, .int .u64 19, .int .u64 12] W fun e W' => e = .returned (.int .u32 (cutN w 12 8 : Nat)) ∧ W = W' := bits_gen w 19 12 W (by omega) (by omega)
theorem bits_20_20 (w : Nat) (W : World) : Calls Tryd.prog 24 #[.int .u32 w, .int .u64 20, .int .u64 20] W fun e W' => e = .returned (.int .u32 (cutN w 20 1 : Nat)) ∧ W = W' := bits_gen w 20 20 W (by omega) (by omega)
theorem bits_30_21 (w : Nat) (W : World) : Calls Tryd.prog 24 #[.int .u32 w, .int .u64 30, .int .u64 21] W fun e W' => e = .returned (.int .u32 (cutN w 21 10 : Nat)) ∧ W = W' := bits_gen w 30 21 W (by omega) (by omega)
theorem cut_12_3 (w : Nat) (W : World) (hw : w < 4294967296) : Calls Tryd.prog 12 #[.int .u32 w, .int .u64 12, .int .u64 3] W fun e W' => e = .returned (.int .u32 (cutN w 12 3 : Nat)) ∧ W = W' := cut_gen w 12 3 W hw (by omega) (by omega)
theorem cut_7_5 (w : Nat) (W : World) (hw : w < 4294967296) : Calls Tryd.prog 12 #[.int .u32 w, .int .u64 7, .int .u64 5] W fun e W' => e = .returned (.int .u32 (cutN w 7 5 : Nat)) ∧ W = W' := cut_gen w 7 5 W hw (by omega) (by omega)
theorem cut_15_5 (w : Nat) (W : World) (hw : w < 4294967296) : Calls Tryd.prog 12 #[.int .u32 w, .int .u64 15, .int .u64 5] W fun e W' => e = .returned (.int .u32 (cutN w 15 5 : Nat)) ∧ W = W' := cut_gen w 15 5 W hw (by omega) (by omega)
theorem cut_20_5 (w : Nat) (W : World) (hw : w < 4294967296) : Calls Tryd.prog 12 #[.int .u32 w, .int .u64 20, .int .u64 5] W fun e W' => e = .returned (.int .u32 (cutN w 20 5 : Nat)) ∧ W = W' := cut_gen w 20 5 W hw (by omega) (by omega)
theorem cut_0_7 (w : Nat) (W : World) (hw : w < 4294967296) : Calls Tryd.prog 12 #[.int .u32 w, .int .u64 0, .int .u64 7] W fun e W' => e = .returned (.int .u32 (cutN w 0 7 : Nat)) ∧ W = W' := cut_gen w 0 7 W hw (by omega) (by omega)
theorem cut_26_6 (w : Nat) (W : World) (hw : w < 4294967296) : Calls Tryd.prog 12 #[.int .u32 w, .int .u64 26, .int .u64 6] W fun e W' => e = .returned (.int .u32 (cutN w 26 6 : Nat)) ∧ W = W' := cut_gen w 26 6 W hw (by omega) (by omega)
theorem cut_20_6 (w : Nat) (W : World) (hw : w < 4294967296) : Calls Tryd.prog 12 #[.int .u32 w, .int .u64 20, .int .u64 6] W fun e W' => e = .returned (.int .u32 (cutN w 20 6 : Nat)) ∧ W = W' := cut_gen w 20 6 W hw (by omega) (by omega)
theorem cut_25_7 (w : Nat) (W : World) (hw : w < 4294967296) : Calls Tryd.prog 12 #[.int .u32 w, .int .u64 25, .int .u64 7] W fun e W' => e = .returned (.int .u32 (cutN w 25 7 : Nat)) ∧ W = W' := cut_gen w 25 7 W hw (by omega) (by omega)
theorem cut_20_12 (w : Nat) (W : World) (hw : w < 4294967296) : Calls Tryd.prog 12 #[.int .u32 w, .int .u64 20, .int .u64 12] W fun e W' => e = .returned (.int .u32 (cutN w 20 12 : Nat)) ∧ W = W' := cut_gen w 20 12 W hw (by omega) (by omega)
theorem cut_27_5 (w : Nat) (W : World) (hw : w < 4294967296) : Calls Tryd.prog 12 #[.int .u32 w, .int .u64 27, .int .u64 5] W fun e W' => e = .returned (.int .u32 (cutN w 27 5 : Nat)) ∧ W = W' := cut_gen w 27 5 W hw (by omega) (by omega)
theorem cut_31_1 (w : Nat) (W : World) (hw : w < 4294967296) : Calls Tryd.prog 12 #[.int .u32 w, .int .u64 31, .int .u64 1] W fun e W' => e = .returned (.int .u32 (cutN w 31 1 : Nat)) ∧ W = W' := cut_gen w 31 1 W hw (by omega) (by omega)
theorem cut_7_1 (w : Nat) (W : World) (hw : w < 4294967296) : Calls Tryd.prog 12 #[.int .u32 w, .int .u64 7, .int .u64 1] W fun e W' => e = .returned (.int .u32 (cutN w 7 1 : Nat)) ∧ W = W' := cut_gen w 7 1 W hw (by omega) (by omega)
theorem cut_25_6 (w : Nat) (W : World) (hw : w < 4294967296) : Calls Tryd.prog 12 #[.int .u32 w, .int .u64 25, .int .u64 6] W fun e W' => e = .returned (.int .u32 (cutN w 25 6 : Nat)) ∧ W = W' := cut_gen w 25 6 W hw (by omega) (by omega)
theorem cut_8_4 (w : Nat) (W : World) (hw : w < 4294967296) : Calls Tryd.prog 12 #[.int .u32 w, .int .u64 8, .int .u64 4] W fun e W' => e = .returned (.int .u32 (cutN w 8 4 : Nat)) ∧ W = W' := cut_gen w 8 4 W hw (by omega) (by omega)
theorem cut_12_8 (w : Nat) (W : World) (hw : w < 4294967296) : Calls Tryd.prog 12 #[.int .u32 w, .int .u64 12, .int .u64 8] W fun e W' => e = .returned (.int .u32 (cutN w 12 8 : Nat)) ∧ W = W' := cut_gen w 12 8 W hw (by omega) (by omega)
theorem cut_20_1 (w : Nat) (W : World) (hw : w < 4294967296) : Calls Tryd.prog 12 #[.int .u32 w, .int .u64 20, .int .u64 1] W fun e W' => e = .returned (.int .u32 (cutN w 20 1 : Nat)) ∧ W = W' := cut_gen w 20 1 W hw (by omega) (by omega)
theorem cut_21_10 (w : Nat) (W : World) (hw : w < 4294967296) : Calls Tryd.prog 12 #[.int .u32 w, .int .u64 21, .int .u64 10] W fun e W' => e = .returned (.int .u32 (cutN w 21 10 : Nat)) ∧ W = W' := cut_gen w 21 10 W hw (by omega) (by omega)
theorem lt_0_7 (w : Nat) : cutN w 0 7 < 128 := cutN_lt w 0 7
theorem lt_7_1 (w : Nat) : cutN w 7 1 < 2 := cutN_lt w 7 1
theorem lt_7_5 (w : Nat) : cutN w 7 5 < 32 := cutN_lt w 7 5
theorem lt_8_4 (w : Nat) : cutN w 8 4 < 16 := cutN_lt w 8 4
theorem lt_12_3 (w : Nat) : cutN w 12 3 < 8 := cutN_lt w 12 3
theorem lt_12_8 (w : Nat) : cutN w 12 8 < 256 := cutN_lt w 12 8
theorem lt_12_20 (w : Nat) : cutN w 12 20 < 1048576 := cutN_lt w 12 20
theorem lt_15_5 (w : Nat) : cutN w 15 5 < 32 := cutN_lt w 15 5
theorem lt_20_1 (w : Nat) : cutN w 20 1 < 2 := cutN_lt w 20 1
theorem lt_20_5 (w : Nat) : cutN w 20 5 < 32 := cutN_lt w 20 5
theorem lt_20_6 (w : Nat) : cutN w 20 6 < 64 := cutN_lt w 20 6
theorem lt_20_12 (w : Nat) : cutN w 20 12 < 4096 := cutN_lt w 20 12
theorem lt_21_10 (w : Nat) : cutN w 21 10 < 1024 := cutN_lt w 21 10
theorem lt_25_6 (w : Nat) : cutN w 25 6 < 64 := cutN_lt w 25 6
theorem lt_25_7 (w : Nat) : cutN w 25 7 < 128 := cutN_lt w 25 7
theorem lt_26_6 (w : Nat) : cutN w 26 6 < 64 := cutN_lt w 26 6
theorem lt_27_5 (w : Nat) : cutN w 27 5 < 32 := cutN_lt w 27 5
theorem lt_31_1 (w : Nat) : cutN w 31 1 < 2 := cutN_lt w 31 1

end Go.Proofs.YtnbpadnbmbdfeaaDoor
