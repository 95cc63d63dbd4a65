/- Bits of 32 bits. -/
import Derived.Test.YtgflnfmnjlmenaaYDVV
import Derived.Below
import Derived.Deep.Draws
import Derived.Deep.Slices
import Derived.BigQuiet
import Derived.Carry
import Derived.ChangeMaps
import Derived.ChangeKeysEq
import Derived.Deep.DeepCutAuto
import Derived.Deep.RegionHeld3
import Derived.Deep.RegionWith
import Derived.Deep.WholeRow
import Derived.IntWalk
import Derived.Laws.BitsAllLaws
import Derived.Laws.Bits64b
import Derived.Laws.Closers25b
import Derived.Laws.ResultCell
import Derived.Laws.CopyOwn
import Derived.Laws.StructEq
import Derived.Lib.Hide
import Derived.Lib.SmallJoins
import Derived.OpenShut
import Derived.ProofKit
import Derived.SizedLaws
import Derived.WalkKit
import Derived.WalkLawsBesides
namespace Go.Proofs.Ytgflnfmnjlmenaa.Pc
open Go.RowKit Go.Deep Go.Joins
theorem below_then {B : Nat} {a b c : World} (h : Below B a b) (hB : B ≤ a.heap.size) (k : Below b.heap.size b c) : Below B a c := h.trans (k.mono (Nat.le_trans hB h.size))
def U32 (x : Int) : Prop := 0 ≤ x ∧ x < 4294967296
/-- Bit i of a word. -/
def bitT (x : Int) (i : Nat) : Bool := (BitVec.ofInt 32 x).getLsbD i
theorem ofInt_wrap (y : BitVec 32) : BitVec.ofInt 32 (IntKind.u32.wrap (y.toNat : Int)) = y := by
  have h := y.isLt
  have e : IntKind.u32.wrap (y.toNat : Int) = (y.toNat : Int) := by rw [IntKind.wrap_u32]; omega
  rw [e, BitVec.ofInt_natCast]
  simp
theorem bv_and (a b : Int) : BitVec.ofInt 32 (bits .and .u32 a b) = BitVec.ofInt 32 a &&& BitVec.ofInt 32 b := ofInt_wrap _
theorem bv_or (a b : Int) : BitVec.ofInt 32 (bits .or .u32 a b) = BitVec.ofInt 32 a ||| BitVec.ofInt 32 b := ofInt_wrap _
theorem bv_andNot (a b : Int) : BitVec.ofInt 32 (bits .andNot .u32 a b) = BitVec.ofInt 32 a &&& ~~~BitVec.ofInt 32 b := ofInt_wrap _
theorem bit_and (a b : Int) (i : Nat) : bitT (bits .and .u32 a b) i = (bitT a i && bitT b i) := by unfold bitT; rw [bv_and, BitVec.getLsbD_and]
theorem bit_or (a b : Int) (i : Nat) : bitT (bits .or .u32 a b) i = (bitT a i || bitT b i) := by unfold bitT; rw [bv_or, BitVec.getLsbD_or]
theorem bit_andNot (a b : Int) (i : Nat) (hi : i < 32) : bitT (bits .andNot .u32 a b) i = (bitT a i && !bitT b i) := by
  unfold bitT
  rw [bv_andNot, BitVec.getLsbD_and, BitVec.getLsbD_not]
  simp [hi]
theorem u32_wrap (y : BitVec 32) : U32 (IntKind.u32.wrap (y.toNat : Int)) := by
  unfold U32
  rw [IntKind.wrap_u32]
  omega
theorem u32_and (a b : Int) : U32 (bits .and .u32 a b) := u32_wrap _
theorem u32_or (a b : Int) : U32 (bits .or .u32 a b) := u32_wrap _
theorem u32_andNot (a b : Int) : U32 (bits .andNot .u32 a b) := u32_wrap _
theorem bit_ext (a b : Int) (ha : U32 a) (hb : U32 b) (h : ∀ i, i < 32 → bitT a i = bitT b i) : a = b := by
  have e : BitVec.ofInt 32 a = BitVec.ofInt 32 b := BitVec.eq_of_getLsbD_eq fun i hi => h i hi
  obtain ⟨n, rfl⟩ := Int.eq_ofNat_of_zero_le ha.1
  obtain ⟨k, rfl⟩ := Int.eq_ofNat_of_zero_le hb.1
  have e2 := congrArg BitVec.toNat e
  rw [BitVec.ofInt_natCast, BitVec.ofInt_natCast, BitVec.toNat_ofNat, BitVec.toNat_ofNat] at e2
  have h1 := ha.2
  have h2 := hb.2
  omega
theorem bit_of (x : Int) (hx : U32 x) (i : Nat) (hi : i < 32) : bitT x i = decide (x / (2 : Int) ^ i % 2 = 1) := by
  obtain ⟨n, rfl⟩ := Int.eq_ofNat_of_zero_le hx.1
  have h := hx.2
  unfold bitT
  rw [BitVec.ofInt_natCast, BitVec.getLsbD_ofNat, Nat.testBit_eq_decide_div_mod_eq]
  simp only [hi, decide_true, Bool.true_and]
  apply decide_eq_decide.2
  have e : (n : Int) / (2 : Int) ^ i % 2 = ((n / 2 ^ i % 2 : Nat) : Int) := by simp
  rw [e]
  omega
theorem bit_zero (i : Nat) : bitT 0 i = false := by unfold bitT; simp
theorem u32_zero : U32 0 := ⟨by omega, by omega⟩
/-- The weights of the sources. -/
def wt : Int → Int
  | 1 => 2
  | 2 => 4
  | 3 => 8
  | _ => 0
theorem bit14 (i : Nat) (hi : i < 32) : bitT 14 i = (i == 1 || i == 2 || i == 3) := by
  revert i
  decide +kernel
theorem bit_2 (i : Nat) (hi : i < 32) : bitT 2 i = (i == 1) := by revert i; decide +kernel
theorem bit_4 (i : Nat) (hi : i < 32) : bitT 4 i = (i == 2) := by revert i; decide +kernel
theorem bit_8 (i : Nat) (hi : i < 32) : bitT 8 i = (i == 3) := by revert i; decide +kernel
theorem bit_wt (k : Nat) (hk : 1 ≤ k ∧ k ≤ 3) (i : Nat) (hi : i < 32) : bitT (wt k) i = (i == k) := by
  match k, hk with
  | 1, _ => exact bit_2 i hi
  | 2, _ => exact bit_4 i hi
  | 3, _ => exact bit_8 i hi
  | k + 4, h => omega
/-- Has the word bit k? (by the program's way) -/
theorem has_and (x : Int) (k : Nat) (hk : 1 ≤ k ∧ k ≤ 3) : (bits .and .u32 x (wt k) != 0) = bitT x k := by
  have e : bits .and .u32 x (wt k) = if bitT x k = true then wt k else 0 := by
    apply bit_ext _ _ (u32_and _ _)
    · split
      · match k, hk with
        | 1, _ => exact ⟨by decide, by decide⟩
        | 2, _ => exact ⟨by decide, by decide⟩
        | 3, _ => exact ⟨by decide, by decide⟩
        | k + 4, h => omega
      · exact u32_zero
    · intro i hi
      rw [bit_and, bit_wt k hk i hi]
      by_cases hik : i = k
      · subst hik
        split
        · rename_i h; rw [bit_wt i hk i hi, h]; rfl
        · rename_i h; rw [bit_zero]; simp at h; rw [h]; rfl
      · have : (i == k) = false := by simp [hik]
        rw [this]
        split
        · rw [bit_wt k hk i hi, this]; simp
        · rw [bit_zero]; simp
  rw [e]
  match k, hk with
  | 1, _ => cases bitT x 1 <;> rfl
  | 2, _ => cases bitT x 2 <;> rfl
  | 3, _ => cases bitT x 3 <;> rfl
  | k + 4, h => omega
/-- The same, by the reference's way. -/
theorem has_shift (x : Int) (hx : U32 x) (k : Nat) (hk : 1 ≤ k ∧ k ≤ 3) : (bits .and .u32 (x / 2 ^ k) 1 == 1) = bitT x k := by
  rw [bit_of x hx k (by omega)]
  obtain ⟨n, rfl⟩ := Int.eq_ofNat_of_zero_le hx.1
  have h2 := hx.2
  have e : ((n : Int) / 2 ^ k) = ((n / 2 ^ k : Nat) : Int) := by simp
  have hlt : n / 2 ^ k ≤ n := Nat.div_le_self _ _
  rw [e, show (1 : Int) = ((1 : Nat) : Int) from rfl, u32_and_nat _ _ (by omega) (by omega), show (1 : Nat) = 2 ^ 1 - 1 from rfl, Nat.and_two_pow_sub_one_eq_mod]
  apply Bool.eq_iff_iff.2
  simp only [beq_iff_eq, decide_eq_true_eq]
  omega

end Go.Proofs.Ytgflnfmnjlmenaa.Pc
