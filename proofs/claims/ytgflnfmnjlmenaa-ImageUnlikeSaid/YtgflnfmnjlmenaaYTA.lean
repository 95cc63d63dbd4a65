/- Bits of 64 bits (my own texts of the seats csr and trap). -/
import Derived.Test.YtgflnfmnjlmenaaYBM
namespace Go.Proofs.Ytgflnfmnjlmenaa.Tr
open Go.RowKit Go.Deep Go.Joins
theorem below_then {B : Nat} {a b c : World} (h : Below B a b) (hB : B ≤ a.heap.size) (k : Below b.heap.size b c) : Below B a c := h.trans (k.mono (Nat.le_trans hB h.size))
/-- What Mstatus takes of v. -/
def stV (v : Int) : Int := if (bits .and .u64 (bits .and .u64 v 924074 / 2048) 3 == 2) = true then bits .andNot .u64 (bits .and .u64 v 924074) 6144 else bits .and .u64 v 924074
/-- A way to find addresses that is there. -/
def tbB (v : Int) : Bool := v / 1152921504606846976 == 0 || v / 1152921504606846976 == 8
def spV (w v : Int) : Int := if tbB v = true then bits .and .u64 v 17293840161288749055 else w
def U64 (x : Int) : Prop := 0 ≤ x ∧ x < 18446744073709551616
def bitT (x : Int) (i : Nat) : Bool := (BitVec.ofInt 64 x).getLsbD i
theorem ofInt_wrap (y : BitVec 64) : BitVec.ofInt 64 (IntKind.u64.wrap (y.toNat : Int)) = y := by
  have h := y.isLt
  have e : IntKind.u64.wrap (y.toNat : Int) = (y.toNat : Int) := by rw [IntKind.wrap_u64]; omega
  rw [e, BitVec.ofInt_natCast]
  simp
theorem bv_and (a b : Int) : BitVec.ofInt 64 (bits .and .u64 a b) = BitVec.ofInt 64 a &&& BitVec.ofInt 64 b := ofInt_wrap _
theorem bv_or (a b : Int) : BitVec.ofInt 64 (bits .or .u64 a b) = BitVec.ofInt 64 a ||| BitVec.ofInt 64 b := ofInt_wrap _
theorem bv_andNot (a b : Int) : BitVec.ofInt 64 (bits .andNot .u64 a b) = BitVec.ofInt 64 a &&& ~~~BitVec.ofInt 64 b := ofInt_wrap _
theorem bit_and (a b : Int) (i : Nat) : bitT (bits .and .u64 a b) i = (bitT a i && bitT b i) := by unfold bitT; rw [bv_and, BitVec.getLsbD_and]
theorem bit_or (a b : Int) (i : Nat) : bitT (bits .or .u64 a b) i = (bitT a i || bitT b i) := by unfold bitT; rw [bv_or, BitVec.getLsbD_or]
theorem bit_andNot (a b : Int) (i : Nat) (hi : i < 64) : bitT (bits .andNot .u64 a b) i = (bitT a i && !bitT b i) := by
  unfold bitT
  rw [bv_andNot, BitVec.getLsbD_and, BitVec.getLsbD_not]
  simp [hi]
theorem u64_bits (op : BinOp) (a b : Int) : U64 (bits op .u64 a b) := ⟨bits_lo_u64 op a b, by have := bits_hi_u64 op a b; omega⟩
theorem bit_ext (a b : Int) (ha : U64 a) (hb : U64 b) (h : ∀ i, i < 64 → bitT a i = bitT b i) : a = b := by
  have e : BitVec.ofInt 64 a = BitVec.ofInt 64 b := BitVec.eq_of_getLsbD_eq fun i hi => h i hi
  obtain ⟨n, rfl⟩ := Int.eq_ofNat_of_zero_le ha.1
  obtain ⟨k, rfl⟩ := Int.eq_ofNat_of_zero_le hb.1
  have e2 := congrArg BitVec.toNat e
  rw [BitVec.ofInt_natCast, BitVec.ofInt_natCast, BitVec.toNat_ofNat, BitVec.toNat_ofNat] at e2
  have h1 := ha.2
  have h2 := hb.2
  omega
theorem bit_of (x : Int) (hx : U64 x) (i : Nat) (hi : i < 64) : bitT x i = decide (x / (2 : Int) ^ i % 2 = 1) := by
  obtain ⟨n, rfl⟩ := Int.eq_ofNat_of_zero_le hx.1
  have h := hx.2
  unfold bitT
  rw [BitVec.ofInt_natCast, BitVec.getLsbD_ofNat, Nat.testBit_eq_decide_div_mod_eq]
  simp only [hi, decide_true, Bool.true_and]
  apply decide_eq_decide.2
  have e : (n : Int) / (2 : Int) ^ i % 2 = ((n / 2 ^ i % 2 : Nat) : Int) := by simp
  rw [e]
  omega
theorem bit_zero (i : Nat) : bitT 0 i = false := by unfold bitT; simp
theorem u64_zero : U64 0 := ⟨by omega, by omega⟩
theorem tb_of (v : Int) (hv : U64 v) : tbB v = (!bitT v 60 && !bitT v 61 && !bitT v 62) := by
  rw [bit_of v hv 60 (by omega), bit_of v hv 61 (by omega), bit_of v hv 62 (by omega)]
  have h1 := hv.1
  have h2 := hv.2
  unfold tbB
  apply Bool.eq_iff_iff.2
  simp only [Bool.or_eq_true, Bool.and_eq_true, beq_iff_eq, Bool.not_eq_true', decide_eq_false_iff_not]
  omega
/-- Bits 12:11 are 2. -/
def twoB (x : Int) : Bool := bitT x 12 && !bitT x 11
theorem two_of (x : Int) (hx : U64 x) : (bits .and .u64 (x / 2048) 3 == 2) = twoB x := by
  unfold twoB
  obtain ⟨n, rfl⟩ := Int.eq_ofNat_of_zero_le hx.1
  have h2 := hx.2
  have e : ((n : Int) / 2048) = ((n / 2048 : Nat) : Int) := by simp
  have h3 := bits_and_u64_nat (n / 2048) 3 (by omega) (by omega)
  rw [bit_of _ hx 12 (by omega), bit_of _ hx 11 (by omega), e, show (3 : Int) = ((3 : Nat) : Int) from rfl, h3, show (3 : Nat) = 2 ^ 2 - 1 from rfl, Nat.and_two_pow_sub_one_eq_mod]
  apply Bool.eq_iff_iff.2
  simp only [Bool.and_eq_true, beq_iff_eq, Bool.not_eq_true', decide_eq_false_iff_not, decide_eq_true_eq]
  omega
theorem stV_eq (v : Int) : stV v = if twoB (bits .and .u64 v 924074) = true then bits .andNot .u64 (bits .and .u64 v 924074) 6144 else bits .and .u64 v 924074 := by
  unfold stV
  rw [two_of _ (u64_bits _ _ _)]
theorem u64_stV (v : Int) : U64 (stV v) := by
  unfold stV
  split <;> exact u64_bits _ _ _
theorem u64_spV (u v : Int) (hu : U64 u) : U64 (spV u v) := by
  unfold spV
  split
  · exact u64_bits _ _ _
  · exact hu
/-- A number without other bits. -/
theorem only_iff (x m : Int) (hx : U64 x) : (bits .andNot .u64 x m == 0) = true ↔ bits .and .u64 x m = x := by
  rw [beq_iff_eq]
  constructor
  · intro h
    refine bit_ext _ _ (u64_bits _ _ _) hx fun i hi => ?_
    have h2 := congrArg (fun y => bitT y i) h
    simp only [bit_andNot _ _ _ hi, bit_zero] at h2
    rw [bit_and]
    revert h2
    cases bitT x i <;> cases bitT m i <;> simp
  · intro h
    refine bit_ext _ _ (u64_bits _ _ _) u64_zero fun i hi => ?_
    have h2 := congrArg (fun y => bitT y i) h
    simp only [bit_and] at h2
    rw [bit_andNot _ _ _ hi, bit_zero]
    revert h2
    cases bitT x i <;> cases bitT m i <;> simp
theorem only_and (v m : Int) : (bits .andNot .u64 (bits .and .u64 v m) m == 0) = true := by
  rw [only_iff _ _ (u64_bits _ _ _)]
  refine bit_ext _ _ (u64_bits _ _ _) (u64_bits _ _ _) fun i _ => ?_
  rw [bit_and, bit_and]
  cases bitT v i <;> cases bitT m i <;> rfl
theorem not_const (m d : Int) (h : ∀ i, i < 64 → bitT m i = !bitT d i) (v : Int) : bits .and .u64 v m = bits .andNot .u64 v d := by
  refine bit_ext _ _ (u64_bits _ _ _) (u64_bits _ _ _) fun i hi => ?_
  rw [bit_and, bit_andNot _ _ _ hi, h i hi]
theorem not_const2 (m d : Int) (h : ∀ i, i < 64 → bitT m i = !bitT d i) (v : Int) : bits .andNot .u64 v m = bits .and .u64 v d := by
  refine bit_ext _ _ (u64_bits _ _ _) (u64_bits _ _ _) fun i hi => ?_
  rw [bit_and, bit_andNot _ _ _ hi, h i hi]
  cases bitT v i <;> cases bitT d i <;> rfl
theorem c2 : ∀ i, i < 64 → bitT 18446744073709551613 i = !bitT 2 i := by decide +kernel
theorem c1 : ∀ i, i < 64 → bitT 18446744073709551614 i = !bitT 1 i := by decide +kernel
theorem cL : ∀ i, i < 64 → bitT 786722 i = true → bitT 924074 i = true := by decide +kernel
theorem c546 : ∀ i, i < 64 → bitT 546 i = true → bitT 2730 i = true := by decide +kernel
theorem c22 : ∀ i, i < 64 → bitT 2 i = true → bitT 546 i = true := by decide +kernel
theorem L11 : bitT 786722 11 = false := by decide +kernel
theorem L12 : bitT 786722 12 = false := by decide +kernel
theorem K11 : bitT 6144 11 = true := by decide +kernel
theorem K12 : bitT 6144 12 = true := by decide +kernel
theorem T60 : bitT 17293840161288749055 60 = true := by decide +kernel
theorem T61 : bitT 17293840161288749055 61 = true := by decide +kernel
theorem T62 : bitT 17293840161288749055 62 = true := by decide +kernel

theorem below_drewN {B : Nat} {a w : World} (h : Below B a w) (n : Nat) : Below B a (w.drewN n) := ⟨h.os, h.tape, h.output, h.size, h.block⟩
theorem and_keep (x m : Int) (hx : U64 x) (h : (bits .andNot .u64 x m == 0) = true) : bits .and .u64 x m = x := (only_iff x m hx).1 h
theorem bit_keep (x m : Int) (hx : U64 x) (h : (bits .andNot .u64 x m == 0) = true) (i : Nat) : bitT x i = true → bitT m i = true := by
  have h2 := congrArg (fun y => bitT y i) (and_keep x m hx h)
  simp only [bit_and] at h2
  revert h2
  cases bitT x i <;> cases bitT m i <;> simp
theorem only_of (x m : Int) (hx : U64 x) (h : ∀ i, i < 64 → bitT x i = true → bitT m i = true) : (bits .andNot .u64 x m == 0) = true := by
  rw [only_iff _ _ hx]
  refine bit_ext _ _ (u64_bits _ _ _) hx fun i hi => ?_
  rw [bit_and]
  have := h i hi
  revert this
  cases bitT x i <;> cases bitT m i <;> simp
/-! Mstatus -/
end Go.Proofs.Ytgflnfmnjlmenaa.Tr
