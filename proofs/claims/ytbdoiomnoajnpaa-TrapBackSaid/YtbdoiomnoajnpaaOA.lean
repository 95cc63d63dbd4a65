/- Both sides' words, bit by bit. -/
import Derived.Test.YtbdoiomnoajnpaaC
import Derived.Test.YtbdoiomnoajnpaaK
import Derived.Test.YtbdoiomnoajnpaaL
namespace Go.Proofs.Ytbdoiomnoajnpaa
open Go.RowKit Go.Deep Go.Joins
structure OkR (c : Reg) : Prop where
  u0 : U64 c.s0
  u1 : U64 c.s1
  u2 : U64 c.s2
  u3 : U64 c.s3
  u4 : U64 c.s4
  u5 : U64 c.s5
  u6 : U64 c.s6
  u7 : U64 c.s7
  u8 : U64 c.s8
  u9 : U64 c.s9
  u10 : U64 c.s10
  u11 : U64 c.s11
  u12 : U64 c.s12
  u13 : U64 c.s13
  u14 : U64 c.s14
  u15 : U64 c.s15
structure OkH (h : Hart) : Prop where
  pc : U64 h.pc
  c : OkR h.c
theorem mk1 : ∀ j, j < 64 → bitT 2 j = decide (j = 1) := by decide +kernel
theorem mk_3 : ∀ j, j < 64 → bitT 8 j = decide (j = 3) := by decide +kernel
theorem mk5 : ∀ j, j < 64 → bitT 32 j = decide (j = 5) := by decide +kernel
theorem mk7 : ∀ j, j < 64 → bitT 128 j = decide (j = 7) := by decide +kernel
theorem mk8 : ∀ j, j < 64 → bitT 256 j = decide (j = 8) := by decide +kernel
theorem mk17 : ∀ j, j < 64 → bitT 131072 j = decide (j = 17) := by decide +kernel
theorem mk0 : ∀ j, j < 64 → bitT 1 j = decide (j = 0) := by decide +kernel
theorem mk63 : ∀ j, j < 64 → bitT 9223372036854775808 j = decide (j = 63) := by decide +kernel
theorem mkP : ∀ j, j < 64 → bitT 6144 j = (decide (j = 11) || decide (j = 12)) := by decide +kernel
theorem mkB : ∀ j, j < 64 → bitT 131328 j = (bitT 256 j || bitT 131072 j) := by decide +kernel
theorem mk3 : ∀ j, j < 64 → bitT 3 j = (decide (j = 0) || decide (j = 1)) := by decide +kernel
theorem nz_bit (n m : Int) (i : Nat) (hi : i < 64) (hm : ∀ j, j < 64 → bitT m j = decide (j = i)) : nzV n m = bitT n i := by
  unfold nzV
  rcases Bool.eq_false_or_eq_true (bitT n i) with h | h
  · rw [h]
    rw [bne_iff_ne]
    intro e
    have k := congrArg (fun y => bitT y i) e
    simp only [bit_and, h, hm i hi, bit_zero] at k
    simp at k
  · rw [h]
    have e : bits .and .u64 n m = 0 := by
      refine bit_ext _ _ (u64_bits _ _ _) u64_zero fun j hj => ?_
      rw [bit_and, hm j hj, bit_zero]
      by_cases e : j = i
      · subst e; rw [h]; rfl
      · simp [e]
    rw [e]
    rfl
theorem and_one (n : Int) (hn : U64 n) (i : Nat) (hi : i < 64) : bits .and .u64 (n / 2 ^ i) 1 = if bitT n i = true then 1 else 0 := by
  rw [bit_of n hn i hi]
  obtain ⟨k, rfl⟩ := Int.eq_ofNat_of_zero_le hn.1
  have h2 := hn.2
  have e : ((k : Int) / 2 ^ i) = ((k / 2 ^ i : Nat) : Int) := by simp
  have hle : k / 2 ^ i ≤ k := Nat.div_le_self _ _
  have h3 := bits_and_u64_nat (k / 2 ^ i) 1 (by omega) (by omega)
  rw [e]
  rw [show (1 : Int) = ((1 : Nat) : Int) from rfl, h3, Nat.and_one_is_mod]
  simp only [decide_eq_true_eq]
  split <;> omega
theorem bV_bit (n b : Int) (hn : U64 n) (i : Nat) (hi : i < 64) (hb : b = 2 ^ i) : bV n b = bitT n i := by
  unfold bV
  rw [hb, and_one n hn i hi]
  cases bitT n i <;> rfl
theorem nz_one (n : Int) (hn : U64 n) (i : Nat) (hi : i < 64) : (bits .and .u64 (n / 2 ^ i) 1 != 0) = bitT n i := by
  rw [and_one n hn i hi]
  cases bitT n i <;> rfl
theorem wV_bit (n b : Int) (on : Bool) (j : Nat) (hj : j < 64) : bitT (wV n b on) j = if bitT b j = true then on else bitT n j := by
  unfold wV
  cases on
  · rw [if_neg (by decide), bit_andNot _ _ _ hj]
    cases bitT b j <;> simp
  · rw [if_pos rfl, bit_or]
    cases bitT b j <;> simp
theorem u64_wV (n b : Int) (on : Bool) : U64 (wV n b on) := by
  unfold wV
  split <;> exact u64_bits _ _ _
theorem mpp_same (s : Int) (hs : U64 s) : mppV s = rmppV s := by
  unfold mppV rmppV
  obtain ⟨k, rfl⟩ := Int.eq_ofNat_of_zero_le hs.1
  have h2 := hs.2
  have e : ((k : Int) / 2048) = ((k / 2048 : Nat) : Int) := by simp
  have hle : k / 2048 ≤ k := Nat.div_le_self _ _
  have h3 := bits_and_u64_nat (k / 2048) 3 (by omega) (by omega)
  have h4 := bits_and_u64_nat k 6144 (by omega) (by omega)
  rw [e, show (3 : Int) = ((3 : Nat) : Int) from rfl, h3, show (6144 : Int) = ((6144 : Nat) : Int) from rfl, h4]
  have h5 : (k &&& 6144) / 2 ^ 11 = k / 2 ^ 11 &&& 3 := by
    apply Nat.eq_of_testBit_eq
    intro i
    rw [Nat.testBit_div_two_pow, Nat.testBit_and, Nat.testBit_and, Nat.testBit_div_two_pow, show (3 : Nat) = 6144 / 2 ^ 11 from rfl, Nat.testBit_div_two_pow]
  exact congrArg (fun z : Nat => (z : Int)) h5
theorem mret_same (s q : Int) (hs : U64 s) : mretS s q = rmretS s q := by
  unfold mretS rmretS rmretA
  rw [nz_bit s 128 7 (by omega) mk7, bV_bit s 128 hs 7 (by omega) rfl]
  rfl
theorem sret_same (s : Int) (hs : U64 s) : sretS s = rsretS s := by
  unfold sretS rsretS
  rw [nz_bit s 32 5 (by omega) mk5, bV_bit s 32 hs 5 (by omega) rfl]
  refine bit_ext _ _ (u64_bits _ _ _) (u64_wV _ _ _) fun i hi => ?_
  rw [bit_andNot _ _ _ hi, wV_bit _ _ _ _ hi, wV_bit _ _ _ _ hi, mkB i hi, show bits .or .u64 (wV s 2 (bitT s 5)) 32 = wV (wV s 2 (bitT s 5)) 32 true from rfl]
  cases bitT 256 i <;> cases bitT 131072 i <;> simp
theorem mid_same (s : Int) (q : Bool) : bits .andNot .u64 (wV (wV s 256 q) 32 (nzV s 2)) 2 = wV (wV (wV s 256 q) 32 (bV (wV s 256 q) 2)) 2 false := by
  rw [nz_bit s 2 1 (by omega) mk1, bV_bit (wV s 256 q) 2 (u64_wV _ _ _) 1 (by omega) rfl, wV_bit s 256 q 1 (by omega), if_neg (by rw [mk8 1 (by omega)]; decide)]
  rfl
theorem two_bits (a : Int) (m : Int) (h : a = m % 4) : a = 0 ∨ a = 1 ∨ a = 2 ∨ a = 3 := by omega
theorem low2 (m : Int) : bits .and .i64 m 3 = m % 4 := by
  show IntKind.i64.wrap (((BitVec.ofInt 64 m &&& BitVec.ofInt 64 3).toNat : Nat) : Int) = m % 4
  have h : (BitVec.ofInt 64 m &&& BitVec.ofInt 64 3).toNat = (m % 4).toNat := by
    rw [BitVec.toNat_and, BitVec.toNat_ofInt, BitVec.toNat_ofInt]
    show (m % 18446744073709551616).toNat &&& 3 = _
    rw [show (3 : Nat) = 2 ^ 2 - 1 from rfl, Nat.and_two_pow_sub_one_eq_mod]
    omega
  rw [h]
  have e : (((m % 4).toNat : Nat) : Int) = m % 4 := by omega
  rw [e]
  exact IntWalk.i64_in _ (by omega)
def upX (m : Int) : Int := bits .and .u64 (IntKind.u64.wrap (IntKind.u64.wrap m * 2048)) 6144
theorem upX_is (m : Int) : upX m = m % 4 * 2048 := by
  unfold upX
  have e : IntKind.u64.wrap (IntKind.u64.wrap m * 2048) = m * 2048 % 18446744073709551616 := by
    rw [IntKind.wrap_u64, IntKind.wrap_u64]
    omega
  have hu : U64 (m * 2048 % 18446744073709551616) := ⟨by omega, by omega⟩
  rw [e]
  have hr : m % 4 = 0 ∨ m % 4 = 1 ∨ m % 4 = 2 ∨ m % 4 = 3 := by omega
  have b11 := bit_of _ hu 11 (by omega)
  have b12 := bit_of _ hu 12 (by omega)
  have key : ∀ L : Int, U64 L → (∀ j, j < 64 → bitT L j = (bitT 6144 j && (if j = 11 then bitT L 11 else bitT L 12))) → bitT L 11 = bitT (m * 2048 % 18446744073709551616) 11 → bitT L 12 = bitT (m * 2048 % 18446744073709551616) 12 → bits .and .u64 (m * 2048 % 18446744073709551616) 6144 = L := by
    intro L hL hj h1 h2
    refine bit_ext _ _ (u64_bits _ _ _) hL fun j hj2 => ?_
    rw [bit_and, hj j hj2, mkP j hj2]
    by_cases a : j = 11
    · subst a; rw [if_pos rfl, h1]; simp
    · by_cases c : j = 12
      · subst c; rw [if_neg (by omega), h2]; simp
      · simp [a, c]
  rcases hr with hr | hr | hr | hr
  · rw [hr]
    exact key 0 u64_zero (by decide +kernel) (by rw [b11, show bitT 0 11 = false from by decide +kernel]; apply Eq.symm; rw [decide_eq_false_iff_not]; omega) (by rw [b12, show bitT 0 12 = false from by decide +kernel]; apply Eq.symm; rw [decide_eq_false_iff_not]; omega)
  · rw [hr]
    exact key 2048 ⟨by omega, by omega⟩ (by decide +kernel) (by rw [b11, show bitT 2048 11 = true from by decide +kernel]; apply Eq.symm; rw [decide_eq_true_eq]; omega) (by rw [b12, show bitT 2048 12 = false from by decide +kernel]; apply Eq.symm; rw [decide_eq_false_iff_not]; omega)
  · rw [hr]
    exact key 4096 ⟨by omega, by omega⟩ (by decide +kernel) (by rw [b11, show bitT 4096 11 = false from by decide +kernel]; apply Eq.symm; rw [decide_eq_false_iff_not]; omega) (by rw [b12, show bitT 4096 12 = true from by decide +kernel]; apply Eq.symm; rw [decide_eq_true_eq]; omega)
  · rw [hr]
    exact key 6144 ⟨by omega, by omega⟩ (by decide +kernel) (by rw [b11, show bitT 6144 11 = true from by decide +kernel]; apply Eq.symm; rw [decide_eq_true_eq]; omega) (by rw [b12, show bitT 6144 12 = true from by decide +kernel]; apply Eq.symm; rw [decide_eq_true_eq]; omega)
theorem upX_same (m : Int) : IntKind.u64.wrap (IntKind.u64.wrap (bits .and .i64 m 3) * 2048) = upX m := by
  rw [low2, upX_is, IntKind.wrap_u64, IntKind.wrap_u64]
  omega
theorem up_same (s m : Int) : bits .andNot .u64 (wV (bits .or .u64 (bits .andNot .u64 s 6144) (upX m)) 128 (nzV s 8)) 8 = wV (wV (rupA s m) 128 (bV (rupA s m) 8)) 8 false := by
  have e : rupA s m = bits .or .u64 (bits .andNot .u64 s 6144) (upX m) := by unfold rupA; rw [upX_same]
  have e3 : bitT (bits .or .u64 (bits .andNot .u64 s 6144) (upX m)) 3 = bitT s 3 := by
    rw [bit_or, bit_andNot _ _ _ (by omega), mkP 3 (by omega)]
    unfold upX
    rw [bit_and, mkP 3 (by omega)]
    simp
  rw [e, nz_bit s 8 3 (by omega) mk_3, bV_bit _ 8 (u64_bits _ _ _) 3 (by omega) rfl, e3]
  rfl

end Go.Proofs.Ytbdoiomnoajnpaa
