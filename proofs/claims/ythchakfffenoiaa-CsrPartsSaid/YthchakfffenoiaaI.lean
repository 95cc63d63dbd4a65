/- What the bits of the control registers come to. -/
import Derived.Test.YthchakfffenoiaaH
namespace Go.Proofs.Ythchakfffenoiaa
open Go.RowKit Go.Deep Go.Joins

theorem and_keep (x m : Int) (hx : U64 x) (h : (bits .andNot .u64 x m == 0) = true) : bits .and .u64 x m = x := (only_iff x m hx).1 h
theorem bit_keep (x m : Int) (hx : U64 x) (h : (bits .andNot .u64 x m == 0) = true) (i : Nat) : bitT x i = true → bitT m i = true := by
  have h2 := congrArg (fun y => bitT y i) (and_keep x m hx h)
  simp only [bit_and] at h2
  revert h2
  cases bitT x i <;> cases bitT m i <;> simp
theorem only_of (x m : Int) (hx : U64 x) (h : ∀ i, i < 64 → bitT x i = true → bitT m i = true) : (bits .andNot .u64 x m == 0) = true := by
  rw [only_iff _ _ hx]
  refine bit_ext _ _ (u64_bits _ _ _) hx fun i hi => ?_
  rw [bit_and]
  have := h i hi
  revert this
  cases bitT x i <;> cases bitT m i <;> simp
/-! Mstatus -/
theorem stV_fix (x : Int) (hx : U64 x) : (stV x == x) = true ↔ bits .and .u64 x 924074 = x ∧ twoB x = false := by
  rw [beq_iff_eq, stV_eq]
  constructor
  · intro h
    split at h
    · rename_i ht
      have k12 := congrArg (fun y => bitT y 12) h
      simp only [bit_andNot _ _ 12 (by omega), bit_and, K12] at k12
      have e : bits .and .u64 x 924074 = x := by
        refine bit_ext _ _ (u64_bits _ _ _) hx fun i hi => ?_
        have k := congrArg (fun y => bitT y i) h
        simp only [bit_andNot _ _ i hi, bit_and] at k
        rw [bit_and]
        revert k
        cases bitT x i <;> cases bitT 924074 i <;> simp
      rw [e] at ht
      unfold twoB at ht
      simp at ht k12
      rw [ht.1] at k12
      exact absurd k12 (by decide)
    · rename_i ht
      refine ⟨h, ?_⟩
      rw [h] at ht
      simpa using ht
  · rintro ⟨h, ht⟩
    rw [h, ht]
    rfl
theorem two_and (x : Int) (h : bits .and .u64 x 924074 = x) : twoB (bits .and .u64 x 924074) = twoB x := by rw [h]
theorem stV_right (v : Int) : (stV (stV v) == stV v) = true := by
  rw [stV_fix _ (u64_stV v)]
  rw [stV_eq]
  split
  · rename_i ht
    constructor
    · refine bit_ext _ _ (u64_bits _ _ _) (u64_bits _ _ _) fun i hi => ?_
      simp only [bit_and, bit_andNot _ _ i hi]
      cases bitT v i <;> cases bitT 924074 i <;> cases bitT 6144 i <;> rfl
    · unfold twoB
      rw [bit_andNot _ _ 12 (by omega), K12]
      simp
  · rename_i ht
    constructor
    · refine bit_ext _ _ (u64_bits _ _ _) (u64_bits _ _ _) fun i hi => ?_
      simp only [bit_and]
      cases bitT v i <;> cases bitT 924074 i <;> rfl
    · simpa using ht
theorem stV_mixed (x v : Int) (hx : U64 x) (h : (stV x == x) = true) : (stV (mxV x v 786722) == mxV x v 786722) = true := by
  rw [stV_fix _ hx] at h
  rw [stV_fix _ (u64_mxV _ _ _)]
  constructor
  · refine bit_ext _ _ (u64_bits _ _ _) (u64_mxV _ _ _) fun i hi => ?_
    have k := congrArg (fun y => bitT y i) h.1
    simp only [bit_and] at k
    rw [bit_and, bit_mxV _ _ _ i hi]
    have c := cL i hi
    revert k c
    cases bitT x i <;> cases bitT v i <;> cases bitT 786722 i <;> cases bitT 924074 i <;> simp
  · have k := h.2
    unfold twoB at k ⊢
    rw [bit_mxV _ _ _ 12 (by omega), bit_mxV _ _ _ 11 (by omega), L11, L12]
    revert k
    cases bitT x 12 <;> cases bitT x 11 <;> cases bitT v 12 <;> cases bitT v 11 <;> simp
/-! The others -/
theorem mie_mixed (x v d : Int) (hx : U64 x) (hd : U64 d) (h : (bits .andNot .u64 x 2730 == 0) = true) (hk : (bits .andNot .u64 d 546 == 0) = true) : (bits .andNot .u64 (mxV x v d) 2730 == 0) = true := by
  refine only_of _ _ (u64_mxV _ _ _) fun i hi => ?_
  have a := bit_keep x 2730 hx h i
  have b := bit_keep d 546 hd hk i
  have c := c546 i hi
  rw [bit_mxV _ _ _ i hi]
  revert a b c
  cases bitT x i <;> cases bitT v i <;> cases bitT d i <;> cases bitT 546 i <;> cases bitT 2730 i <;> simp
theorem mip_mixed (x v d : Int) (hx : U64 x) (h : (bits .andNot .u64 x 546 == 0) = true) : (bits .andNot .u64 (mxV x v (bits .and .u64 d 2)) 546 == 0) = true := by
  refine only_of _ _ (u64_mxV _ _ _) fun i hi => ?_
  have a := bit_keep x 546 hx h i
  have c := c22 i hi
  rw [bit_mxV _ _ _ i hi, bit_and]
  revert a c
  cases bitT x i <;> cases bitT v i <;> cases bitT d i <;> cases bitT 2 i <;> cases bitT 546 i <;> simp
theorem tb_and (v : Int) (hv : U64 v) : tbB (bits .and .u64 v 17293840161288749055) = tbB v := by
  rw [tb_of _ (u64_bits _ _ _), tb_of _ hv, bit_and, bit_and, bit_and, T60, T61, T62]
  simp
theorem satp_right (u v : Int) (hv : U64 v) (h1 : (bits .andNot .u64 u 17293840161288749055 == 0) = true) (h2 : tbB u = true) : (bits .andNot .u64 (spV u v) 17293840161288749055 == 0) = true ∧ tbB (spV u v) = true := by
  unfold spV
  split
  · rename_i h
    exact ⟨only_and _ _, by rw [tb_and _ hv]; exact h⟩
  · exact ⟨h1, h2⟩
theorem satp_same (s : Int) (hs : U64 s) : (spV 0 s == s) = ((bits .andNot .u64 s 17293840161288749055 == 0) && tbB s) := by
  have h0 : tbB 0 = true := by decide
  unfold spV
  split
  · rename_i h
    rw [h, Bool.and_true]
    apply Bool.eq_iff_iff.2
    rw [only_iff _ _ hs, beq_iff_eq]
  · rename_i h
    have hf : tbB s = false := by simpa using h
    rw [hf, Bool.and_false]
    have hne : s ≠ 0 := fun e => by rw [e, h0] at hf; exact absurd hf (by decide)
    simp only [beq_eq_false_iff_ne]
    exact fun e => hne e.symm
theorem satp_once (s : Int) (hs : U64 s) (h1 : (bits .andNot .u64 s 17293840161288749055 == 0) = true) : spV s s = s := by
  unfold spV
  split
  · exact and_keep s _ hs h1
  · rfl
/-! Read, written and read again -/
theorem once_344 (p : Int) : rsV (bits .and .u64 (rsV p 0) 546) 0 = rsV p 0 := by
  refine bit_ext _ _ (u64_rsV _ _) (u64_rsV _ _) fun i _ => ?_
  rw [bit_rsV, bit_rsV, bit_and, bit_rsV, bit_zero]
  cases bitT p i <;> cases bitT 546 i <;> cases bitT 2730 i <;> rfl
theorem once_100 (x : Int) : bits .and .u64 (mxV x (bits .and .u64 x 786722) 786722) 786722 = bits .and .u64 x 786722 := by
  refine bit_ext _ _ (u64_bits _ _ _) (u64_bits _ _ _) fun i hi => ?_
  rw [bit_and, bit_mxV _ _ _ i hi, bit_and]
  cases bitT x i <;> cases bitT 786722 i <;> rfl
theorem once_104 (x d : Int) : bits .and .u64 (mxV x (bits .and .u64 x d) d) d = bits .and .u64 x d := by
  refine bit_ext _ _ (u64_bits _ _ _) (u64_bits _ _ _) fun i hi => ?_
  rw [bit_and, bit_mxV _ _ _ i hi, bit_and]
  cases bitT x i <;> cases bitT d i <;> rfl
theorem once_144 (p d : Int) : bits .and .u64 (rsV (mxV p (bits .and .u64 (rsV p 0) d) (bits .and .u64 d 2)) 0) d = bits .and .u64 (rsV p 0) d := by
  refine bit_ext _ _ (u64_bits _ _ _) (u64_bits _ _ _) fun i hi => ?_
  have c := c22 i hi
  simp only [bit_and, bit_rsV, bit_mxV _ _ _ i hi, bit_zero]
  revert c
  cases bitT p i <;> cases bitT d i <;> cases bitT 546 i <;> cases bitT 2 i <;> cases bitT 2730 i <;> simp
/-! A part's write changes just what reading it tells -/
theorem parts_of (a b x y : Int) (h : a = b ↔ x = y) : ((a == b) != (y == x)) = false := by
  by_cases e : x = y
  · rw [beq_iff_eq.2 (h.2 e), beq_iff_eq.2 e.symm]; rfl
  · rw [beq_eq_false_iff_ne.2 (fun k => e (h.1 k)), beq_eq_false_iff_ne.2 (fun k => e k.symm)]; rfl
theorem part_100 (x v m : Int) (hx : U64 x) : bits .and .u64 x m = bits .and .u64 (mxV x v m) m ↔ x = mxV x v m := by
  constructor
  · intro h
    refine bit_ext _ _ hx (u64_mxV _ _ _) fun i hi => ?_
    have k := congrArg (fun y => bitT y i) h
    simp only [bit_and, bit_mxV _ _ _ i hi] at k
    rw [bit_mxV _ _ _ i hi]
    revert k
    cases bitT x i <;> cases bitT v i <;> cases bitT m i <;> simp
  · intro h
    rw [← h]
theorem part_144 (p v d : Int) (hp : U64 p) : bits .and .u64 (rsV p 0) d = bits .and .u64 (rsV (mxV p v (bits .and .u64 d 2)) 0) d ↔ p = mxV p v (bits .and .u64 d 2) := by
  constructor
  · intro h
    refine bit_ext _ _ hp (u64_mxV _ _ _) fun i hi => ?_
    have k := congrArg (fun y => bitT y i) h
    have c := c22 i hi
    simp only [bit_and, bit_rsV, bit_mxV _ _ _ i hi, bit_zero] at k
    rw [bit_mxV _ _ _ i hi, bit_and]
    revert k c
    cases bitT p i <;> cases bitT v i <;> cases bitT d i <;> cases bitT 2 i <;> cases bitT 546 i <;> simp
  · intro h
    rw [← h]

end Go.Proofs.Ythchakfffenoiaa
