/- Both sides agree on every processor. -/
import Derived.Test.YtbdoiomnoajnpaaOA
import Derived.Test.YtbdoiomnoajnpaaJ
namespace Go.Proofs.Ytbdoiomnoajnpaa
open Go.RowKit Go.Deep Go.Joins
theorem u64_told (k : Nat) (it : Bool) (hk : k ≤ 63) : U64 (toldV k it) := by
  unfold toldV
  split
  · exact u64_bits _ _ _
  · exact ⟨by omega, by omega⟩
theorem u64_small (k : Nat) (hk : k ≤ 63) : U64 (k : Int) := ⟨by omega, by omega⟩
theorem small_top (k : Nat) (hk : k ≤ 63) : bitT (k : Int) 63 = false := by
  rw [bit_of _ (u64_small k hk) 63 (by omega), decide_eq_false_iff_not]
  omega
theorem told_top (k : Nat) (it : Bool) (hk : k ≤ 63) : bitT (toldV k it) 63 = it := by
  unfold toldV
  cases it
  · rw [if_neg (by decide)]
    exact small_top k hk
  · rw [if_pos rfl, bit_or, mk63 63 (by omega)]
    simp
theorem told_low (k : Nat) (hk : k ≤ 63) : bits .andNot .u64 (toldV k true) 9223372036854775808 = k := by
  refine bit_ext _ _ (u64_bits _ _ _) (u64_small k hk) fun i hi => ?_
  unfold toldV
  rw [if_pos rfl, bit_andNot _ _ _ hi, bit_or, mk63 i hi]
  by_cases e : i = 63
  · subst e
    rw [small_top k hk]
    rfl
  · simp [e]
theorem one_test (v : Int) : nzV v 1 = (bits .and .u64 v 1 == 1) := by
  have h : nzV v 1 = bitT v 0 := nz_bit v 1 0 (by omega) mk0
  have lo := bits_lo_u64 .and v 1
  have hi : bits .and .u64 v 1 ≤ 1 := and_le_u64 v 1 (by omega)
  unfold nzV
  have e : bits .and .u64 v 1 = 0 ∨ bits .and .u64 v 1 = 1 := by omega
  rcases e with e | e <;> rw [e] <;> rfl
theorem entry_same (v : Int) (k : Nat) (it : Bool) (hk : k ≤ 63) : entryV v (toldV k it) = rentryV v k it := by
  unfold entryV rentryV
  rw [nz_bit (toldV k it) 9223372036854775808 63 (by omega) mk63, told_top k it hk, one_test]
  cases it
  · rfl
  · rw [told_low k hk]
    have e : IntKind.u64.wrap (4 * (k : Int)) = 4 * k := by rw [IntKind.wrap_u64]; omega
    rw [e]
theorem hand_same (h : Hart) (k : Nat) (it : Bool) (hk : k ≤ 63) (ok : OkH h) : handV h k it = rhandV h k it := by
  unfold handV rhandV
  have hu : U64 (if it = true then h.c.s2 else h.c.s1) := by
    cases it
    · exact ok.c.u1
    · exact ok.c.u2
  rw [nz_one _ hu k (by omega), bV_bit _ _ hu k (by omega) rfl]
theorem take_same (h : Hart) (k : Nat) (it : Bool) (v : Int) (hk : k ≤ 63) (ok : OkH h) : takeF h k it v = rtakeF h k it v := by
  unfold takeF rtakeF
  rw [hand_same h k it hk ok]
  have e1 : toMidF (noRes h) (toldV k it) v = rMidF h k it v := by
    unfold toMidF rMidF noRes rmidS
    rw [← entry_same _ k it hk, ← mid_same]
  have e2 : toUpF (noRes h) (toldV k it) v = rUpF h k it v := by
    unfold toUpF rUpF noRes rupS
    rw [← entry_same _ k it hk, ← up_same]
    rfl
  rw [e1, e2]
theorem mretF_same (h : Hart) (ok : OkH h) : mretF h = rmretF h := by
  unfold mretF rmretF
  rw [mpp_same _ ok.c.u0, mret_same _ _ ok.c.u0]
theorem sretF_same (h : Hart) (ok : OkH h) : sretF h = rsretF h := by
  unfold sretF rsretF
  rw [nz_bit h.c.s0 256 8 (by omega) mk8, bV_bit h.c.s0 256 ok.c.u0 8 (by omega) rfl, sret_same _ ok.c.u0]
/-! The first of the interrupts. -/
def firstT (f : Nat → Bool) : Int := if f 11 = true then 11 else if f 3 = true then 3 else if f 7 = true then 7 else if f 9 = true then 9 else if f 1 = true then 1 else if f 5 = true then 5 else -1
theorem first_is (n : Int) (hn : U64 n) : firstV n = firstT (bitT n) := by
  unfold firstV firstT
  rw [← nz_one n hn 11 (by omega), ← nz_one n hn 3 (by omega), ← nz_one n hn 7 (by omega), ← nz_one n hn 9 (by omega), ← nz_one n hn 1 (by omega), ← nz_one n hn 5 (by omega)]
  rfl
theorem rfirst_is (n : Int) (hn : U64 n) : rfirstV n = firstT (bitT n) := by
  unfold rfirstV firstT
  rw [bV_bit n 2048 hn 11 (by omega) rfl, bV_bit n 8 hn 3 (by omega) rfl, bV_bit n 128 hn 7 (by omega) rfl, bV_bit n 512 hn 9 (by omega) rfl, bV_bit n 2 hn 1 (by omega) rfl, bV_bit n 32 hn 5 (by omega) rfl]
theorem firstT_or (f : Nat → Bool) : (∃ q : Nat, q < 64 ∧ firstT f = q ∧ f q = true) ∨ (firstT f = -1 ∧ f 11 = false ∧ f 3 = false ∧ f 7 = false ∧ f 9 = false ∧ f 1 = false ∧ f 5 = false) := by
  unfold firstT
  rcases Bool.eq_false_or_eq_true (f 11) with a | a
  · exact .inl ⟨11, by omega, by rw [if_pos a]; rfl, a⟩
  rcases Bool.eq_false_or_eq_true (f 3) with b | b
  · exact .inl ⟨3, by omega, by rw [a, b]; rfl, b⟩
  rcases Bool.eq_false_or_eq_true (f 7) with c | c
  · exact .inl ⟨7, by omega, by rw [a, b, c]; rfl, c⟩
  rcases Bool.eq_false_or_eq_true (f 9) with d | d
  · exact .inl ⟨9, by omega, by rw [a, b, c, d]; rfl, d⟩
  rcases Bool.eq_false_or_eq_true (f 1) with e | e
  · exact .inl ⟨1, by omega, by rw [a, b, c, d, e]; rfl, e⟩
  rcases Bool.eq_false_or_eq_true (f 5) with g | g
  · exact .inl ⟨5, by omega, by rw [a, b, c, d, e, g]; rfl, g⟩
  · exact .inr ⟨by rw [a, b, c, d, e, g]; rfl, a, b, c, d, e, g⟩
theorem mkL : ∀ j, j < 64 → bitT 2730 j = (decide (j = 11) || decide (j = 3) || decide (j = 7) || decide (j = 9) || decide (j = 1) || decide (j = 5)) := by decide +kernel
/-- A number with these bits alone: the first is there, or it is 0. -/
theorem first_none (n : Int) (hn : U64 n) (hl : ∀ j, j < 64 → bitT n j = true → bitT 2730 j = true) (h : firstT (bitT n) = -1) : n = 0 := by
  rcases firstT_or (bitT n) with ⟨q, _, hq, _⟩ | ⟨_, a, b, c, d, e, g⟩
  · omega
  · refine bit_ext _ _ hn u64_zero fun j hj => ?_
    rw [bit_zero]
    rcases Bool.eq_false_or_eq_true (bitT n j) with t | t
    · have k := hl j hj t
      rw [mkL j hj] at k
      simp only [Bool.or_eq_true, decide_eq_true_eq] at k
      rcases k with ((((k | k) | k) | k) | k) | k
      all_goals (subst k; simp_all)
    · exact t
theorem u64_on (h : Hart) (l : Int) : U64 (onV h l) := u64_bits _ _ _
theorem u64_top (h : Hart) (l : Int) : U64 (topV h l) := u64_bits _ _ _
theorem u64_low (h : Hart) (l : Int) : U64 (lowV h l) := u64_bits _ _ _
theorem on_bits (h : Hart) (l : Int) (j : Nat) (t : bitT (onV h l) j = true) : bitT 2730 j = true := by
  unfold onV at t
  rw [bit_and] at t
  simp at t
  exact t.2
theorem top_on (h : Hart) (l : Int) (j : Nat) (hj : j < 64) (t : bitT (topV h l) j = true) : bitT (onV h l) j = true := by
  unfold topV at t
  rw [bit_andNot _ _ _ hj] at t
  simp at t
  exact t.1
theorem low_on (h : Hart) (l : Int) (j : Nat) (t : bitT (lowV h l) j = true) : bitT (onV h l) j = true := by
  unfold lowV at t
  rw [bit_and] at t
  simp at t
  exact t.1
theorem top_none (h : Hart) (l : Int) (e : firstT (bitT (topV h l)) = -1) : topV h l = 0 := first_none _ (u64_top h l) (fun j hj t => on_bits h l j (top_on h l j hj t)) e
theorem low_none (h : Hart) (l : Int) (e : firstT (bitT (lowV h l)) = -1) : lowV h l = 0 := first_none _ (u64_low h l) (fun j _ t => on_bits h l j (low_on h l j t)) e
theorem first_zero : firstT (bitT 0) = -1 := by decide +kernel
theorem firstT_ge (f : Nat → Bool) (h : firstT f ≠ -1) : 0 ≤ firstT f := by
  rcases firstT_or f with ⟨q, _, hq, _⟩ | ⟨e, _⟩
  · omega
  · exact absurd e h
theorem up_is (h : Hart) (ok : OkH h) : upV h = !(h.mode == 3 && !bV h.c.s0 8) := by
  unfold upV
  rw [nz_bit h.c.s0 8 3 (by omega) mk_3, bV_bit h.c.s0 8 ok.c.u0 3 (by omega) rfl]
  cases bitT h.c.s0 3 <;> cases e : (h.mode == 3) <;> simp_all [bne]
theorem mid_is (h : Hart) (ok : OkH h) : midV h = !(decide (1 < h.mode) || (h.mode == 1 && !bV h.c.s0 2)) := by
  unfold midV
  rw [nz_bit h.c.s0 2 1 (by omega) mk1, bV_bit h.c.s0 2 ok.c.u0 1 (by omega) rfl]
  by_cases a : h.mode < 1
  · have b : ¬ 1 < h.mode := by omega
    have c : (h.mode == 1) = false := by simp; omega
    simp [a, b, c]
  · by_cases b : 1 < h.mode
    · have c : (h.mode == 1) = false := by simp; omega
      simp [a, b, c]
    · have c : (h.mode == 1) = true := by simp; omega
      cases bitT h.c.s0 1 <;> simp [a, b, c]
theorem pend_same (h : Hart) (l : Int) (ok : OkH h) : pendV h l = rpendV h l := by
  unfold pendV rpendV
  have hlow : rfirstV (rlowV h l) = if midV h = true then firstV (lowV h l) else -1 := by
    unfold rlowV
    rw [mid_is h ok]
    cases (decide (1 < h.mode) || (h.mode == 1 && !bV h.c.s0 2))
    · simp only [Bool.false_eq_true, if_false, if_true, Bool.not_false]
      rw [rfirst_is _ (u64_low h l), first_is _ (u64_low h l)]
    · simp only [Bool.false_eq_true, if_false, if_true, Bool.not_true]
      rw [rfirst_is 0 u64_zero, first_zero]
  rw [hlow]
  unfold rtopV
  rw [up_is h ok]
  cases (h.mode == 3 && !bV h.c.s0 8)
  · simp only [Bool.false_eq_true, if_false, Bool.not_false, Bool.and_true]
    rw [rfirst_is _ (u64_top h l)]
    by_cases e : topV h l = 0
    · have e1 : (topV h l != 0) = false := by rw [e]; rfl
      rw [e1, e, first_zero, if_neg (show ¬ (0 : Int) ≤ -1 by decide)]
      rfl
    · have g : 0 ≤ firstT (bitT (topV h l)) := firstT_ge _ fun k => e (top_none h l k)
      rw [if_pos g, if_pos (by simp [e]), first_is _ (u64_top h l)]
  · simp only [Bool.false_eq_true, if_false, if_true, Bool.not_true, Bool.and_false]
    rw [rfirst_is 0 u64_zero, first_zero, if_neg (show ¬ (0 : Int) ≤ -1 by decide)]
/-- What comes is on; with nothing on none comes. -/
theorem pend_or (h : Hart) (l : Int) : (∃ q : Nat, q < 64 ∧ pendV h l = q ∧ bitT (onV h l) q = true) ∨ (pendV h l = -1 ∧ (onV h l = 0 ∨ h.mode ≠ 0)) := by
  unfold pendV
  rcases Bool.eq_false_or_eq_true (topV h l != 0 && upV h) with c | c
  · rw [if_pos c, first_is _ (u64_top h l)]
    rcases firstT_or (bitT (topV h l)) with ⟨q, hq, e, t⟩ | ⟨e, _⟩
    · exact .inl ⟨q, hq, e, top_on h l q hq t⟩
    · have z := top_none h l e
      rw [z] at c
      cases c
  · rw [if_neg (by rw [c]; decide)]
    rcases Bool.eq_false_or_eq_true (midV h) with m | m
    · rw [if_pos m, first_is _ (u64_low h l)]
      rcases firstT_or (bitT (lowV h l)) with ⟨q, hq, e, t⟩ | ⟨e, _⟩
      · exact .inl ⟨q, hq, e, low_on h l q t⟩
      · refine .inr ⟨e, ?_⟩
        by_cases m0 : h.mode = 0
        · left
          have zl := low_none h l e
          have up : upV h = true := by unfold upV; rw [m0]; rfl
          have zt : topV h l = 0 := by
            rw [up] at c
            simpa using c
          refine bit_ext _ _ (u64_on h l) u64_zero fun j hj => ?_
          have a := congrArg (fun y => bitT y j) zt
          have b := congrArg (fun y => bitT y j) zl
          unfold topV at a
          unfold lowV at b
          simp only [bit_andNot _ _ _ hj, bit_and, bit_zero] at a b
          rw [bit_zero]
          revert a b
          cases bitT (onV h l) j <;> cases bitT h.c.s2 j <;> simp
        · exact .inr m0
    · rw [if_neg (by rw [m]; decide)]
      refine .inr ⟨rfl, .inr fun m0 => ?_⟩
      unfold midV at m
      rw [m0] at m
      cases m

end Go.Proofs.Ytbdoiomnoajnpaa
