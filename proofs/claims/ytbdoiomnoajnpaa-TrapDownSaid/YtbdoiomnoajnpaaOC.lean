/- The status word there and back. -/
import Derived.Test.YtbdoiomnoajnpaaOB
import Derived.Test.YtbdoiomnoajnpaaMA
namespace Go.Proofs.Ytbdoiomnoajnpaa
open Go.RowKit Go.Deep Go.Joins
theorem rright_iff (c : Reg) : rrightB c = true ↔ (c.s0 == stV c.s0) = true ∧ ((bits .andNot .u64 c.s1 46079) == 0) = true ∧ ((bits .andNot .u64 c.s2 546) == 0) = true ∧ ((bits .andNot .u64 c.s3 2730) == 0) = true ∧ ((bits .andNot .u64 c.s4 546) == 0) = true ∧ ((bits .and .u64 c.s5 2) == 0) = true ∧ ((bits .and .u64 c.s10 2) == 0) = true ∧ ((bits .and .u64 c.s7 1) == 0) = true ∧ ((bits .and .u64 c.s12 1) == 0) = true ∧ (spV 0 c.s15 == c.s15) = true := by
  unfold rrightB
  simp only [Bool.and_eq_true]
  simp only [and_assoc]
/-- A status word as it should be. -/
def Fine (s : Int) : Prop := bits .and .u64 s 924074 = s ∧ twoB s = false
theorem fine_iff (s : Int) (hs : U64 s) : (s == stV s) = true ↔ Fine s := by
  have h := stV_fix s hs
  rw [beq_iff_eq] at h ⊢
  exact ⟨fun e => h.1 e.symm, fun e => (h.2 e).symm⟩
theorem fine_of (s : Int) (hs : U64 s) (h : ∀ i, i < 64 → bitT s i = true → bitT 924074 i = true) (t : twoB s = false) : Fine s := by
  refine ⟨bit_ext _ _ (u64_bits _ _ _) hs fun i hi => ?_, t⟩
  rw [bit_and]
  have := h i hi
  revert this
  cases bitT s i <;> cases bitT 924074 i <;> simp
theorem Fine.in {s : Int} (f : Fine s) (i : Nat) (h : bitT s i = true) : bitT 924074 i = true := by
  have k := congrArg (fun y => bitT y i) f.1
  simp only [bit_and] at k
  rw [h] at k
  simpa using k
def midS (s : Int) (q : Bool) : Int := bits .andNot .u64 (wV (wV s 256 q) 32 (nzV s 2)) 2
def upS (s m : Int) : Int := bits .andNot .u64 (wV (bits .or .u64 (bits .andNot .u64 s 6144) (upX m)) 128 (nzV s 8)) 8
theorem mid_bit (s : Int) (q : Bool) (i : Nat) (hi : i < 64) : bitT (midS s q) i = (if i = 1 then false else if i = 5 then bitT s 1 else if i = 8 then q else bitT s i) := by
  unfold midS
  rw [bit_andNot _ _ _ hi, wV_bit _ _ _ _ hi, wV_bit _ _ _ _ hi, nz_bit s 2 1 (by omega) mk1, mk1 i hi, mk5 i hi, mk8 i hi]
  by_cases a : i = 1
  · simp [a]
  · by_cases b : i = 5
    · simp [b]
    · by_cases c : i = 8 <;> simp [a, b, c]
theorem up_bit (s m : Int) (i : Nat) (hi : i < 64) : bitT (upS s m) i = (if i = 3 then false else if i = 7 then bitT s 3 else if i = 11 ∨ i = 12 then bitT (upX m) i else bitT s i) := by
  unfold upS
  rw [bit_andNot _ _ _ hi, wV_bit _ _ _ _ hi, bit_or, bit_andNot _ _ _ hi, nz_bit s 8 3 (by omega) mk_3, mk_3 i hi, mk7 i hi, mkP i hi]
  have hx : bitT (upX m) i = (bitT (upX m) i && (decide (i = 11) || decide (i = 12))) := by
    unfold upX
    rw [bit_and, mkP i hi]
    cases decide (i = 11) <;> cases decide (i = 12) <;> simp
  by_cases a : i = 3
  · simp [a]
  · by_cases b : i = 7
    · simp [b]
    · by_cases c : i = 11
      · simp [c]
      · by_cases d : i = 12
        · simp [d]
        · have e : bitT (upX m) i = false := by rw [hx]; simp [c, d]
          rw [e]
          simp [a, b, c, d]
theorem mk924 : ∀ j, j < 64 → (j = 1 ∨ j = 3 ∨ j = 5 ∨ j = 7 ∨ j = 8 ∨ j = 11 ∨ j = 12 ∨ j = 17) → bitT 924074 j = true := by decide +kernel
theorem mid_fine (s : Int) (q : Bool) (f : Fine s) : Fine (midS s q) := by
  refine fine_of _ (u64_bits _ _ _) (fun i hi t => ?_) ?_
  · rw [mid_bit s q i hi] at t
    by_cases a : i = 1
    · simp [a] at t
    · by_cases b : i = 5
      · exact mk924 i hi (by omega)
      · by_cases c : i = 8
        · exact mk924 i hi (by omega)
        · exact f.in i (by simpa [a, b, c] using t)
  · unfold twoB
    rw [mid_bit s q 12 (by omega), mid_bit s q 11 (by omega)]
    exact f.2
theorem upX_two (m : Int) (hm : modeB m = true) : twoB (upX m) = false ∧ bitT (upX m) 11 = !(m == 0) ∧ bitT (upX m) 12 = (m == 3) := by
  unfold modeB at hm
  simp only [Bool.or_eq_true, beq_iff_eq] at hm
  rcases hm with (hm | hm) | hm
  all_goals subst hm; rw [upX_is]; decide +kernel
theorem up_fine (s m : Int) (hm : modeB m = true) (f : Fine s) : Fine (upS s m) := by
  refine fine_of _ (u64_bits _ _ _) (fun i hi t => ?_) ?_
  · rw [up_bit s m i hi] at t
    by_cases a : i = 3
    · simp [a] at t
    · by_cases b : i = 7
      · exact mk924 i hi (by omega)
      · by_cases c : i = 11 ∨ i = 12
        · exact mk924 i hi (by omega)
        · exact f.in i (by simpa [a, b, c] using t)
  · have e := (upX_two m hm).1
    unfold twoB at e ⊢
    rw [up_bit s m 12 (by omega), up_bit s m 11 (by omega)]
    exact e
/-- The way back from the upper mode. -/
theorem mpp_of (s m : Int) (hm : modeB m = true) : mppV (upS s m) = m := by
  have e : bits .and .u64 (upS s m) 6144 = upX m := by
    refine bit_ext _ _ (u64_bits _ _ _) (u64_bits _ _ _) fun i hi => ?_
    have hx : bitT (upX m) i = (bitT (upX m) i && (decide (i = 11) || decide (i = 12))) := by
      unfold upX
      rw [bit_and, mkP i hi]
      cases decide (i = 11) <;> cases decide (i = 12) <;> simp
    rw [bit_and, up_bit s m i hi, mkP i hi]
    by_cases c : i = 11
    · simp [c]
    · by_cases d : i = 12
      · simp [d]
      · rw [hx]
        simp [c, d]
  unfold mppV
  rw [e, upX_is]
  unfold modeB at hm
  simp only [Bool.or_eq_true, beq_iff_eq] at hm
  rcases hm with (hm | hm) | hm
  all_goals subst hm; rfl
theorem mret_bit (s q : Int) (i : Nat) (hi : i < 64) : bitT (mretS s q) i = (if i = 7 then true else if i = 11 ∨ i = 12 then false else if i = 17 ∧ (q != 3) = true then false else if i = 3 then bitT s 7 else bitT s i) := by
  have key : bitT (bits .andNot .u64 (bits .or .u64 (wV s 8 (nzV s 128)) 128) 6144) i = (if i = 7 then true else if i = 11 ∨ i = 12 then false else if i = 3 then bitT s 7 else bitT s i) := by
    rw [bit_andNot _ _ _ hi, bit_or, wV_bit _ _ _ _ hi, nz_bit s 128 7 (by omega) mk7, mk7 i hi, mk_3 i hi, mkP i hi]
    by_cases a : i = 7
    · simp [a]
    · by_cases b : i = 11 ∨ i = 12
      · rcases b with b | b <;> simp [b]
      · have b1 : ¬ i = 11 := fun e => b (.inl e)
        have b2 : ¬ i = 12 := fun e => b (.inr e)
        by_cases c : i = 3 <;> simp [a, b1, b2, c]
  unfold mretS
  rcases Bool.eq_false_or_eq_true (q != 3) with hq | hq
  · rw [hq, if_pos rfl, bit_andNot _ _ _ hi, key, mk17 i hi]
    by_cases a : i = 7
    · simp [a]
    · by_cases b : i = 11 ∨ i = 12
      · rcases b with b | b <;> simp [b]
      · by_cases d : i = 17 <;> simp [a, b, d]
  · rw [hq, if_neg (by decide), key]
    simp
theorem sret_bit (s : Int) (i : Nat) (hi : i < 64) : bitT (sretS s) i = (if i = 5 then true else if i = 8 ∨ i = 17 then false else if i = 1 then bitT s 5 else bitT s i) := by
  unfold sretS
  rw [bit_andNot _ _ _ hi, bit_or, wV_bit _ _ _ _ hi, nz_bit s 32 5 (by omega) mk5, mk5 i hi, mk1 i hi, mkB i hi, mk8 i hi, mk17 i hi]
  by_cases a : i = 5
  · simp [a]
  · by_cases b : i = 8
    · simp [b]
    · by_cases c : i = 17
      · simp [c]
      · by_cases d : i = 1 <;> simp [a, b, c, d]
theorem mret_fine (s q : Int) (f : Fine s) : Fine (mretS s q) := by
  refine fine_of _ (by unfold mretS; split <;> exact u64_bits _ _ _) (fun i hi t => ?_) ?_
  · rw [mret_bit s q i hi] at t
    by_cases a : i = 7
    · exact mk924 i hi (by omega)
    · by_cases b : i = 11 ∨ i = 12
      · simp [b] at t
        omega
      · by_cases d : i = 17
        · exact mk924 i hi (by omega)
        · by_cases c : i = 3
          · exact mk924 i hi (by omega)
          · exact f.in i (by simpa [a, b, c, d] using t)
  · unfold twoB
    rw [mret_bit s q 12 (by omega)]
    rfl
theorem sret_fine (s : Int) (f : Fine s) : Fine (sretS s) := by
  refine fine_of _ (u64_bits _ _ _) (fun i hi t => ?_) ?_
  · rw [sret_bit s i hi] at t
    by_cases a : i = 5
    · exact mk924 i hi (by omega)
    · by_cases b : i = 8 ∨ i = 17
      · simp [b] at t
        omega
      · by_cases d : i = 1
        · exact mk924 i hi (by omega)
        · exact f.in i (by simpa [a, b, d] using t)
  · unfold twoB
    rw [sret_bit s 12 (by omega), sret_bit s 11 (by omega)]
    exact f.2
theorem even_clear (x : Int) : (bits .and .u64 (bits .andNot .u64 x 1) 1 == 0) = true := by
  rw [beq_iff_eq]
  refine bit_ext _ _ (u64_bits _ _ _) u64_zero fun i hi => ?_
  rw [bit_and, bit_andNot _ _ _ hi, bit_zero]
  cases bitT x i <;> cases bitT 1 i <;> rfl
theorem even_same (x : Int) (hx : U64 x) (h : (bits .and .u64 x 1 == 0) = true) : bits .andNot .u64 x 1 = x := by
  rw [beq_iff_eq] at h
  refine bit_ext _ _ (u64_bits _ _ _) hx fun i hi => ?_
  have k := congrArg (fun y => bitT y i) h
  simp only [bit_and, bit_zero] at k
  rw [bit_andNot _ _ _ hi]
  revert k
  cases bitT x i <;> cases bitT 1 i <;> simp
theorem even_mod (x : Int) (hx : U64 x) : (bits .and .u64 x 1 == 0) = true ↔ x % 2 = 0 := by
  have h := and_one x hx 0 (by omega)
  have b := bit_of x hx 0 (by omega)
  have e : x / 2 ^ 0 = x := by simp
  rw [e] at h b
  rw [h, b]
  simp only [decide_eq_true_eq]
  by_cases c : x % 2 = 1
  · simp [c]
  · rw [if_neg c]
    simp
    omega
theorem clear3 (v : Int) : bits .andNot .u64 v 3 % 2 = 0 := by
  have hu := u64_bits .andNot v 3
  have b := bit_of _ hu 0 (by omega)
  rw [bit_andNot _ _ 0 (by omega), mk3 0 (by omega)] at b
  simp at b
  omega
theorem entry_even (v t : Int) : (bits .and .u64 (entryV v t) 1 == 0) = true := by
  have c := clear3 v
  unfold entryV
  split
  · rw [even_mod _ (by rw [IntKind.wrap_u64]; exact ⟨by omega, by omega⟩), IntKind.wrap_u64, IntKind.wrap_u64]
    omega
  · exact (even_mod _ (u64_bits _ _ _)).2 c
theorem u64_entry (v t : Int) : U64 (entryV v t) := by
  unfold entryV
  split
  · rw [IntKind.wrap_u64]
    exact ⟨by omega, by omega⟩
  · exact u64_bits _ _ _

end Go.Proofs.Ytbdoiomnoajnpaa
