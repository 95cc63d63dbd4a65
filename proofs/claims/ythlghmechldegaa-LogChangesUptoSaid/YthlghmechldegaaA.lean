/- Numbers of members. -/
namespace Go.Proofs.Ythlghmechldegaa
/-- How many of the first n. -/
def cn (f : Nat → Bool) : Nat → Nat
  | 0 => 0
  | k + 1 => cn f k + (f k).toNat
theorem cn_le (f g : Nat → Bool) (n : Nat) (h : ∀ i, i < n → f i = true → g i = true) : cn f n ≤ cn g n := by
  induction n with
  | zero => exact Nat.le_refl _
  | succ n ih =>
    have h1 := ih fun i hi => h i (by omega)
    have h2 := h n (by omega)
    simp only [cn]
    cases hf : f n <;> cases hg : g n <;> simp_all <;> omega
theorem cn_same (f g : Nat → Bool) (n : Nat) (h : ∀ i, i < n → f i = g i) : cn f n = cn g n :=
  Nat.le_antisymm (cn_le f g n fun i hi e => (h i hi).symm.trans e) (cn_le g f n fun i hi e => (h i hi).trans e)
theorem cn_max (f : Nat → Bool) (n : Nat) : cn f n ≤ n := by
  induction n with
  | zero => exact Nat.le_refl _
  | succ n ih => simp only [cn]; cases f n <;> simp <;> omega
theorem cn_some (f : Nat → Bool) (n : Nat) (h : 1 ≤ cn f n) : ∃ i, i < n ∧ f i = true := by
  induction n with
  | zero => simp [cn] at h
  | succ n ih =>
    simp only [cn] at h
    cases hf : f n
    · rw [hf] at h
      obtain ⟨i, hi, e⟩ := ih (by simpa using h)
      exact ⟨i, by omega, e⟩
    · exact ⟨n, by omega, hf⟩
/-- More than half of s are among a. -/
def mj (s a : Nat → Bool) : Bool := decide (cn s 7 < 2 * cn (fun i => s i && a i) 7)
theorem mj_same (s a b : Nat → Bool) (h : ∀ i, i < 7 → a i = b i) : mj s a = mj s b := by
  unfold mj
  rw [cn_same (fun i => s i && a i) (fun i => s i && b i) 7 fun i hi => by simp [h i hi]]
theorem mj_both (s t a b : Nat → Bool) (hs : ∀ i, i < 7 → s i = t i) (h : ∀ i, i < 7 → a i = b i) : mj s a = mj t b := by
  unfold mj
  rw [cn_same (fun i => s i && a i) (fun i => t i && b i) 7 fun i hi => by simp [h i hi, hs i hi], cn_same s t 7 hs]
theorem cn_or (s t a b : Nat → Bool) (n : Nat) (h : ∀ i, i < n → (a i && b i && s i && t i) = false) : cn (fun i => s i && a i) n + cn (fun i => t i && b i) n ≤ cn (fun i => s i || t i) n := by
  induction n with
  | zero => exact Nat.le_refl _
  | succ n ih =>
    have h1 := ih fun i hi => h i (by omega)
    have h2 := h n (by omega)
    simp only [cn] at h1 ⊢
    generalize cn (fun i => s i && a i) n = x at *
    generalize cn (fun i => t i && b i) n = y at *
    generalize cn (fun i => s i || t i) n = z at *
    clear h ih
    revert h2
    cases s n <;> cases t n <;> cases a n <;> cases b n <;> simp <;> omega
theorem cn_two (s t : Nat → Bool) (n : Nat) : cn s n + cn t n + cn (fun i => s i != t i) n = 2 * cn (fun i => s i || t i) n := by
  induction n with
  | zero => rfl
  | succ n ih =>
    simp only [cn]
    generalize cn s n = x at *
    generalize cn t n = y at *
    generalize cn (fun i => s i || t i) n = z at *
    generalize cn (fun i => s i != t i) n = u at *
    cases s n <;> cases t n <;> simp <;> omega
theorem cn_one (f : Nat → Bool) (k n : Nat) (h : ∀ i, i < n → f i = true → i = k) : cn f n ≤ if k < n then 1 else 0 := by
  induction n with
  | zero => simp [cn]
  | succ n ih =>
    have h1 := ih fun i hi => h i (by omega)
    have h2 := h n (by omega)
    simp only [cn]
    cases hf : f n
    · simp only [Bool.toNat_false, Nat.add_zero]
      split at h1 <;> split <;> omega
    · have := h2 hf
      subst this
      rw [if_neg (by omega)] at h1
      rw [if_pos (by omega)]
      simp only [Bool.toNat_true]
      omega
/-- Two majorities of sets that differ in one member at most have a member in common. -/
theorem meet (s t a b : Nat → Bool) (k : Nat) (hd : ∀ i, i < 7 → s i ≠ t i → i = k) (h1 : mj s a = true) (h2 : mj t b = true) : ∃ i, i < 7 ∧ (a i && b i && s i && t i) = true := by
  apply Classical.byContradiction
  intro hn
  have h : ∀ i, i < 7 → (a i && b i && s i && t i) = false := fun i hi => by
    cases e : (a i && b i && s i && t i)
    · rfl
    · exact absurd ⟨i, hi, e⟩ hn
  have k1 := cn_or s t a b 7 h
  have k2 := cn_two s t 7
  have k3 := cn_one (fun i => s i != t i) k 7 fun i hi e => hd i hi (by simpa using e)
  have k4 := of_decide_eq_true h1
  have k5 := of_decide_eq_true h2
  have k6 : (if k < 7 then 1 else 0) ≤ 1 := by split <;> omega
  omega
/-- The greatest number that more than half have, of the first n. -/
def ag (s : Nat → Bool) (h : Nat → Int) : Nat → Int
  | 0 => 0
  | n + 1 => if (s n && decide (ag s h n < h n) && mj s (fun j => decide (h n ≤ h j))) = true then h n else ag s h n
theorem ag_has (s : Nat → Bool) (h : Nat → Int) (n : Nat) : ag s h n = 0 ∨ mj s (fun j => decide (ag s h n ≤ h j)) = true := by
  induction n with
  | zero => exact .inl rfl
  | succ n ih =>
    simp only [ag]
    split
    · rename_i e
      simp only [Bool.and_eq_true] at e
      exact .inr e.2
    · exact ih
theorem ag_mono (s : Nat → Bool) (h : Nat → Int) (n : Nat) : ag s h n ≤ ag s h (n + 1) := by
  simp only [ag]
  split
  · rename_i e
    simp only [Bool.and_eq_true, decide_eq_true_eq] at e
    omega
  · exact Int.le_refl _
theorem ag_top (s : Nat → Bool) (h : Nat → Int) (n : Nat) (i : Nat) (hi : i < n) (hs : s i = true) (hm : mj s (fun j => decide (h i ≤ h j)) = true) : h i ≤ ag s h n := by
  induction n with
  | zero => omega
  | succ n ih =>
    by_cases e : i = n
    · subst e
      simp only [ag, hs, hm, Bool.true_and, Bool.and_true, decide_eq_true_eq]
      split <;> omega
    · exact Int.le_trans (ih (by omega)) (ag_mono s h n)
theorem least (h : Nat → Int) (f : Nat → Bool) (n : Nat) (hf : ∃ i, i < n ∧ f i = true) : ∃ i, i < n ∧ f i = true ∧ ∀ j, j < n → f j = true → h i ≤ h j := by
  induction n with
  | zero => obtain ⟨i, hi, _⟩ := hf; omega
  | succ n ih =>
    by_cases hx : ∃ i, i < n ∧ f i = true
    · obtain ⟨i, hi, e, hm⟩ := ih hx
      by_cases hn : f n = true ∧ h n < h i
      · refine ⟨n, by omega, hn.1, fun j hj ej => ?_⟩
        by_cases hjn : j = n
        · subst hjn; exact Int.le_refl _
        · have := hm j (by omega) ej; omega
      · refine ⟨i, by omega, e, fun j hj ej => ?_⟩
        by_cases hjn : j = n
        · subst hjn
          have : ¬ h j < h i := fun hlt => hn ⟨ej, hlt⟩
          omega
        · exact hm j (by omega) ej
    · obtain ⟨i, hi, e⟩ := hf
      have hin : i = n := by
        apply Classical.byContradiction
        intro hne
        exact hx ⟨i, by omega, e⟩
      subst hin
      refine ⟨i, by omega, e, fun j hj ej => ?_⟩
      by_cases hjn : j = i
      · subst hjn; exact Int.le_refl _
      · exact absurd ⟨j, by omega, ej⟩ hx
theorem ag_above (s : Nat → Bool) (h : Nat → Int) : mj s (fun j => decide (ag s h 7 < h j)) = false := by
  cases hm : mj s (fun j => decide (ag s h 7 < h j))
  · rfl
  · have h1 : cn s 7 < 2 * cn (fun i => s i && decide (ag s h 7 < h i)) 7 := of_decide_eq_true hm
    obtain ⟨i, hi, e, hl⟩ := least h (fun i => s i && decide (ag s h 7 < h i)) 7 (cn_some _ 7 (by omega))
    simp only [Bool.and_eq_true, decide_eq_true_eq] at e hl
    have h2 : mj s (fun j => decide (h i ≤ h j)) = true := by
      refine decide_eq_true (Nat.lt_of_lt_of_le h1 (Nat.mul_le_mul_left 2 (cn_le _ _ 7 fun j hj ej => ?_)))
      simp only [Bool.and_eq_true, decide_eq_true_eq] at ej ⊢
      exact ⟨ej.1, hl j hj ej⟩
    have := ag_top s h 7 i hi e.1 h2
    omega
theorem ag_agreed (s : Nat → Bool) (h : Nat → Int) : ((decide (ag s h 7 = 0) || mj s (fun j => decide (ag s h 7 ≤ h j))) && !mj s (fun j => decide (ag s h 7 < h j))) = true := by
  rw [ag_above]
  rcases ag_has s h 7 with e | e <;> simp [e]
theorem ag_same (s t : Nat → Bool) (h g : Nat → Int) (n : Nat) (hn : n ≤ 7) (hs : ∀ i, i < 7 → s i = t i) (hh : ∀ i, i < 7 → h i = g i) : ag s h n = ag t g n := by
  induction n with
  | zero => rfl
  | succ n ih =>
    simp only [ag]
    rw [ih (by omega), hs n (by omega), hh n (by omega), mj_both s t (fun j => decide (g n ≤ h j)) (fun j => decide (g n ≤ g j)) hs fun i hi => by rw [hh i hi]]
end Go.Proofs.Ythlghmechldegaa
