/- What the best source is; bits of the sources alone. -/
import Derived.Test.YtmpmgepffphnfaaF
import Derived.Test.YtmpmgepffphnfaaE
namespace Go.Proofs.Ytmpmgepffphnfaa
open Go.RowKit Go.Deep Go.Joins
/-- What the mode's number is, of any number. -/
theorem who_and (x : Int) : bits .and .i64 x 1 = 0 ∨ bits .and .i64 x 1 = 1 := by
  have e : bits .and .i64 x 1 = IntKind.i64.wrap (((BitVec.ofInt 64 x &&& BitVec.ofInt 64 1).toNat : Nat) : Int) := rfl
  have h : (BitVec.ofInt 64 x &&& BitVec.ofInt 64 1).toNat = (BitVec.ofInt 64 x).toNat % 2 := by
    rw [BitVec.toNat_and, show (BitVec.ofInt 64 1).toNat = 1 from rfl, Nat.and_one_is_mod]
  rw [e, h]
  rcases Nat.mod_two_eq_zero_or_one (BitVec.ofInt 64 x).toNat with m | m <;> rw [m]
  · exact .inl (by decide +kernel)
  · exact .inr (by decide +kernel)
theorem bit14_k (k : Nat) (hk : 1 ≤ k ∧ k ≤ 3) : bitT 14 k = true := by
  rw [bit14 k (by omega)]
  match k, hk with
  | 1, _ => rfl
  | 2, _ => rfl
  | 3, _ => rfl
  | k + 4, h => omega
theorem on_bits (h : Pl) (s e : Int) (k : Nat) (hk : 1 ≤ k ∧ k ≤ 3) : onB h s e k = ((bitT s k && !bitT h.c k) && bitT e k) := by
  unfold onB waitV
  rw [bit_and, bit_and, bit_andNot _ _ k (by omega), bit14_k k hk, Bool.and_true]
/-- What the best source is, by the three that may be it. -/
theorem pick_facts (m1 m2 m3 : Bool) (p1 p2 p3 l : Int) :
    let r := (stepB m3 3 p3 (stepB m2 2 p2 (stepB m1 1 p1 (0, l)))).1
    (r = 0 ∧ ¬ (m1 = true ∧ l < p1) ∧ ¬ (m2 = true ∧ l < p2) ∧ ¬ (m3 = true ∧ l < p3)) ∨
    (r = 1 ∧ (m1 = true ∧ l < p1) ∧ ((m2 = true ∧ l < p2) → p2 ≤ p1) ∧ ((m3 = true ∧ l < p3) → p3 ≤ p1)) ∨
    (r = 2 ∧ (m2 = true ∧ l < p2) ∧ ((m1 = true ∧ l < p1) → p1 < p2) ∧ ((m3 = true ∧ l < p3) → p3 ≤ p2)) ∨
    (r = 3 ∧ (m3 = true ∧ l < p3) ∧ ((m1 = true ∧ l < p1) → p1 < p3) ∧ ((m2 = true ∧ l < p2) → p2 < p3)) := by
  intro r
  have h1 : stepB m1 1 p1 (0, l) = if m1 = true ∧ l < p1 then (1, p1) else (0, l) := by
    unfold stepB
    by_cases g : m1 = true ∧ l < p1
    · rw [if_pos g, if_pos (by simp [g.1, g.2])]
    · rw [if_neg g, if_neg (by simpa using g)]
  have st : ∀ (m : Bool) (k q b t : Int), stepB m k q (b, t) = if m = true ∧ t < q then (k, q) else (b, t) := fun m k q b t => by
    unfold stepB
    by_cases g : m = true ∧ t < q
    · rw [if_pos g, if_pos (by simp [g.1, g.2])]
    · rw [if_neg g, if_neg (by simpa using g)]
  have hr : r = (stepB m3 3 p3 (stepB m2 2 p2 (stepB m1 1 p1 (0, l)))).1 := rfl
  rw [h1] at hr
  clear h1
  clear_value r
  by_cases g1 : m1 = true ∧ l < p1
  · rw [if_pos g1, st m2 2 p2 1 p1] at hr
    by_cases g2 : m2 = true ∧ p1 < p2
    · rw [if_pos g2, st] at hr
      by_cases g3 : m3 = true ∧ p2 < p3
      · rw [if_pos g3] at hr
        exact .inr (.inr (.inr ⟨hr, ⟨g3.1, by omega⟩, fun _ => by omega, fun _ => by omega⟩))
      · rw [if_neg g3] at hr
        exact .inr (.inr (.inl ⟨hr, ⟨g2.1, by omega⟩, fun _ => by omega, fun a => Int.not_lt.1 fun b => g3 ⟨a.1, b⟩⟩))
    · rw [if_neg g2, st] at hr
      by_cases g3 : m3 = true ∧ p1 < p3
      · rw [if_pos g3] at hr
        exact .inr (.inr (.inr ⟨hr, ⟨g3.1, by omega⟩, fun _ => by omega, fun a => by have := Int.not_lt.1 fun b => g2 ⟨a.1, b⟩; omega⟩))
      · rw [if_neg g3] at hr
        exact .inr (.inl ⟨hr, g1, fun a => Int.not_lt.1 fun b => g2 ⟨a.1, b⟩, fun a => Int.not_lt.1 fun b => g3 ⟨a.1, b⟩⟩)
  · rw [if_neg g1, st m2 2 p2 0 l] at hr
    by_cases g2 : m2 = true ∧ l < p2
    · rw [if_pos g2, st] at hr
      by_cases g3 : m3 = true ∧ p2 < p3
      · rw [if_pos g3] at hr
        exact .inr (.inr (.inr ⟨hr, ⟨g3.1, by omega⟩, fun a => absurd a g1, fun _ => by omega⟩))
      · rw [if_neg g3] at hr
        exact .inr (.inr (.inl ⟨hr, g2, fun a => absurd a g1, fun a => Int.not_lt.1 fun b => g3 ⟨a.1, b⟩⟩))
    · rw [if_neg g2, st] at hr
      by_cases g3 : m3 = true ∧ l < p3
      · rw [if_pos g3] at hr
        exact .inr (.inr (.inr ⟨hr, g3, fun a => absurd a g1, fun a => absurd a g2⟩))
      · rw [if_neg g3] at hr
        exact .inl ⟨hr, g1, g2, g3⟩
def prioK (h : Pl) : Nat → Int
  | 1 => h.p1
  | 2 => h.p2
  | _ => h.p3
/-- The best source is one that is on. -/
theorem st_on (h : Pl) (s e l : Int) (k : Nat) (hk : 1 ≤ k ∧ k ≤ 3) (hb : (stB h s e l 4).1 = k) : onB h s e k = true := by
  have f := pick_facts (onB h s e 1) (onB h s e 2) (onB h s e 3) h.p1 h.p2 h.p3 l
  have hb2 : (stepB (onB h s e 3) 3 h.p3 (stepB (onB h s e 2) 2 h.p2 (stepB (onB h s e 1) 1 h.p1 (0, l)))).1 = k := hb
  rw [hb2] at f
  match k, hk, f with
  | 1, _, f => rcases f with f | f | f | f <;> first | exact f.2.1.1 | (have := f.1; omega)
  | 2, _, f => rcases f with f | f | f | f <;> first | exact f.2.1.1 | (have := f.1; omega)
  | 3, _, f => rcases f with f | f | f | f <;> first | exact f.2.1.1 | (have := f.1; omega)
  | k + 4, hk, _ => omega
theorem best_on (h : Pl) (s : Int) (who k : Nat) (hk : 1 ≤ k ∧ k ≤ 3) (hb : bestF h s who = k) : (who = 0 ∧ onB h s h.e0 k = true) ∨ (who = 1 ∧ onB h s h.e1 k = true) := by
  unfold bestF at hb
  split at hb
  · rename_i hw
    exact .inl ⟨by omega, st_on h s _ _ k hk hb⟩
  · split at hb
    · rename_i hw
      exact .inr ⟨by omega, st_on h s _ _ k hk hb⟩
    · omega
/-- A source that is claimed is nobody's best. -/
theorem best_claimed (h : Pl) (s : Int) (who k : Nat) (hk : 1 ≤ k ∧ k ≤ 3) (hc : bitT h.c k = true) : (bestF h s who == k) = false := by
  rw [beq_eq_false_iff_ne]
  intro e
  rcases best_on h s who k hk e with ⟨_, g⟩ | ⟨_, g⟩
  all_goals
    rw [on_bits h s _ k hk, hc] at g
    simp at g
theorem bit_wt_self (k : Nat) (hk : 1 ≤ k ∧ k ≤ 3) : bitT (wt k) k = true := by rw [bit_wt k hk k (by omega)]; simp
/-- What was claimed and is written back is as before. -/
theorem claim_back (c : Int) (hc : U32 c) (k : Nat) (hk : 1 ≤ k ∧ k ≤ 3) (hn : bitT c k = false) : bits .andNot .u32 (bits .or .u32 c (wt k)) (wt k) = c := by
  apply bit_ext _ _ (u32_andNot _ _) hc
  intro i hi
  rw [bit_andNot _ _ i hi, bit_or, bit_wt k hk i hi]
  by_cases e : i = k
  · subst e
    rw [hn]
    simp
  · have : (i == k) = false := by simp [e]
    rw [this]
    simp
/-- Bits of the sources alone. -/
theorem only_iff (x : Int) : onlyB x = true ↔ ∀ i, i < 32 → (bitT x i && !bitT 14 i) = false := by
  unfold onlyB
  rw [beq_iff_eq]
  constructor
  · intro h i hi
    rw [← bit_andNot x 14 i hi, h, bit_zero]
  · intro h
    apply bit_ext _ _ (u32_andNot _ _) u32_zero
    intro i hi
    rw [bit_andNot x 14 i hi, h i hi, bit_zero]
theorem only_or (a b : Int) (ha : onlyB a = true) (hb : onlyB b = true) : onlyB (bits .or .u32 a b) = true := by
  rw [only_iff] at *
  intro i hi
  have h1 := ha i hi
  have h2 := hb i hi
  rw [bit_or]
  revert h1 h2
  cases bitT a i <;> cases bitT b i <;> cases bitT 14 i <;> decide
theorem only_andNot (a b : Int) (ha : onlyB a = true) : onlyB (bits .andNot .u32 a b) = true := by
  rw [only_iff] at *
  intro i hi
  have h1 := ha i hi
  rw [bit_andNot a b i hi]
  revert h1
  cases bitT a i <;> cases bitT b i <;> cases bitT 14 i <;> decide
theorem only_and (a : Int) : onlyB (bits .and .u32 a 14) = true := by
  rw [only_iff]
  intro i _
  rw [bit_and]
  cases bitT a i <;> cases bitT 14 i <;> decide
theorem only_wt (k : Int) : onlyB (wt k) = true := by
  by_cases h1 : k = 1
  · subst h1; decide +kernel
  by_cases h2 : k = 2
  · subst h2; decide +kernel
  by_cases h3 : k = 3
  · subst h3; decide +kernel
  have e : wt k = 0 := by
    unfold wt
    split <;> first | rfl | omega
  rw [e]
  decide +kernel
theorem and_seven (a : Int) : bits .and .u32 a 7 ≤ 7 := by
  have e : bits .and .u32 a 7 = IntKind.u32.wrap (((BitVec.ofInt 32 a &&& BitVec.ofInt 32 7).toNat : Nat) : Int) := rfl
  have h : (BitVec.ofInt 32 a &&& BitVec.ofInt 32 7).toNat ≤ 7 := by
    rw [BitVec.toNat_and, show (BitVec.ofInt 32 7).toNat = 7 from rfl]
    exact Nat.and_le_right
  rw [e, IntKind.wrap_u32]
  omega

end Go.Proofs.Ytmpmgepffphnfaa
