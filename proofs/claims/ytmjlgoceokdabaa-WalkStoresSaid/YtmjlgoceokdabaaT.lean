/- The laws, in plain words: one page; what may be stored may be loaded; the causes. -/
import Derived.Test.YtmjlgoceokdabaaS
namespace Go.Proofs.Ytmjlgoceokdabaa
open Go.RowKit Go.Deep Go.Joins
/-! ### Addresses of one page -/
theorem bit_div (x : Int) (hx : U64 x) (i : Nat) (hi : i + 12 < 64) : bitT (x / 4096) i = bitT x (i + 12) := by
  have h1 := hx.1
  have h2 := hx.2
  rw [bit_of (x / 4096) ⟨by omega, by omega⟩ i (by omega), bit_of x hx (i + 12) hi]
  have e : x / 4096 / (2 : Int) ^ i = x / (2 : Int) ^ (i + 12) := by
    rw [Int.ediv_ediv_of_nonneg (by omega), Int.pow_add, Int.mul_comm]
    rfl
  rw [e]
theorem bit_div_hi (x : Int) (hx : U64 x) (i : Nat) (hi : 64 ≤ i + 12) (hi2 : i < 64) : bitT (x / 4096) i = false := by
  have h1 := hx.1
  have h2 := hx.2
  rw [bit_of (x / 4096) ⟨by omega, by omega⟩ i hi2]
  have e : x / 4096 / (2 : Int) ^ i = 0 := by
    apply Int.ediv_eq_zero_of_lt (by omega)
    have h3 : (2 : Nat) ^ 52 ≤ (2 : Nat) ^ i := Nat.pow_le_pow_right (by omega) (by omega)
    have h52 : (2 : Nat) ^ 52 = 4503599627370496 := by decide
    have hc : ((2 ^ i : Nat) : Int) = (2 : Int) ^ i := by simp
    rw [← hc]
    generalize (2 : Nat) ^ i = y at *
    omega
  rw [e]
  rfl
/-- The other address. -/
def otherV (t low : Int) : Int := bits .or .u64 (bits .andNot .u64 t 4095) (bits .and .u64 low 4095)
theorem other_u64 (t low : Int) : U64 (otherV t low) := u64_bits _ _ _
theorem mask12 : ∀ j, j < 64 → bitT 4095 j = decide (j < 12) := by
  intro j hj
  have h : ∀ j : Fin 64, bitT 4095 j.val = decide (j.val < 12) := by decide +kernel
  exact h ⟨j, hj⟩
theorem other_div (t low : Int) (ht : U64 t) : otherV t low / 4096 = t / 4096 := by
  have hu := other_u64 t low
  have a1 := ht.1
  have a2 := ht.2
  have a3 := hu.1
  have a4 := hu.2
  refine bit_ext _ _ ⟨by omega, by omega⟩ ⟨by omega, by omega⟩ fun i hi => ?_
  by_cases h : i + 12 < 64
  · rw [bit_div _ hu i h, bit_div _ ht i h]
    unfold otherV
    rw [bit_or, bit_andNot _ _ _ h, bit_and, mask12 _ h]
    have e : decide (i + 12 < 12) = false := by simp
    rw [e]
    simp
  · rw [bit_div_hi _ hu i (by omega) hi, bit_div_hi _ ht i (by omega) hi]
theorem sign_page (t o : Int) (ht : U64 t) (ho : U64 o) (h : o / 4096 = t / 4096) : signB o = signB t := by
  have e : topV o = topV t := by
    obtain ⟨a1, a2⟩ := ht
    obtain ⟨a3, a4⟩ := ho
    unfold topV wrap64
    omega
  unfold signB
  rw [e]
theorem div_page (t o : Int) (k : Nat) (h : o / 4096 = t / 4096) : o / 2 ^ (12 + 9 * k) = t / 2 ^ (12 + 9 * k) := by
  have e : (2 : Int) ^ (12 + 9 * k) = 4096 * 2 ^ (9 * k) := by rw [Int.pow_add]; rfl
  rw [e, ← Int.ediv_ediv_of_nonneg (by omega), ← Int.ediv_ediv_of_nonneg (by omega), h]
theorem choice_page (t o : Int) (k : Nat) (h : o / 4096 = t / 4096) : choiceV o k = choiceV t k := by
  unfold choiceV
  rw [div_page t o k h]
theorem addr_page (tb t o : Int) (k : Nat) (h : o / 4096 = t / 4096) : addrV tb o k = addrV tb t k := by
  unfold addrV
  rw [choice_page t o k h]
/-- A page's beginning and an address's low bits. -/
theorem or_page (p t : Int) (n : Nat) (hn : n ≤ 63) (hp : U64 p) (ht : U64 t) (h : (bits .and .u64 p (2 ^ n - 1) != 0) = false) : bits .or .u64 p (bits .and .u64 t (2 ^ n - 1)) = p + t % 2 ^ n := by
  obtain ⟨a, rfl⟩ := Int.eq_ofNat_of_zero_le hp.1
  obtain ⟨b, rfl⟩ := Int.eq_ofNat_of_zero_le ht.1
  have h1 := hp.2
  have h2 := ht.2
  have hpow : (2 : Nat) ^ n ≤ 2 ^ 63 := Nat.pow_le_pow_right (by omega) hn
  have h63 : (2 : Nat) ^ 63 = 9223372036854775808 := by decide
  have hpos : 0 < (2 : Nat) ^ n := Nat.pow_pos (by omega)
  have em : (2 : Int) ^ n - 1 = ((2 ^ n - 1 : Nat) : Int) := by
    rw [Int.natCast_sub hpos]
    simp
  have e0 : bits .and .u64 (a : Int) ((2 ^ n - 1 : Nat) : Int) = ((a % 2 ^ n : Nat) : Int) := by
    rw [bits_and_u64_nat a (2 ^ n - 1) (by omega) (by omega), Nat.and_two_pow_sub_one_eq_mod]
  have e1 : bits .and .u64 (b : Int) ((2 ^ n - 1 : Nat) : Int) = ((b % 2 ^ n : Nat) : Int) := by
    rw [bits_and_u64_nat b (2 ^ n - 1) (by omega) (by omega), Nat.and_two_pow_sub_one_eq_mod]
  rw [em, e0] at h
  rw [em, e1]
  have hz : a % 2 ^ n = 0 := by
    have : ((a % 2 ^ n : Nat) : Int) = 0 := by simpa using h
    omega
  have hlt : b % 2 ^ n < 2 ^ n := Nat.mod_lt _ hpos
  rw [bits_or_u64_nat a (b % 2 ^ n) (by omega) (by omega)]
  have ea : a = 2 ^ n * (a / 2 ^ n) := by
    have := Nat.div_add_mod a (2 ^ n)
    omega
  have eo : a ||| b % 2 ^ n = a + b % 2 ^ n := by
    have k := Nat.two_pow_add_eq_or_of_lt hlt (a / 2 ^ n)
    rw [← ea] at k
    exact k.symm
  rw [eo]
  simp
/-- Found likewise: both told why not, or both at addresses that differ as the addresses do. -/
def Likewise (t o : Int) (r s : Int × Int) : Prop := r.2 = s.2 ∧ (0 ≤ r.2 ∨ IntKind.u64.wrap (r.1 - t) = IntKind.u64.wrap (s.1 - o))
theorem Likewise.same {t o : Int} (c : Int) (h : 0 ≤ c) : Likewise t o (0, c) (0, c) := ⟨rfl, .inl h⟩
theorem page_nn (kind : Int) : 0 ≤ pageV kind := by unfold pageV; split <;> (try split) <;> omega
theorem acc_nn (kind : Int) : 0 ≤ accV kind := by unfold accV; split <;> (try split) <;> omega
theorem go_page (D : List UInt8) (ms md t o kind : Int) (ht : U64 t) (ho : U64 o) (h : o / 4096 = t / 4096) (k : Nat) (hk : k ≤ 3) : ∀ tb, Likewise t o (goF D ms md t kind k tb) (goF D ms md o kind k tb) := by
  induction k with
  | zero => intro tb; exact .same _ (page_nn kind)
  | succ k ih =>
    intro tb
    rw [goF_at D ms md t kind tb _ _ _ k rfl rfl rfl, goF_at D ms md o kind tb _ _ _ k rfl rfl rfl, addr_page tb t o k h]
    have hp := place_u64 (ldV D (addrV tb t k) 8 / 1024)
    generalize ldV D (addrV tb t k) 8 = e at *
    generalize stE D.length (addrV tb t k) 8 = s
    generalize placeV (e / 1024) = p at *
    by_cases h1 : s ≠ 0
    · rw [if_pos h1, if_pos h1]; exact .same _ (acc_nn kind)
    rw [if_neg h1, if_neg h1]
    by_cases h2 : rightB e = false
    · rw [if_pos h2, if_pos h2]; exact .same _ (page_nn kind)
    rw [if_neg h2, if_neg h2]
    by_cases h3 : (bits .and .u64 e 10 == 0) = true
    · rw [if_pos h3, if_pos h3]; exact ih (by omega) p
    rw [if_neg h3, if_neg h3]
    by_cases h4 : (bits .and .u64 p (lowV k) != 0) = true
    · rw [if_pos h4, if_pos h4]; exact .same _ (page_nn kind)
    rw [if_neg h4, if_neg h4]
    by_cases h5 : usedB ms md e kind = false
    · rw [if_pos h5, if_pos h5]; exact .same _ (page_nn kind)
    rw [if_neg h5, if_neg h5]
    refine ⟨rfl, .inr ?_⟩
    have h6 : (bits .and .u64 p (2 ^ (12 + 9 * k) - 1) != 0) = false := by simpa [lowV] using h4
    unfold lowV
    show IntKind.u64.wrap (bits .or .u64 p (bits .and .u64 t (2 ^ (12 + 9 * k) - 1)) - t) = IntKind.u64.wrap (bits .or .u64 p (bits .and .u64 o (2 ^ (12 + 9 * k) - 1)) - o)
    rw [or_page p t _ (by omega) hp ht h6, or_page p o _ (by omega) hp ho h6]
    have hd := div_page t o k h
    have at1 := Int.mul_ediv_add_emod t (2 ^ (12 + 9 * k))
    have at2 := Int.mul_ediv_add_emod o (2 ^ (12 + 9 * k))
    rw [hd] at at2
    congr 1
    omega
theorem find_page (D : List UInt8) (ms sp m t low kind : Int) (ht : U64 t) : Likewise t (otherV t low) (findF D ms sp m t kind) (findF D ms sp m (otherV t low) kind) := by
  have hu := other_u64 t low
  have hd := other_div t low ht
  generalize otherV t low = o at *
  unfold findF
  by_cases h1 : kind < 0 ∨ 2 < kind
  · rw [if_pos h1, if_pos h1]; exact .same _ (by omega)
  rw [if_neg h1, if_neg h1]
  by_cases h2 : 3 ≤ modeV ms m kind
  · rw [if_pos h2, if_pos h2]
    exact ⟨rfl, .inr (by show IntKind.u64.wrap (t - t) = IntKind.u64.wrap (o - o); rw [Int.sub_self, Int.sub_self])⟩
  rw [if_neg h2, if_neg h2]
  by_cases h3 : (sp / 1152921504606846976 != 8) = true
  · rw [if_pos h3, if_pos h3]
    exact ⟨rfl, .inr (by show IntKind.u64.wrap (t - t) = IntKind.u64.wrap (o - o); rw [Int.sub_self, Int.sub_self])⟩
  rw [if_neg h3, if_neg h3, sign_page t o ht hu hd]
  by_cases h4 : signB t = false
  · rw [if_pos h4, if_pos h4]; exact .same _ (page_nn kind)
  rw [if_neg h4, if_neg h4]
  exact go_page D ms _ t o kind ht hu hd 3 (by omega) _
/-! ### What may be stored may be loaded -/
theorem go_ways (D : List UInt8) (ms md t kind : Int) (k : Nat) : ∀ tb, goF D ms md t kind k tb = (0, pageV kind) ∨ goF D ms md t kind k tb = (0, accV kind) ∨ (goF D ms md t kind k tb).2 = -1 := by
  induction k with
  | zero => intro tb; exact .inl rfl
  | succ k ih =>
    intro tb
    rw [goF_at D ms md t kind tb _ _ _ k rfl rfl rfl]
    generalize ldV D (addrV tb t k) 8 = e at *
    generalize stE D.length (addrV tb t k) 8 = s
    split
    · exact .inr (.inl rfl)
    split
    · exact .inl rfl
    split
    · exact ih _
    split
    · exact .inl rfl
    split
    · exact .inl rfl
    · exact .inr (.inr rfl)
theorem bit6 (i : Nat) (hi : i < 64) : bitT 6 i = (decide (i = 1) || decide (i = 2)) := by
  have h : ∀ i : Fin 64, bitT 6 i.val = (decide (i.val = 1) || decide (i.val = 2)) := by decide +kernel
  exact h ⟨i, hi⟩
theorem bit4 (i : Nat) (hi : i < 64) : bitT 4 i = decide (i = 2) := by
  have h : ∀ i : Fin 64, bitT 4 i.val = decide (i.val = 2) := by decide +kernel
  exact h ⟨i, hi⟩
/-- An entry that may be, and may be written, may be read. -/
theorem right_w (e : Int) (hr : rightB e = true) (hw : nzV e 4 = true) : nzV e 2 = true := by
  have w2 : bitT e 2 = true := (nz_bit e 4 2 (by omega) (fun j hj => bit4 j hj)).symm.trans hw
  have h1 : nzV e 2 = bitT e 1 := nz_bit e 2 1 (by omega) (fun j hj => by
    have h : ∀ i : Fin 64, bitT 2 i.val = decide (i.val = 1) := by decide +kernel
    exact h ⟨j, hj⟩)
  rw [h1]
  rcases Bool.eq_false_or_eq_true (bitT e 1) with k | k
  · exact k
  · exfalso
    have : bits .and .u64 e 6 = 4 := by
      refine bit_ext _ _ (u64_bits _ _ _) ⟨by omega, by omega⟩ fun i hi => ?_
      rw [bit_and, bit6 i hi, bit4 i hi]
      by_cases a : i = 1
      · subst a; rw [k]; rfl
      · by_cases b : i = 2
        · subst b; rw [w2]; rfl
        · simp [a, b]
    unfold rightB at hr
    rw [this] at hr
    simp at hr
theorem used_store (ms md e : Int) (hr : rightB e = true) (h : usedB ms md e 2 = true) : usedB ms md e 1 = true := by
  unfold usedB at *
  have em : mayB ms md (nzV e 16) 2 = mayB ms md (nzV e 16) 1 := rfl
  rw [em] at h
  split at h
  · simp at h
  · rename_i hn
    rw [if_neg hn]
    have h2 : (nzV e 4 && nzV e 128) = true := by simpa using h
    have h3 := right_w e hr (by simp_all)
    simp [h3]
theorem go_store (D : List UInt8) (ms md t : Int) (k : Nat) : ∀ tb, (goF D ms md t 2 k tb).2 = -1 → goF D ms md t 1 k tb = goF D ms md t 2 k tb := by
  induction k with
  | zero => intro tb h; exact absurd h (by show ¬ pageV 2 = -1; decide)
  | succ k ih =>
    intro tb
    rw [goF_at D ms md t 2 tb _ _ _ k rfl rfl rfl, goF_at D ms md t 1 tb _ _ _ k rfl rfl rfl]
    generalize ldV D (addrV tb t k) 8 = e at *
    generalize stE D.length (addrV tb t k) 8 = s
    by_cases h1 : s ≠ 0
    · rw [if_pos h1]; intro h; exact absurd h (by show ¬ accV 2 = -1; decide)
    rw [if_neg h1, if_neg h1]
    by_cases h2 : rightB e = false
    · rw [if_pos h2]; intro h; exact absurd h (by show ¬ pageV 2 = -1; decide)
    rw [if_neg h2, if_neg h2]
    by_cases h3 : (bits .and .u64 e 10 == 0) = true
    · rw [if_pos h3, if_pos h3]; exact ih _
    rw [if_neg h3, if_neg h3]
    by_cases h4 : (bits .and .u64 (placeV (e / 1024)) (lowV k) != 0) = true
    · rw [if_pos h4]; intro h; exact absurd h (by show ¬ pageV 2 = -1; decide)
    rw [if_neg h4, if_neg h4]
    by_cases h5 : usedB ms md e 2 = false
    · rw [if_pos h5]; intro h; exact absurd h (by show ¬ pageV 2 = -1; decide)
    · have h6 := used_store ms md e (by simpa using h2) (by simpa using h5)
      rw [if_neg h5, if_neg (by rw [h6]; decide)]
      intro _; rfl
theorem find_store (D : List UInt8) (ms sp m t : Int) : (findF D ms sp m t 2).2 = -1 → findF D ms sp m t 1 = findF D ms sp m t 2 := by
  have em : modeV ms m 2 = modeV ms m 1 := rfl
  unfold findF
  rw [em]
  rw [if_neg (show ¬ ((2 : Int) < 0 ∨ (2 : Int) < 2) by omega), if_neg (show ¬ ((1 : Int) < 0 ∨ (2 : Int) < 1) by omega)]
  by_cases h2 : 3 ≤ modeV ms m 1
  · rw [if_pos h2, if_pos h2]; intro _; rfl
  rw [if_neg h2, if_neg h2]
  by_cases h3 : (sp / 1152921504606846976 != 8) = true
  · rw [if_pos h3, if_pos h3]; intro _; rfl
  rw [if_neg h3, if_neg h3]
  by_cases h4 : signB t = false
  · rw [if_pos h4]; intro h; exact absurd h (by show ¬ pageV 2 = -1; decide)
  rw [if_neg h4, if_neg h4]
  exact go_store D ms _ t 3 _
theorem find_ways (D : List UInt8) (ms sp m t kind : Int) (h0 : 0 ≤ kind) (h2 : kind ≤ 2) : findF D ms sp m t kind = (0, pageV kind) ∨ findF D ms sp m t kind = (0, accV kind) ∨ (findF D ms sp m t kind).2 = -1 := by
  unfold findF
  rw [if_neg (by omega)]
  split
  · exact .inr (.inr rfl)
  split
  · exact .inr (.inr rfl)
  split
  · exact .inl rfl
  · exact go_ways D ms _ t kind 3 _
theorem find_out (D : List UInt8) (ms sp m t kind : Int) (h : kind < 0 ∨ 2 < kind) : findF D ms sp m t kind = (0, 0) := if_pos h
theorem find_boss (D : List UInt8) (ms sp t : Int) : findF D ms sp 3 t 0 = (t, -1) := rfl

end Go.Proofs.Ytmjlgoceokdabaa
