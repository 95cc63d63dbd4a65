/- Another destination: the same operation with it. -/
import Derived.Test.YtnbpadnbmbdfeaaDoorS
namespace Go.Proofs.YtnbpadnbmbdfeaaDoor
open Go.RowKit Go.Deep Go.Joins

theorem and_regs (w : Nat) (hw : w < 4294967296) : w &&& 4294963327 = w / 4096 * 4096 + w % 128 := by
  have e := orN (a := w / 2 ^ 12) (b := w % 2 ^ 7) (i := 12) (by have := Nat.mod_lt w (Nat.two_pow_pos 7); omega)
  rw [show w / 4096 * 4096 + w % 128 = w / 2 ^ 12 * 2 ^ 12 + w % 2 ^ 7 by rfl, ← e, show (4294963327 : Nat) = (2 ^ 20 - 1) * 2 ^ 12 ||| (2 ^ 7 - 1) by decide]
  apply Nat.eq_of_testBit_eq
  intro i
  rw [Nat.testBit_and, Nat.testBit_or, Nat.testBit_or, Nat.testBit_mul_two_pow, Nat.testBit_mul_two_pow, Nat.testBit_two_pow_sub_one, Nat.testBit_two_pow_sub_one, Nat.testBit_div_two_pow, Nat.testBit_mod_two_pow]
  by_cases h1 : 12 ≤ i
  · rw [show i - 12 + 12 = i by omega]
    by_cases h2 : i - 12 < 20
    · have h3 : ¬ i < 7 := by omega
      simp [h1, h2, h3]
    · have : w.testBit i = false := Nat.testBit_lt_two_pow (Nat.lt_of_lt_of_le hw (by
        have : (2 : Nat) ^ 32 ≤ 2 ^ i := Nat.pow_le_pow_right (by omega) (by omega)
        omega))
      simp [this]
  · by_cases h2 : i < 7
    · simp [h1, h2]
    · simp [h1, h2]
theorem put_rd (w d : Nat) (hd : d < 32) : (w / 4096 * 4096 + w % 128) ||| d * 128 = w / 4096 * 4096 + d * 128 + w % 128 := by
  have e1 := orN (a := w / 4096) (b := w % 128) (i := 12) (by omega)
  have e2 := orN (a := d) (b := w % 128) (i := 7) (by omega)
  have e3 := orN (a := w / 4096) (b := d * 128 + w % 128) (i := 12) (by omega)
  rw [show (2 : Nat) ^ 12 = 4096 by rfl] at e1 e3
  rw [show (2 : Nat) ^ 7 = 128 by rfl] at e2
  rw [← e1, Nat.or_assoc, Nat.or_comm (w % 128), e2, e3]
  omega
def withD (i : In) (d : Nat) : In := ⟨i.op, d, i.rs1, i.rs2, i.imm⟩
theorem regs (w d : Nat) (hd : d < 32) (h0 : ¬ (pIns w).op = 0) (hx : ¬ (5 ≤ (pIns w).op ∧ (pIns w).op ≤ 10) ∧ ¬ (18 ≤ (pIns w).op ∧ (pIns w).op ≤ 21) ∧ ¬ (50 ≤ (pIns w).op ∧ (pIns w).op ≤ 53) ∧ ¬ (95 ≤ (pIns w).op)) :
    pIns (w / 4096 * 4096 + d * 128 + w % 128) = withD (pIns w) d := by
  obtain ⟨x, hxw⟩ : ∃ x, x = w / 4096 * 4096 + d * 128 + w % 128 := ⟨_, rfl⟩
  rw [← hxw]
  have hf := lt_12_3 w
  have k0_7 : cutN x 0 7 = cutN w 0 7 := by unfold cutN; omega
  have k12_3 : cutN x 12 3 = cutN w 12 3 := by unfold cutN; omega
  have k15_5 : cutN x 15 5 = cutN w 15 5 := by unfold cutN; omega
  have k20_5 : cutN x 20 5 = cutN w 20 5 := by unfold cutN; omega
  have k20_6 : cutN x 20 6 = cutN w 20 6 := by unfold cutN; omega
  have k20_12 : cutN x 20 12 = cutN w 20 12 := by unfold cutN; omega
  have k25_7 : cutN x 25 7 = cutN w 25 7 := by unfold cutN; omega
  have k26_6 : cutN x 26 6 = cutN w 26 6 := by unfold cutN; omega
  have k27_5 : cutN x 27 5 = cutN w 27 5 := by unfold cutN; omega
  have k31_1 : cutN x 31 1 = cutN w 31 1 := by unfold cutN; omega
  have k12_20 : cutN x 12 20 = cutN w 12 20 := by unfold cutN; omega
  have k12_8 : cutN x 12 8 = cutN w 12 8 := by unfold cutN; omega
  have k20_1 : cutN x 20 1 = cutN w 20 1 := by unfold cutN; omega
  have k21_10 : cutN x 21 10 = cutN w 21 10 := by unfold cutN; omega
  have kd : cutN x 7 5 = d := by unfold cutN; omega
  have kI : immI x = immI w := by unfold immI; rw [k20_12, k31_1]
  have kU : immU x = immU w := by unfold immU; rw [k12_20, k31_1]
  have kJ : immJ x = immJ w := by unfold immJ; rw [k12_8, k20_1, k21_10, k31_1]
  clear hxw
  by_cases e : cutN w 0 7 = 55
  · rw [pIns_55 (k0_7.trans e), pIns_55 e, kd, kU]
    rfl
  have n55 := e
  clear e
  by_cases e : cutN w 0 7 = 23
  · rw [pIns_23 (k0_7.trans e), pIns_23 e, kd, kU]
    rfl
  have n23 := e
  clear e
  by_cases e : cutN w 0 7 = 111
  · rw [pIns_111 (k0_7.trans e), pIns_111 e, kd, kJ]
    rfl
  have n111 := e
  clear e
  by_cases e : cutN w 0 7 = 103
  · rw [pIns_103 e] at h0
    rw [pIns_103 (k0_7.trans e), pIns_103 e, kd, kI, k12_3, k15_5]
    by_cases f : cutN w 12 3 = 0
    · rw [if_pos f, if_pos f]
      rfl
    · rw [if_neg f] at h0
      exact absurd rfl h0
  have n103 := e
  clear e
  by_cases e : cutN w 0 7 = 99
  · rw [pIns_99 e] at h0 hx
    dsimp only at h0 hx
    have hr := rng_0 hf
    exfalso
    omega
  have n99 := e
  clear e
  by_cases e : cutN w 0 7 = 3
  · rw [pIns_3 (k0_7.trans e), pIns_3 e, kd, kI, k12_3, k15_5]
    rfl
  have n3 := e
  clear e
  by_cases e : cutN w 0 7 = 35
  · rw [pIns_35 e] at h0 hx
    dsimp only at h0 hx
    have hr := rng_2 hf
    exfalso
    omega
  have n35 := e
  clear e
  by_cases e : cutN w 0 7 = 19
  · rw [pIns_19 (k0_7.trans e), pIns_19 e]
    unfold pOwn
    rw [kd, kI, k12_3, k15_5, k26_6, k20_6]
    repeat' split
    all_goals rfl
  have n19 := e
  clear e
  by_cases e : cutN w 0 7 = 27
  · rw [pIns_27 e] at h0
    unfold pOwnW at h0
    rw [pIns_27 (k0_7.trans e), pIns_27 e]
    unfold pOwnW
    rw [kd, kI, k12_3, k15_5, k25_7, k20_5]
    repeat' split
    all_goals first | rfl | (exfalso; simp_all; done)
  have n27 := e
  clear e
  by_cases e : cutN w 0 7 = 51
  · rw [pIns_51 (k0_7.trans e), pIns_51 e, kd, k12_3, k15_5, k25_7, k20_5]
    rfl
  have n51 := e
  clear e
  by_cases e : cutN w 0 7 = 59
  · rw [pIns_59 (k0_7.trans e), pIns_59 e, kd, k12_3, k15_5, k25_7, k20_5]
    rfl
  have n59 := e
  clear e
  by_cases e : cutN w 0 7 = 15
  · rw [pIns_15 e] at h0 hx
    dsimp only at h0 hx
    have hr := rng_3 hf
    exfalso
    omega
  have n15 := e
  clear e
  by_cases e : cutN w 0 7 = 47
  · rw [pIns_47 e] at h0
    unfold pAtom at h0
    rw [pIns_47 (k0_7.trans e), pIns_47 e]
    unfold pAtom
    rw [kd, k12_3, k15_5, k27_5, k20_5]
    repeat' split
    all_goals first | rfl | (exfalso; simp_all [In.zero]; done)
  have n47 := e
  clear e
  by_cases e : cutN w 0 7 = 115
  · rw [pIns_115 e] at h0 hx
    rw [pIns_115 (k0_7.trans e), pIns_115 e]
    unfold pSys at h0 hx ⊢
    by_cases f : cutN w 12 3 = 0
    · exfalso
      have ff : ¬ ¬ cutN w 12 3 = 0 := fun h => h f
      rw [if_neg ff] at h0 hx
      revert h0 hx
      repeat' split
      all_goals (intro h0 hx; dsimp only at h0 hx; omega)
    · rw [if_pos f, k12_3, if_pos f, kd, k15_5, k20_12]
      rfl
  have n115 := e
  clear e
  exact absurd (by rw [pIns_no n55 n23 n111 n103 n99 n3 n35 n19 n27 n51 n59 n15 n47 n115]) h0

end Go.Proofs.YtnbpadnbmbdfeaaDoor
