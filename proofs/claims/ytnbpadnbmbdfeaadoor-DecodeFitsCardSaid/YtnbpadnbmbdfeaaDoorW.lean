/- DecodeFits, walked. -/
import Derived.Test.YtnbpadnbmbdfeaaDoorT
namespace Go.Proofs.YtnbpadnbmbdfeaaDoor
open Go.RowKit Go.Deep Go.Joins

theorem rng_I (w : Nat) : -2147483648 ≤ immI w ∧ immI w < 2147483648 := by have := lt_20_12 w; have := lt_31_1 w; unfold immI; omega
theorem rng_S (w : Nat) : -2147483648 ≤ immS w ∧ immS w < 2147483648 := by have := lt_25_7 w; have := lt_7_5 w; have := lt_31_1 w; unfold immS; omega
theorem rng_B (w : Nat) : -2147483648 ≤ immB w ∧ immB w < 2147483648 := by have := lt_7_1 w; have := lt_25_6 w; have := lt_8_4 w; have := lt_31_1 w; unfold immB; omega
theorem rng_J (w : Nat) : -2147483648 ≤ immJ w ∧ immJ w < 2147483648 := by have := lt_12_8 w; have := lt_20_1 w; have := lt_21_10 w; have := lt_31_1 w; unfold immJ; omega
theorem rng_U (w : Nat) : -2147483648 ≤ immU w ∧ immU w < 2147483648 := by
  have h2 : cutN w 31 1 = cutN w 12 20 / 524288 := by unfold cutN; omega
  have h3 := lt_12_20 w
  unfold immU
  rw [h2]
  omega
theorem roi_imm (w : Nat) : -2147483648 ≤ (rOI w).2 ∧ (rOI w).2 < 2147483648 := by
  have hI := rng_I w
  have hS := rng_S w
  have hB := rng_B w
  have hJ := rng_J w
  have hU := rng_U w
  have l1 := lt_20_6 w
  have l2 := lt_20_5 w
  have l3 := lt_20_12 w
  by_cases e : cutN w 0 7 = 19
  · rw [rOI_19 e]
    unfold rQuick
    repeat' split
    all_goals (dsimp only; omega)
  have n19 := e
  clear e
  by_cases e : cutN w 0 7 = 27
  · rw [rOI_27 e]
    unfold rQW
    repeat' split
    all_goals (dsimp only; omega)
  have n27 := e
  clear e
  by_cases e : cutN w 0 7 = 115
  · rw [rOI_115 e]
    unfold rSys
    repeat' split
    all_goals (dsimp only; omega)
  have n115 := e
  clear e
  by_cases e : cutN w 0 7 = 55
  · rw [rOI_55 e]
    dsimp only
    omega
  have n55 := e
  clear e
  by_cases e : cutN w 0 7 = 23
  · rw [rOI_23 e]
    dsimp only
    omega
  have n23 := e
  clear e
  by_cases e : cutN w 0 7 = 111
  · rw [rOI_111 e]
    dsimp only
    omega
  have n111 := e
  clear e
  by_cases e : cutN w 0 7 = 103
  · rw [rOI_103 e]
    dsimp only
    omega
  have n103 := e
  clear e
  by_cases e : cutN w 0 7 = 99
  · rw [rOI_99 e]
    dsimp only
    omega
  have n99 := e
  clear e
  by_cases e : cutN w 0 7 = 3
  · rw [rOI_3 e]
    dsimp only
    omega
  have n3 := e
  clear e
  by_cases e : cutN w 0 7 = 35
  · rw [rOI_35 e]
    dsimp only
    omega
  have n35 := e
  clear e
  by_cases e : cutN w 0 7 = 51
  · rw [rOI_51 e]
    dsimp only
    omega
  have n51 := e
  clear e
  by_cases e : cutN w 0 7 = 59
  · rw [rOI_59 e]
    dsimp only
    omega
  have n59 := e
  clear e
  by_cases e : cutN w 0 7 = 15
  · rw [rOI_15 e]
    dsimp only
    omega
  have n15 := e
  clear e
  by_cases e : cutN w 0 7 = 47
  · rw [rOI_47 e]
    dsimp only
    omega
  have n47 := e
  clear e
  rw [rOI_no n55 n23 n111 n103 n99 n3 n35 n19 n27 n51 n59 n15 n47 n115]
  dsimp only
  omega
theorem low_two (w : Nat) (h : ¬ (pIns w).op = 0) : w % 4 = 3 := by
  apply Classical.byContradiction
  intro h4
  have e : cutN w 0 7 = w % 128 := by unfold cutN; omega
  exact h (by rw [pIns_no (by omega) (by omega) (by omega) (by omega) (by omega) (by omega) (by omega) (by omega) (by omega) (by omega) (by omega) (by omega) (by omega) (by omega)])
theorem fits (w : Nat) (h : ¬ (pIns w).op = 0) : 1 ≤ (pIns w).op ∧ (pIns w).op ≤ 98 ∧ 0 ≤ (pIns w).rd ∧ (pIns w).rd < 32 ∧ 0 ≤ (pIns w).rs1 ∧ (pIns w).rs1 < 32 ∧ 0 ≤ (pIns w).rs2 ∧ (pIns w).rs2 < 32 ∧ -2147483648 ≤ (pIns w).imm ∧ (pIns w).imm < 2147483648 := by
  obtain ⟨a1, a2⟩ := agree w
  rcases a2 with a2 | ⟨h1, h2, h3⟩
  · omega
  have hi := roi_imm w
  have l1 := lt_7_5 w
  have l2 := lt_15_5 w
  have l3 := lt_20_5 w
  rw [h3]
  unfold plainI
  repeat' split
  all_goals (dsimp only; omega)
theorem and_three (w : Nat) (hw : w < 4294967296) (h : w % 4 = 3) : (bits .and .u32 (w : Int) 3 == 3) = true := by
  have e := u32_and_nat w 3 hw (by omega)
  rw [show w &&& 3 = w % 4 from Nat.and_two_pow_sub_one_eq_mod w 2, h] at e
  rw [beq_iff_eq]
  exact e
set_option maxHeartbeats 2000000 in
theorem fits_yes (w : Nat) (o p q r s : Int) (W : World) (hL : Laid W) (h3 : (bits .and .u32 (w : Int) 3 == 3) = true) (o0 : 1 ≤ o) (o1 : o ≤ 98) (p0 : 0 ≤ p) (p1 : p < 32) (q0 : 0 ≤ q) (q1 : q < 32) (r0 : 0 ≤ r) (r1 : r < 32) (s0 : -2147483648 ≤ s) (s1 : s < 2147483648) (H : Hid (∀ W, Laid W → Calls Tryd.prog 9 #[.int .u32 w] W fun e W' => e = .returned (.tuple #[.agg #[.int .i64 o, .int .i64 p, .int .i64 q, .int .i64 r, .int .i64 s], .int .i64 0]) ∧ Below W.heap.size W W')) :
    Calls Tryd.prog 5 #[.int .u32 w] W fun e W' => e = .returned (.bool true) ∧ Below W.heap.size W W' := by
  have HL := Lib.hid hL
  clear hL
  go_enter Tryd.func5, Tryd.ntmps5
  go_wp2_with (first | (go_at_call 8; (with_reducible refine (awake_any _ HL.out).mono ?_); rintro e w1 ⟨rfl, hb1⟩; have H1 := Lib.hid hb1; clear hb1) | (go_at_call 9; (with_reducible refine (H.out _ (HL.out.below H1.out)).mono ?_); rintro e w2 ⟨rfl, hb2⟩; have H2 := Lib.hid hb2; clear hb2) | fail)
  go_ret
  have h12 := H1.out.trans (H2.out.mono H1.out.size)
  exact ⟨rfl, h12.alloc h12.size _⟩
set_option maxHeartbeats 2000000 in
theorem fits_no (w : Nat) (W : World) (hL : Laid W) (H : Hid (∀ W, Laid W → Calls Tryd.prog 9 #[.int .u32 w] W fun e W' => e = .returned (.tuple #[.agg #[.int .i64 0, .int .i64 0, .int .i64 0, .int .i64 0, .int .i64 0], .int .i64 60]) ∧ Below W.heap.size W W')) :
    Calls Tryd.prog 5 #[.int .u32 w] W fun e W' => e = .returned (.bool true) ∧ Below W.heap.size W W' := by
  have HL := Lib.hid hL
  clear hL
  go_enter Tryd.func5, Tryd.ntmps5
  go_wp2_with (first | (go_at_call 8; (with_reducible refine (awake_any _ HL.out).mono ?_); rintro e w1 ⟨rfl, hb1⟩; have H1 := Lib.hid hb1; clear hb1) | (go_at_call 9; (with_reducible refine (H.out _ (HL.out.below H1.out)).mono ?_); rintro e w2 ⟨rfl, hb2⟩; have H2 := Lib.hid hb2; clear hb2) | fail)
  go_ret
  have h12 := H1.out.trans (H2.out.mono H1.out.size)
  exact ⟨rfl, h12.alloc h12.size _⟩
theorem fits_any (w : Nat) (W : World) (hw : w < 4294967296) (hL : Laid W) : Calls Tryd.prog 5 #[.int .u32 w] W fun e W' => e = .returned (.bool true) ∧ Below W.heap.size W W' := by
  have H := fun W' h => word_any w W' h
  unfold wI wE at H
  by_cases h : (pIns w).op = 0
  · rw [if_pos h, if_pos h] at H
    exact fits_no w W hL (Lib.hid H)
  · rw [if_neg h, if_neg h] at H
    obtain ⟨f0, f1, f2, f3, f4, f5, f6, f7, f8, f9⟩ := fits w h
    exact fits_yes w _ _ _ _ _ W hL (and_three w hw (low_two w h)) f0 f1 f2 f3 f4 f5 f6 f7 f8 f9 (Lib.hid H)

end Go.Proofs.YtnbpadnbmbdfeaaDoor
