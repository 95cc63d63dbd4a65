/- Both sides tell the same. -/
import Derived.Test.YtnbpadnbmbdfeaaDoorO
import Derived.Test.YtnbpadnbmbdfeaaDoorM
import Derived.Test.YtnbpadnbmbdfeaaDoorI
namespace Go.Proofs.YtnbpadnbmbdfeaaDoor
open Go.RowKit Go.Deep Go.Joins

def rOI (w : Nat) : Int × Int :=
  if cutN w 0 7 = 55 then (1, immU w)
  else if cutN w 0 7 = 23 then (2, immU w)
  else if cutN w 0 7 = 111 then (3, immJ w)
  else if cutN w 0 7 = 103 then (r4 (cutN w 12 3), immI w)
  else if cutN w 0 7 = 99 then (row 0 (cutN w 12 3), immB w)
  else if cutN w 0 7 = 3 then (row 1 (cutN w 12 3), immI w)
  else if cutN w 0 7 = 35 then (row 2 (cutN w 12 3), immS w)
  else if cutN w 0 7 = 19 then ((rQuick w (cutN w 12 3)).1, (rQuick w (cutN w 12 3)).2)
  else if cutN w 0 7 = 27 then ((rQW w (cutN w 12 3)).1, (rQW w (cutN w 12 3)).2)
  else if cutN w 0 7 = 51 then (op33 (cutN w 12 3) (cutN w 25 7), 0)
  else if cutN w 0 7 = 59 then (op3b (cutN w 12 3) (cutN w 25 7), 0)
  else if cutN w 0 7 = 15 then (row 3 (cutN w 12 3), 0)
  else if cutN w 0 7 = 47 then (rAtom w (cutN w 12 3), 0)
  else if cutN w 0 7 = 115 then ((rSys w (cutN w 12 3)).1, (rSys w (cutN w 12 3)).2)
  else (0, 0)
theorem rOI_55 {w : Nat} (e : cutN w 0 7 = 55) : rOI w = (1, immU w) := by
  unfold rOI; rw [if_pos e]
theorem rOI_23 {w : Nat} (e : cutN w 0 7 = 23) : rOI w = (2, immU w) := by
  unfold rOI; rw [if_neg (by omega), if_pos e]
theorem rOI_111 {w : Nat} (e : cutN w 0 7 = 111) : rOI w = (3, immJ w) := by
  unfold rOI; rw [if_neg (by omega), if_neg (by omega), if_pos e]
theorem rOI_103 {w : Nat} (e : cutN w 0 7 = 103) : rOI w = (r4 (cutN w 12 3), immI w) := by
  unfold rOI; rw [if_neg (by omega), if_neg (by omega), if_neg (by omega), if_pos e]
theorem rOI_99 {w : Nat} (e : cutN w 0 7 = 99) : rOI w = (row 0 (cutN w 12 3), immB w) := by
  unfold rOI; rw [if_neg (by omega), if_neg (by omega), if_neg (by omega), if_neg (by omega), if_pos e]
theorem rOI_3 {w : Nat} (e : cutN w 0 7 = 3) : rOI w = (row 1 (cutN w 12 3), immI w) := by
  unfold rOI; rw [if_neg (by omega), if_neg (by omega), if_neg (by omega), if_neg (by omega), if_neg (by omega), if_pos e]
theorem rOI_35 {w : Nat} (e : cutN w 0 7 = 35) : rOI w = (row 2 (cutN w 12 3), immS w) := by
  unfold rOI; rw [if_neg (by omega), if_neg (by omega), if_neg (by omega), if_neg (by omega), if_neg (by omega), if_neg (by omega), if_pos e]
theorem rOI_19 {w : Nat} (e : cutN w 0 7 = 19) : rOI w = ((rQuick w (cutN w 12 3)).1, (rQuick w (cutN w 12 3)).2) := by
  unfold rOI; rw [if_neg (by omega), if_neg (by omega), if_neg (by omega), if_neg (by omega), if_neg (by omega), if_neg (by omega), if_neg (by omega), if_pos e]
theorem rOI_27 {w : Nat} (e : cutN w 0 7 = 27) : rOI w = ((rQW w (cutN w 12 3)).1, (rQW w (cutN w 12 3)).2) := by
  unfold rOI; rw [if_neg (by omega), if_neg (by omega), if_neg (by omega), if_neg (by omega), if_neg (by omega), if_neg (by omega), if_neg (by omega), if_neg (by omega), if_pos e]
theorem rOI_51 {w : Nat} (e : cutN w 0 7 = 51) : rOI w = (op33 (cutN w 12 3) (cutN w 25 7), 0) := by
  unfold rOI; rw [if_neg (by omega), if_neg (by omega), if_neg (by omega), if_neg (by omega), if_neg (by omega), if_neg (by omega), if_neg (by omega), if_neg (by omega), if_neg (by omega), if_pos e]
theorem rOI_59 {w : Nat} (e : cutN w 0 7 = 59) : rOI w = (op3b (cutN w 12 3) (cutN w 25 7), 0) := by
  unfold rOI; rw [if_neg (by omega), if_neg (by omega), if_neg (by omega), if_neg (by omega), if_neg (by omega), if_neg (by omega), if_neg (by omega), if_neg (by omega), if_neg (by omega), if_neg (by omega), if_pos e]
theorem rOI_15 {w : Nat} (e : cutN w 0 7 = 15) : rOI w = (row 3 (cutN w 12 3), 0) := by
  unfold rOI; rw [if_neg (by omega), if_neg (by omega), if_neg (by omega), if_neg (by omega), if_neg (by omega), if_neg (by omega), if_neg (by omega), if_neg (by omega), if_neg (by omega), if_neg (by omega), if_neg (by omega), if_pos e]
theorem rOI_47 {w : Nat} (e : cutN w 0 7 = 47) : rOI w = (rAtom w (cutN w 12 3), 0) := by
  unfold rOI; rw [if_neg (by omega), if_neg (by omega), if_neg (by omega), if_neg (by omega), if_neg (by omega), if_neg (by omega), if_neg (by omega), if_neg (by omega), if_neg (by omega), if_neg (by omega), if_neg (by omega), if_neg (by omega), if_pos e]
theorem rOI_115 {w : Nat} (e : cutN w 0 7 = 115) : rOI w = ((rSys w (cutN w 12 3)).1, (rSys w (cutN w 12 3)).2) := by
  unfold rOI; rw [if_neg (by omega), if_neg (by omega), if_neg (by omega), if_neg (by omega), if_neg (by omega), if_neg (by omega), if_neg (by omega), if_neg (by omega), if_neg (by omega), if_neg (by omega), if_neg (by omega), if_neg (by omega), if_neg (by omega), if_pos e]
theorem rOI_no {w : Nat} (n55 : ¬ cutN w 0 7 = 55) (n23 : ¬ cutN w 0 7 = 23) (n111 : ¬ cutN w 0 7 = 111) (n103 : ¬ cutN w 0 7 = 103) (n99 : ¬ cutN w 0 7 = 99) (n3 : ¬ cutN w 0 7 = 3) (n35 : ¬ cutN w 0 7 = 35) (n19 : ¬ cutN w 0 7 = 19) (n27 : ¬ cutN w 0 7 = 27) (n51 : ¬ cutN w 0 7 = 51) (n59 : ¬ cutN w 0 7 = 59) (n15 : ¬ cutN w 0 7 = 15) (n47 : ¬ cutN w 0 7 = 47) (n115 : ¬ cutN w 0 7 = 115) : rOI w = (0, 0) := by
  unfold rOI; rw [if_neg n55, if_neg n23, if_neg n111, if_neg n103, if_neg n99, if_neg n3, if_neg n35, if_neg n19, if_neg n27, if_neg n51, if_neg n59, if_neg n15, if_neg n47, if_neg n115]

theorem pl_A {o p q r s : Int} (h : 1 ≤ o ∧ o ≤ 3) : plainI ⟨o, p, q, r, s⟩ = ⟨o, p, 0, 0, s⟩ := by unfold plainI; rw [if_pos (by dsimp only; omega)]
theorem pl_B {o p q r s : Int} (h : (5 ≤ o ∧ o ≤ 10) ∨ (18 ≤ o ∧ o ≤ 21) ∨ o = 98) : plainI ⟨o, p, q, r, s⟩ = ⟨o, 0, q, r, s⟩ := by unfold plainI; rw [if_neg (by dsimp only; omega), if_pos (by dsimp only; omega)]
theorem pl_C {o p q r s : Int} (h : o = 4 ∨ (11 ≤ o ∧ o ≤ 17) ∨ (22 ≤ o ∧ o ≤ 30) ∨ (41 ≤ o ∧ o ≤ 44) ∨ (54 ≤ o ∧ o ≤ 59) ∨ o = 73 ∨ o = 84) : plainI ⟨o, p, q, r, s⟩ = ⟨o, p, q, 0, s⟩ := by unfold plainI; rw [if_neg (by dsimp only; omega), if_neg (by dsimp only; omega), if_pos (by dsimp only; omega)]
theorem pl_D {o p q r s : Int} (h : (50 ≤ o ∧ o ≤ 53) ∨ (95 ≤ o ∧ o ≤ 97)) : plainI ⟨o, p, q, r, s⟩ = ⟨o, 0, 0, 0, s⟩ := by unfold plainI; rw [if_neg (by dsimp only; omega), if_neg (by dsimp only; omega), if_neg (by dsimp only; omega), if_pos (by dsimp only; omega)]
theorem pl_E {o p q r s : Int} (h : (31 ≤ o ∧ o ≤ 40) ∨ (45 ≤ o ∧ o ≤ 49) ∨ (60 ≤ o ∧ o ≤ 72) ∨ (74 ≤ o ∧ o ≤ 83) ∨ (85 ≤ o ∧ o ≤ 94)) : plainI ⟨o, p, q, r, s⟩ = ⟨o, p, q, r, s⟩ := by unfold plainI; rw [if_neg (by dsimp only; omega), if_neg (by dsimp only; omega), if_neg (by dsimp only; omega), if_neg (by dsimp only; omega)]
theorem rng_0 {j : Nat} (h : j < 8) : row 0 j = 0 ∨ (5 ≤ row 0 j ∧ row 0 j ≤ 10) := (by unfold row tab; decide : ∀ j < 8, row 0 j = 0 ∨ (5 ≤ row 0 j ∧ row 0 j ≤ 10)) j h
theorem rng_1 {j : Nat} (h : j < 8) : row 1 j = 0 ∨ (11 ≤ row 1 j ∧ row 1 j ≤ 17) := (by unfold row tab; decide : ∀ j < 8, row 1 j = 0 ∨ (11 ≤ row 1 j ∧ row 1 j ≤ 17)) j h
theorem rng_2 {j : Nat} (h : j < 8) : row 2 j = 0 ∨ (18 ≤ row 2 j ∧ row 2 j ≤ 21) := (by unfold row tab; decide : ∀ j < 8, row 2 j = 0 ∨ (18 ≤ row 2 j ∧ row 2 j ≤ 21)) j h
theorem rng_3 {j : Nat} (h : j < 8) : row 3 j = 0 ∨ (50 ≤ row 3 j ∧ row 3 j ≤ 51) := (by unfold row tab; decide : ∀ j < 8, row 3 j = 0 ∨ (50 ≤ row 3 j ∧ row 3 j ≤ 51)) j h
theorem rng_4 {j : Nat} (h : j < 8) : row 4 j = 0 ∨ (22 ≤ row 4 j ∧ row 4 j ≤ 27) := (by unfold row tab; decide : ∀ j < 8, row 4 j = 0 ∨ (22 ≤ row 4 j ∧ row 4 j ≤ 27)) j h
theorem rng_5 {j : Nat} (h : j < 8) : row 5 j = 0 ∨ (31 ≤ row 5 j ∧ row 5 j ≤ 40) := (by unfold row tab; decide : ∀ j < 8, row 5 j = 0 ∨ (31 ≤ row 5 j ∧ row 5 j ≤ 40)) j h
theorem rng_6 {j : Nat} (h : j < 8) : row 6 j = 0 ∨ (60 ≤ row 6 j ∧ row 6 j ≤ 67) := (by unfold row tab; decide : ∀ j < 8, row 6 j = 0 ∨ (60 ≤ row 6 j ∧ row 6 j ≤ 67)) j h
theorem rng_7 {j : Nat} (h : j < 8) : row 7 j = 0 ∨ (32 ≤ row 7 j ∧ row 7 j ≤ 38) := (by unfold row tab; decide : ∀ j < 8, row 7 j = 0 ∨ (32 ≤ row 7 j ∧ row 7 j ≤ 38)) j h
theorem rng_8 {j : Nat} (h : j < 8) : row 8 j = 0 ∨ (45 ≤ row 8 j ∧ row 8 j ≤ 48) := (by unfold row tab; decide : ∀ j < 8, row 8 j = 0 ∨ (45 ≤ row 8 j ∧ row 8 j ≤ 48)) j h
theorem rng_9 {j : Nat} (h : j < 8) : row 9 j = 0 ∨ (68 ≤ row 9 j ∧ row 9 j ≤ 72) := (by unfold row tab; decide : ∀ j < 8, row 9 j = 0 ∨ (68 ≤ row 9 j ∧ row 9 j ≤ 72)) j h
theorem rng_10 {j : Nat} (h : j < 8) : row 10 j = 0 ∨ (46 ≤ row 10 j ∧ row 10 j ≤ 49) := (by unfold row tab; decide : ∀ j < 8, row 10 j = 0 ∨ (46 ≤ row 10 j ∧ row 10 j ≤ 49)) j h
theorem rng_11 {j : Nat} (h : j < 8) : row 11 j = 0 ∨ (54 ≤ row 11 j ∧ row 11 j ≤ 59) := (by unfold row tab; decide : ∀ j < 8, row 11 j = 0 ∨ (54 ≤ row 11 j ∧ row 11 j ≤ 59)) j h

theorem rng_33 {f t : Nat} (h : f < 8) : op33 f t = 0 ∨ (31 ≤ op33 f t ∧ op33 f t ≤ 40) ∨ (60 ≤ op33 f t ∧ op33 f t ≤ 67) := by
  have h5 := rng_5 h
  have h6 := rng_6 h
  have h7 := rng_7 h
  unfold op33
  split
  · omega
  split
  · omega
  split
  · omega
  · exact Or.inl rfl
theorem rng_3b {f t : Nat} (h : f < 8) : op3b f t = 0 ∨ (45 ≤ op3b f t ∧ op3b f t ≤ 49) ∨ (68 ≤ op3b f t ∧ op3b f t ≤ 72) := by
  have h5 := rng_8 h
  have h6 := rng_9 h
  have h7 := rng_10 h
  unfold op3b
  split
  · omega
  split
  · omega
  split
  · omega
  · exact Or.inl rfl
theorem aW_rng {c : Nat} (h : c < 32) : (aW c = 0 ∨ (73 ≤ aW c ∧ aW c ≤ 83)) ∧ (aW c = 73 ↔ c = 2) := (by unfold aW; decide : ∀ c < 32, (aW c = 0 ∨ (73 ≤ aW c ∧ aW c ≤ 83)) ∧ (aW c = 73 ↔ c = 2)) c h
theorem aD_rng {c : Nat} (h : c < 32) : (aD c = 0 ∨ (84 ≤ aD c ∧ aD c ≤ 94)) ∧ (aD c = 84 ↔ c = 2) := (by unfold aD; decide : ∀ c < 32, (aD c = 0 ∨ (84 ≤ aD c ∧ aD c ≤ 94)) ∧ (aD c = 84 ↔ c = 2)) c h
/-- Both sides tell the same operation, and the same fields. -/
def Agree (w : Nat) (i : In) (x : Int × Int) : Prop := i.op = x.1 ∧ (x.1 = 0 ∨ (1 ≤ x.1 ∧ x.1 ≤ 98 ∧ i = plainI ⟨x.1, (cutN w 7 5 : Nat), (cutN w 15 5 : Nat), (cutN w 20 5 : Nat), x.2⟩))
theorem agree (w : Nat) : Agree w (pIns w) (rOI w) := by
  have hf := lt_12_3 w
  have hc := lt_27_5 w
  by_cases e : cutN w 0 7 = 55
  · rw [pIns_55 e, rOI_55 e]
    exact ⟨rfl, Or.inr ⟨by omega, by omega, (pl_A (by omega)).symm⟩⟩
  have n55 := e
  clear e
  by_cases e : cutN w 0 7 = 23
  · rw [pIns_23 e, rOI_23 e]
    exact ⟨rfl, Or.inr ⟨by omega, by omega, (pl_A (by omega)).symm⟩⟩
  have n23 := e
  clear e
  by_cases e : cutN w 0 7 = 111
  · rw [pIns_111 e, rOI_111 e]
    exact ⟨rfl, Or.inr ⟨by omega, by omega, (pl_A (by omega)).symm⟩⟩
  have n111 := e
  clear e
  by_cases e : cutN w 0 7 = 103
  · rw [pIns_103 e, rOI_103 e]
    unfold r4
    by_cases h : cutN w 12 3 = 0
    · rw [if_pos h, if_pos h]
      exact ⟨rfl, Or.inr ⟨by dsimp only; omega, by dsimp only; omega, (pl_C (by omega)).symm⟩⟩
    · rw [if_neg h, if_neg h]
      exact ⟨rfl, Or.inl rfl⟩
  have n103 := e
  clear e
  by_cases e : cutN w 0 7 = 99
  · rw [pIns_99 e, rOI_99 e]
    rcases rng_0 hf with h | h
    · exact ⟨rfl, Or.inl h⟩
    · exact ⟨rfl, Or.inr ⟨by dsimp only; omega, by dsimp only; omega, (pl_B (by omega)).symm⟩⟩
  have n99 := e
  clear e
  by_cases e : cutN w 0 7 = 3
  · rw [pIns_3 e, rOI_3 e]
    rcases rng_1 hf with h | h
    · exact ⟨rfl, Or.inl h⟩
    · exact ⟨rfl, Or.inr ⟨by dsimp only; omega, by dsimp only; omega, (pl_C (by omega)).symm⟩⟩
  have n3 := e
  clear e
  by_cases e : cutN w 0 7 = 35
  · rw [pIns_35 e, rOI_35 e]
    rcases rng_2 hf with h | h
    · exact ⟨rfl, Or.inl h⟩
    · exact ⟨rfl, Or.inr ⟨by dsimp only; omega, by dsimp only; omega, (pl_B (by omega)).symm⟩⟩
  have n35 := e
  clear e
  by_cases e : cutN w 0 7 = 19
  · rw [pIns_19 e, rOI_19 e]
    unfold pOwn rQuick
    by_cases h1 : cutN w 12 3 = 1
    · by_cases t : cutN w 26 6 = 0
      · rw [if_pos ⟨h1, t⟩, if_pos h1, if_pos t]
        exact ⟨rfl, Or.inr ⟨by dsimp only; omega, by dsimp only; omega, (pl_C (by omega)).symm⟩⟩
      · rw [if_neg (fun h => t h.2), if_neg (fun h => t h.2), if_neg (fun h => by omega), if_pos h1, if_neg t]
        exact ⟨by rw [h1]; rfl, Or.inl rfl⟩
    by_cases h5 : cutN w 12 3 = 5
    · rw [if_neg (fun h => h1 h.1), if_neg h1, if_pos h5]
      by_cases t : cutN w 26 6 = 0
      · rw [if_pos ⟨h5, t⟩, if_pos t]
        exact ⟨rfl, Or.inr ⟨by dsimp only; omega, by dsimp only; omega, (pl_C (by omega)).symm⟩⟩
      rw [if_neg (fun h => t h.2), if_neg t]
      by_cases t1 : cutN w 26 6 = 16
      · rw [if_pos ⟨h5, t1⟩, if_pos t1]
        exact ⟨rfl, Or.inr ⟨by dsimp only; omega, by dsimp only; omega, (pl_C (by omega)).symm⟩⟩
      · rw [if_neg (fun h => t1 h.2), if_neg t1]
        exact ⟨by rw [h5]; rfl, Or.inl rfl⟩
    rw [if_neg (fun h => h1 h.1), if_neg (fun h => h5 h.1), if_neg (fun h => h5 h.1), if_neg h1, if_neg h5]
    rcases rng_4 hf with h | h
    · exact ⟨rfl, Or.inl h⟩
    · exact ⟨rfl, Or.inr ⟨by dsimp only; omega, by dsimp only; omega, (pl_C (by omega)).symm⟩⟩
  have n19 := e
  clear e
  by_cases e : cutN w 0 7 = 27
  · rw [pIns_27 e, rOI_27 e]
    unfold pOwnW rQW
    repeat' split
    all_goals first | exact ⟨rfl, Or.inl rfl⟩ | exact ⟨rfl, Or.inr ⟨by dsimp only; omega, by dsimp only; omega, (pl_C (by omega)).symm⟩⟩
  have n27 := e
  clear e
  by_cases e : cutN w 0 7 = 51
  · rw [pIns_51 e, rOI_51 e]
    rcases rng_33 (t := cutN w 25 7) hf with h | h
    · exact ⟨rfl, Or.inl h⟩
    · exact ⟨rfl, Or.inr ⟨by dsimp only; omega, by dsimp only; omega, (pl_E (by omega)).symm⟩⟩
  have n51 := e
  clear e
  by_cases e : cutN w 0 7 = 59
  · rw [pIns_59 e, rOI_59 e]
    rcases rng_3b (t := cutN w 25 7) hf with h | h
    · exact ⟨rfl, Or.inl h⟩
    · exact ⟨rfl, Or.inr ⟨by dsimp only; omega, by dsimp only; omega, (pl_E (by omega)).symm⟩⟩
  have n59 := e
  clear e
  by_cases e : cutN w 0 7 = 15
  · rw [pIns_15 e, rOI_15 e]
    rcases rng_3 hf with h | h
    · exact ⟨rfl, Or.inl h⟩
    · exact ⟨rfl, Or.inr ⟨by dsimp only; omega, by dsimp only; omega, (pl_D (by omega)).symm⟩⟩
  have n15 := e
  clear e
  by_cases e : cutN w 0 7 = 47
  · rw [pIns_47 e, rOI_47 e]
    have hA : (opA (cutN w 12 3) (cutN w 27 5) = 0 ∨ (73 ≤ opA (cutN w 12 3) (cutN w 27 5) ∧ opA (cutN w 12 3) (cutN w 27 5) ≤ 94)) ∧ (opA (cutN w 12 3) (cutN w 27 5) = 73 ∨ opA (cutN w 12 3) (cutN w 27 5) = 84 → cutN w 27 5 = 2) ∧ (cutN w 27 5 = 2 → opA (cutN w 12 3) (cutN w 27 5) = 0 ∨ opA (cutN w 12 3) (cutN w 27 5) = 73 ∨ opA (cutN w 12 3) (cutN w 27 5) = 84) := by
      have hw := aW_rng hc
      have hd := aD_rng hc
      unfold opA
      split
      · omega
      split
      · omega
      · omega
    unfold pAtom rAtom
    generalize opA (cutN w 12 3) (cutN w 27 5) = A at hA ⊢
    by_cases h : A = 73 ∨ A = 84
    · rw [if_pos h]
      by_cases z : cutN w 20 5 = 0
      · rw [if_pos z, if_neg (fun h' => h'.2 z)]
        exact ⟨rfl, Or.inr ⟨by dsimp only; omega, by dsimp only; omega, (pl_C (by omega)).symm⟩⟩
      · rw [if_neg z, if_pos ⟨hA.2.1 h, z⟩]
        exact ⟨rfl, Or.inl rfl⟩
    · rw [if_neg h]
      by_cases h0 : A = 0
      · refine ⟨?_, Or.inl ?_⟩
        · split <;> first | exact h0 | rfl
        · dsimp only; split <;> first | exact h0 | rfl
      · rw [if_neg (fun h' => by have := hA.2.2 h'.1; omega)]
        exact ⟨rfl, Or.inr ⟨by dsimp only; omega, by dsimp only; omega, (pl_E (by omega)).symm⟩⟩
  have n47 := e
  clear e
  by_cases e : cutN w 0 7 = 115
  · rw [pIns_115 e, rOI_115 e]
    unfold pSys rSys
    by_cases h0 : cutN w 12 3 = 0
    · have h00 : ¬ ¬ cutN w 12 3 = 0 := fun h => h h0
      rw [if_neg h00, if_neg h00]
      by_cases e0 : w = 115
      · rw [if_pos e0, if_pos e0]
        exact ⟨rfl, Or.inr ⟨by dsimp only; omega, by dsimp only; omega, (pl_D (by omega)).symm⟩⟩
      rw [if_neg e0, if_neg e0]
      by_cases e1 : w = 1048691
      · rw [if_pos e1, if_pos e1]
        exact ⟨rfl, Or.inr ⟨by dsimp only; omega, by dsimp only; omega, (pl_D (by omega)).symm⟩⟩
      rw [if_neg e1, if_neg e1]
      by_cases e2 : w = 807403635
      · rw [if_pos e2, if_pos e2]
        exact ⟨rfl, Or.inr ⟨by dsimp only; omega, by dsimp only; omega, (pl_D (by omega)).symm⟩⟩
      rw [if_neg e2, if_neg e2]
      by_cases e3 : w = 270532723
      · rw [if_pos e3, if_pos e3]
        exact ⟨rfl, Or.inr ⟨by dsimp only; omega, by dsimp only; omega, (pl_D (by omega)).symm⟩⟩
      rw [if_neg e3, if_neg e3]
      by_cases e4 : w = 273678451
      · rw [if_pos e4, if_pos e4]
        exact ⟨rfl, Or.inr ⟨by dsimp only; omega, by dsimp only; omega, (pl_D (by omega)).symm⟩⟩
      rw [if_neg e4, if_neg e4]
      by_cases t : cutN w 25 7 = 9 ∧ cutN w 7 5 = 0
      · rw [if_pos t, if_pos t]
        exact ⟨rfl, Or.inr ⟨by dsimp only; omega, by dsimp only; omega, (pl_B (by omega)).symm⟩⟩
      · rw [if_neg t, if_neg t]
        exact ⟨rfl, Or.inl rfl⟩
    · rw [if_pos h0, if_pos h0]
      rcases rng_11 hf with h | h
      · exact ⟨rfl, Or.inl h⟩
      · exact ⟨rfl, Or.inr ⟨by dsimp only; omega, by dsimp only; omega, (pl_C (by omega)).symm⟩⟩
  have n115 := e
  clear e
  rw [pIns_no n55 n23 n111 n103 n99 n3 n35 n19 n27 n51 n59 n15 n47 n115, rOI_no n55 n23 n111 n103 n99 n3 n35 n19 n27 n51 n59 n15 n47 n115]
  exact ⟨rfl, Or.inl rfl⟩

end Go.Proofs.YtnbpadnbmbdfeaaDoor
