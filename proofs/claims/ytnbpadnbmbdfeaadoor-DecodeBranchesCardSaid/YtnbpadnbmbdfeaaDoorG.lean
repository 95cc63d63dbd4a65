/- The program: numbers of the word itself, system: all ways together. -/
import Derived.Test.YtnbpadnbmbdfeaaDoorF
namespace Go.Proofs.YtnbpadnbmbdfeaaDoor
open Go.RowKit Go.Deep Go.Joins

theorem via {f w : Nat} {W : World} {i : In} {p q r s t : Int} (h : i = ⟨p, q, r, s, t⟩) (hc : Calls Tryd.prog f #[.int .u32 w] W fun e W' => e = .returned (.agg #[.int .i64 p, .int .i64 q, .int .i64 r, .int .i64 s, .int .i64 t]) ∧ Below W.heap.size W W') : Calls Tryd.prog f #[.int .u32 w] W fun e W' => e = .returned (.agg #[.int .i64 (i).op, .int .i64 (i).rd, .int .i64 (i).rs1, .int .i64 (i).rs2, .int .i64 (i).imm]) ∧ Below W.heap.size W W' := by
  rw [h]
  exact hc
theorem bt {n c : Nat} (h : n = c) : ((n : Int) == (c : Int)) = true := by rw [beq_iff_eq]; omega
theorem bf {n c : Nat} (h : ¬ n = c) : ((n : Int) == (c : Int)) = false := by rw [beq_eq_false_iff_ne]; omega
def pOwn (w : Nat) : In :=
  if cutN w 12 3 = 1 ∧ cutN w 26 6 = 0 then ⟨28, (cutN w 7 5 : Nat), (cutN w 15 5 : Nat), 0, (cutN w 20 6 : Nat)⟩
  else if cutN w 12 3 = 5 ∧ cutN w 26 6 = 0 then ⟨29, (cutN w 7 5 : Nat), (cutN w 15 5 : Nat), 0, (cutN w 20 6 : Nat)⟩
  else if cutN w 12 3 = 5 ∧ cutN w 26 6 = 16 then ⟨30, (cutN w 7 5 : Nat), (cutN w 15 5 : Nat), 0, (cutN w 20 6 : Nat)⟩
  else ⟨row 4 (cutN w 12 3), (cutN w 7 5 : Nat), (cutN w 15 5 : Nat), 0, immI w⟩
theorem own_any (w : Nat) (W : World) (hL : Laid W) : Calls Tryd.prog 33 #[.int .u32 w] W fun e W' => e = .returned (.agg #[.int .i64 (pOwn w).op, .int .i64 (pOwn w).rd, .int .i64 (pOwn w).rs1, .int .i64 (pOwn w).rs2, .int .i64 (pOwn w).imm]) ∧ Below W.heap.size W W' := by
  by_cases h1 : cutN w 12 3 = 1
  · have h5 : ¬ cutN w 12 3 = 5 := by omega
    by_cases t0 : cutN w 26 6 = 0
    · exact via (by unfold pOwn; rw [if_pos ⟨h1, t0⟩]) (own_a w W (bt h1) (bt t0))
    · exact via (by unfold pOwn; rw [if_neg (fun h => t0 h.2), if_neg (fun h => t0 h.2), if_neg (fun h => h5 h.1)]) (own_d1 w W hL (bt h1) (bf h5) (bf t0))
  · by_cases h5 : cutN w 12 3 = 5
    · by_cases t0 : cutN w 26 6 = 0
      · exact via (by unfold pOwn; rw [if_neg (fun h => h1 h.1), if_pos ⟨h5, t0⟩]) (own_b w W (bf h1) (bt h5) (bt t0))
      · by_cases t1 : cutN w 26 6 = 16
        · exact via (by unfold pOwn; rw [if_neg (fun h => h1 h.1), if_neg (fun h => t0 h.2), if_pos ⟨h5, t1⟩]) (own_c w W (bf h1) (bt h5) (bf t0) (bt t1))
        · exact via (by unfold pOwn; rw [if_neg (fun h => h1 h.1), if_neg (fun h => t0 h.2), if_neg (fun h => t1 h.2)]) (own_d2 w W hL (bf h1) (bt h5) (bf t0) (bf t1))
    · exact via (by unfold pOwn; rw [if_neg (fun h => h1 h.1), if_neg (fun h => h5 h.1), if_neg (fun h => h5 h.1)]) (own_d3 w W hL (bf h1) (bf h5))
def pOwnW (w : Nat) : In :=
  if cutN w 12 3 = 0 then ⟨41, (cutN w 7 5 : Nat), (cutN w 15 5 : Nat), 0, immI w⟩
  else if cutN w 12 3 = 1 ∧ cutN w 25 7 = 0 then ⟨42, (cutN w 7 5 : Nat), (cutN w 15 5 : Nat), 0, (cutN w 20 5 : Nat)⟩
  else if cutN w 12 3 = 5 ∧ cutN w 25 7 = 0 then ⟨43, (cutN w 7 5 : Nat), (cutN w 15 5 : Nat), 0, (cutN w 20 5 : Nat)⟩
  else if cutN w 12 3 = 5 ∧ cutN w 25 7 = 32 then ⟨44, (cutN w 7 5 : Nat), (cutN w 15 5 : Nat), 0, (cutN w 20 5 : Nat)⟩
  else ⟨0, 0, 0, 0, 0⟩
theorem ownW_any (w : Nat) (W : World) : Calls Tryd.prog 34 #[.int .u32 w] W fun e W' => e = .returned (.agg #[.int .i64 (pOwnW w).op, .int .i64 (pOwnW w).rd, .int .i64 (pOwnW w).rs1, .int .i64 (pOwnW w).rs2, .int .i64 (pOwnW w).imm]) ∧ Below W.heap.size W W' := by
  by_cases h0 : cutN w 12 3 = 0
  · exact via (by unfold pOwnW; rw [if_pos h0]) (ownw_0 w W (bt h0))
  by_cases h1 : cutN w 12 3 = 1
  · have h5 : ¬ cutN w 12 3 = 5 := by omega
    by_cases t0 : cutN w 25 7 = 0
    · exact via (by unfold pOwnW; rw [if_neg h0, if_pos ⟨h1, t0⟩]) (ownw_1 w W (bf h0) (bt h1) (bt t0))
    · exact via (by unfold pOwnW; rw [if_neg h0, if_neg (fun h => t0 h.2), if_neg (fun h => t0 h.2), if_neg (fun h => h5 h.1)]) (ownw_n1 w W (bf h0) (bt h1) (bf h5) (bf t0))
  · by_cases h5 : cutN w 12 3 = 5
    · by_cases t0 : cutN w 25 7 = 0
      · exact via (by unfold pOwnW; rw [if_neg h0, if_neg (fun h => h1 h.1), if_pos ⟨h5, t0⟩]) (ownw_5 w W (bf h0) (bf h1) (bt h5) (bt t0))
      · by_cases t1 : cutN w 25 7 = 32
        · exact via (by unfold pOwnW; rw [if_neg h0, if_neg (fun h => h1 h.1), if_neg (fun h => t0 h.2), if_pos ⟨h5, t1⟩]) (ownw_5s w W (bf h0) (bf h1) (bt h5) (bf t0) (bt t1))
        · exact via (by unfold pOwnW; rw [if_neg h0, if_neg (fun h => h1 h.1), if_neg (fun h => t0 h.2), if_neg (fun h => t1 h.2)]) (ownw_n5 w W (bf h0) (bf h1) (bt h5) (bf t0) (bf t1))
    · exact via (by unfold pOwnW; rw [if_neg h0, if_neg (fun h => h1 h.1), if_neg (fun h => h5 h.1), if_neg (fun h => h5 h.1)]) (ownw_n w W (bf h0) (bf h1) (bf h5))
def pSys (w : Nat) : In :=
  if ¬ cutN w 12 3 = 0 then ⟨row 11 (cutN w 12 3), (cutN w 7 5 : Nat), (cutN w 15 5 : Nat), 0, (cutN w 20 12 : Nat)⟩
  else if w = 115 then ⟨52, 0, 0, 0, 0⟩
  else if w = 1048691 then ⟨53, 0, 0, 0, 0⟩
  else if w = 807403635 then ⟨95, 0, 0, 0, 0⟩
  else if w = 270532723 then ⟨96, 0, 0, 0, 0⟩
  else if w = 273678451 then ⟨97, 0, 0, 0, 0⟩
  else if cutN w 25 7 = 9 ∧ cutN w 7 5 = 0 then ⟨98, 0, (cutN w 15 5 : Nat), (cutN w 20 5 : Nat), 0⟩
  else ⟨0, 0, 0, 0, 0⟩
theorem sys_any (w : Nat) (W : World) (hL : Laid W) : Calls Tryd.prog 39 #[.int .u32 w] W fun e W' => e = .returned (.agg #[.int .i64 (pSys w).op, .int .i64 (pSys w).rd, .int .i64 (pSys w).rs1, .int .i64 (pSys w).rs2, .int .i64 (pSys w).imm]) ∧ Below W.heap.size W W' := by
  by_cases h0 : cutN w 12 3 = 0
  · have b0 : (((cutN w 12 3 : Nat) : Int) != (0 : Int)) = false := by rw [bne_eq_false_iff_eq]; omega
    have h00 : ¬ ¬ cutN w 12 3 = 0 := fun h => h h0
    by_cases e0 : w = 115
    · exact via (by unfold pSys; rw [if_neg h00, if_pos e0]) (sys_0 w W b0 (bt e0))
    by_cases e1 : w = 1048691
    · exact via (by unfold pSys; rw [if_neg h00, if_neg e0, if_pos e1]) (sys_1 w W b0 (bf e0) (bt e1))
    by_cases e2 : w = 807403635
    · exact via (by unfold pSys; rw [if_neg h00, if_neg e0, if_neg e1, if_pos e2]) (sys_2 w W b0 (bf e0) (bf e1) (bt e2))
    by_cases e3 : w = 270532723
    · exact via (by unfold pSys; rw [if_neg h00, if_neg e0, if_neg e1, if_neg e2, if_pos e3]) (sys_3 w W b0 (bf e0) (bf e1) (bf e2) (bt e3))
    by_cases e4 : w = 273678451
    · exact via (by unfold pSys; rw [if_neg h00, if_neg e0, if_neg e1, if_neg e2, if_neg e3, if_pos e4]) (sys_4 w W b0 (bf e0) (bf e1) (bf e2) (bf e3) (bt e4))
    by_cases t9 : cutN w 25 7 = 9
    · by_cases d0 : cutN w 7 5 = 0
      · exact via (by unfold pSys; rw [if_neg h00, if_neg e0, if_neg e1, if_neg e2, if_neg e3, if_neg e4, if_pos ⟨t9, d0⟩]) (sys_f w W b0 (bf e0) (bf e1) (bf e2) (bf e3) (bf e4) (bt t9) (bt d0))
      · exact via (by unfold pSys; rw [if_neg h00, if_neg e0, if_neg e1, if_neg e2, if_neg e3, if_neg e4, if_neg (fun h => d0 h.2)]) (sys_n2 w W b0 (bf e0) (bf e1) (bf e2) (bf e3) (bf e4) (bt t9) (bf d0))
    · exact via (by unfold pSys; rw [if_neg h00, if_neg e0, if_neg e1, if_neg e2, if_neg e3, if_neg e4, if_neg (fun h => t9 h.1)]) (sys_n1 w W b0 (bf e0) (bf e1) (bf e2) (bf e3) (bf e4) (bf t9))
  · exact via (by unfold pSys; rw [if_pos h0]) (sys_r w W hL (by rw [bne_iff_ne]; omega))

end Go.Proofs.YtnbpadnbmbdfeaaDoor
