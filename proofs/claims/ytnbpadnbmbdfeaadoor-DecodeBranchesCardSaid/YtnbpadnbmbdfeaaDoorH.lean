/- The program: the instruction of a word, by its low seven bits. -/
import Derived.Test.YtnbpadnbmbdfeaaDoorG
import Derived.StillTailTactics
namespace Go.Proofs.YtnbpadnbmbdfeaaDoor
open Go.RowKit Go.Deep Go.Joins
set_option maxHeartbeats 1000000 in
theorem ins_55 (w : Nat) (W : World)  (g0 : (((cutN w 0 7 : Nat) : Int) == (55 : Int)) = true)  :
    Calls Tryd.prog 11 #[.int .u32 w] W fun e W' => e = .returned (.agg #[.int .i64 1, .int .i64 (cutN w 7 5 : Nat), .int .i64 0, .int .i64 0, .int .i64 (immU w)]) ∧ Below W.heap.size W W' := by
  have l12_3 := lt_12_3 w
  have l0_7 := lt_0_7 w
  go_enter Tryd.func11, Tryd.ntmps11
  go_wp2_with (first | (go_at_call 24; (first | (with_reducible refine (bits_14_12 w _).mono ?_) | (with_reducible refine (bits_6_0 w _).mono ?_) | fail); rintro e w' ⟨rfl, rfl⟩) | (go_at_call 26; (first | (with_reducible refine (numU_any w _).mono ?_) | fail); rintro e w' ⟨rfl, rfl⟩) | (go_at_call 25; (with_reducible refine (withRd w _ _ _).mono ?_); rintro e w1 ⟨rfl, hb1⟩; obtain ⟨hc1, hf1⟩ := bcell hb1) | fail)
  refine bodyPost_ret (v := .agg #[.int .i64 1, .int .i64 (cutN w 7 5 : Nat), .int .i64 0, .int .i64 0, .int .i64 (immU w)]) (by simp [results, Tryd.results11, go_sem, hc1]) rfl ?_
  exact ⟨rfl, fin5 hb1 _ _ _ _ _⟩
set_option maxHeartbeats 1000000 in
theorem ins_23 (w : Nat) (W : World)  (g0 : (((cutN w 0 7 : Nat) : Int) == (55 : Int)) = false) (g1 : (((cutN w 0 7 : Nat) : Int) == (23 : Int)) = true)  :
    Calls Tryd.prog 11 #[.int .u32 w] W fun e W' => e = .returned (.agg #[.int .i64 2, .int .i64 (cutN w 7 5 : Nat), .int .i64 0, .int .i64 0, .int .i64 (immU w)]) ∧ Below W.heap.size W W' := by
  have l12_3 := lt_12_3 w
  have l0_7 := lt_0_7 w
  go_enter Tryd.func11, Tryd.ntmps11
  go_wp2_with (first | (go_at_call 24; (first | (with_reducible refine (bits_14_12 w _).mono ?_) | (with_reducible refine (bits_6_0 w _).mono ?_) | fail); rintro e w' ⟨rfl, rfl⟩) | (go_at_call 26; (first | (with_reducible refine (numU_any w _).mono ?_) | fail); rintro e w' ⟨rfl, rfl⟩) | (go_at_call 25; (with_reducible refine (withRd w _ _ _).mono ?_); rintro e w1 ⟨rfl, hb1⟩; obtain ⟨hc1, hf1⟩ := bcell hb1) | fail)
  refine bodyPost_ret (v := .agg #[.int .i64 2, .int .i64 (cutN w 7 5 : Nat), .int .i64 0, .int .i64 0, .int .i64 (immU w)]) (by simp [results, Tryd.results11, go_sem, hc1]) rfl ?_
  exact ⟨rfl, fin5 hb1 _ _ _ _ _⟩
set_option maxHeartbeats 1000000 in
theorem ins_111 (w : Nat) (W : World)  (g0 : (((cutN w 0 7 : Nat) : Int) == (55 : Int)) = false) (g1 : (((cutN w 0 7 : Nat) : Int) == (23 : Int)) = false) (g2 : (((cutN w 0 7 : Nat) : Int) == (111 : Int)) = true)  :
    Calls Tryd.prog 11 #[.int .u32 w] W fun e W' => e = .returned (.agg #[.int .i64 3, .int .i64 (cutN w 7 5 : Nat), .int .i64 0, .int .i64 0, .int .i64 (immJ w)]) ∧ Below W.heap.size W W' := by
  have l12_3 := lt_12_3 w
  have l0_7 := lt_0_7 w
  go_enter Tryd.func11, Tryd.ntmps11
  go_wp2_with (first | (go_at_call 24; (first | (with_reducible refine (bits_14_12 w _).mono ?_) | (with_reducible refine (bits_6_0 w _).mono ?_) | fail); rintro e w' ⟨rfl, rfl⟩) | (go_at_call 27; (first | (with_reducible refine (numJ_any w _).mono ?_) | fail); rintro e w' ⟨rfl, rfl⟩) | (go_at_call 25; (with_reducible refine (withRd w _ _ _).mono ?_); rintro e w1 ⟨rfl, hb1⟩; obtain ⟨hc1, hf1⟩ := bcell hb1) | fail)
  refine bodyPost_ret (v := .agg #[.int .i64 3, .int .i64 (cutN w 7 5 : Nat), .int .i64 0, .int .i64 0, .int .i64 (immJ w)]) (by simp [results, Tryd.results11, go_sem, hc1]) rfl ?_
  exact ⟨rfl, fin5 hb1 _ _ _ _ _⟩
set_option maxHeartbeats 1000000 in
theorem ins_103 (w : Nat) (W : World)  (g0 : (((cutN w 0 7 : Nat) : Int) == (55 : Int)) = false) (g1 : (((cutN w 0 7 : Nat) : Int) == (23 : Int)) = false) (g2 : (((cutN w 0 7 : Nat) : Int) == (111 : Int)) = false) (g3 : (((cutN w 0 7 : Nat) : Int) == (103 : Int)) = true) (g4 : (((cutN w 12 3 : Nat) : Int) == (0 : Int)) = true)  :
    Calls Tryd.prog 11 #[.int .u32 w] W fun e W' => e = .returned (.agg #[.int .i64 4, .int .i64 (cutN w 7 5 : Nat), .int .i64 (cutN w 15 5 : Nat), .int .i64 0, .int .i64 (immI w)]) ∧ Below W.heap.size W W' := by
  have l12_3 := lt_12_3 w
  have l0_7 := lt_0_7 w
  go_enter Tryd.func11, Tryd.ntmps11
  go_wp2_with (first | (go_at_call 24; (first | (with_reducible refine (bits_14_12 w _).mono ?_) | (with_reducible refine (bits_6_0 w _).mono ?_) | fail); rintro e w' ⟨rfl, rfl⟩) | (go_at_call 29; (first | (with_reducible refine (numI_any w _).mono ?_) | fail); rintro e w' ⟨rfl, rfl⟩) | (go_at_call 28; (with_reducible refine (withRdRs1 w _ _ _).mono ?_); rintro e w1 ⟨rfl, hb1⟩; obtain ⟨hc1, hf1⟩ := bcell hb1) | fail)
  refine bodyPost_ret (v := .agg #[.int .i64 4, .int .i64 (cutN w 7 5 : Nat), .int .i64 (cutN w 15 5 : Nat), .int .i64 0, .int .i64 (immI w)]) (by simp [results, Tryd.results11, go_sem, hc1]) rfl ?_
  exact ⟨rfl, fin5 hb1 _ _ _ _ _⟩
set_option maxHeartbeats 1000000 in
theorem ins_103n (w : Nat) (W : World)  (g0 : (((cutN w 0 7 : Nat) : Int) == (55 : Int)) = false) (g1 : (((cutN w 0 7 : Nat) : Int) == (23 : Int)) = false) (g2 : (((cutN w 0 7 : Nat) : Int) == (111 : Int)) = false) (g3 : (((cutN w 0 7 : Nat) : Int) == (103 : Int)) = true) (g4 : (((cutN w 12 3 : Nat) : Int) == (0 : Int)) = false)  :
    Calls Tryd.prog 11 #[.int .u32 w] W fun e W' => e = .returned (.agg #[.int .i64 0, .int .i64 0, .int .i64 0, .int .i64 0, .int .i64 0]) ∧ Below W.heap.size W W' := by
  have l12_3 := lt_12_3 w
  have l0_7 := lt_0_7 w
  go_enter Tryd.func11, Tryd.ntmps11
  go_wp2_with (first | (go_at_call 24; (first | (with_reducible refine (bits_14_12 w _).mono ?_) | (with_reducible refine (bits_6_0 w _).mono ?_) | fail); rintro e w' ⟨rfl, rfl⟩) | fail)
  go_returns
  exact ⟨rfl, below1 W _⟩
set_option maxHeartbeats 1000000 in
theorem ins_99 (w : Nat) (W : World) (hL : Laid W) (g0 : (((cutN w 0 7 : Nat) : Int) == (55 : Int)) = false) (g1 : (((cutN w 0 7 : Nat) : Int) == (23 : Int)) = false) (g2 : (((cutN w 0 7 : Nat) : Int) == (111 : Int)) = false) (g3 : (((cutN w 0 7 : Nat) : Int) == (103 : Int)) = false) (g4 : (((cutN w 0 7 : Nat) : Int) == (99 : Int)) = true)  :
    Calls Tryd.prog 11 #[.int .u32 w] W fun e W' => e = .returned (.agg #[.int .i64 (row 0 (cutN w 12 3)), .int .i64 0, .int .i64 (cutN w 15 5 : Nat), .int .i64 (cutN w 20 5 : Nat), .int .i64 (immB w)]) ∧ Below W.heap.size W W' := by
  have h3 := lt_12_3 w
  have hc0 := hL.2 0 _ (by omega) h3
  have i0 : (0 : Int) ≤ (cutN w 12 3 : Nat) := by omega
  have i1 : ((cutN w 12 3 : Nat) : Int) < 8 := by omega
  have h12 := hL.1
  clear hL
  have l0_7 := lt_0_7 w
  go_enter Tryd.func11, Tryd.ntmps11
  go_wp2_with (first | (go_at_call 24; (first | (with_reducible refine (bits_14_12 w _).mono ?_) | (with_reducible refine (bits_6_0 w _).mono ?_) | fail); rintro e w' ⟨rfl, rfl⟩) | fail)
  have HF0 := Lib.hid (fresh_alloc W)
  generalize W.alloc (.cells #[.int .i64 0, .int .i64 0, .int .i64 0, .int .i64 0, .int .i64 0] 25) = w0 at HF0 ⊢
  refine wp_region_still_tail 6 (by kernel_rfl) (by kernel_rfl) ?_
  simp only [List.take_succ_cons, List.take_zero, List.drop_succ_cons, List.drop_zero]
  have HF := Lib.hid HF0.out.drew
  generalize { w0 with drawn := w0.drawn + 1 } = w2 at HF ⊢
  obtain ⟨c0, c1, c2, c3, c4⟩ := And.intro HF.out.c0 (And.intro HF.out.c1 (And.intro HF.out.c2 (And.intro HF.out.c3 HF.out.c4)))
  have ff := HF.out.f
  have ll := HF.out.lt
  have hc5 := (HF.out.b.cell (p := ⟨0, cutN w 12 3, none⟩) (by show 0 < _; omega)).trans hc0
  repeat still_step
  still_call ((numB_any w _).mono fun _ _ h => ⟨h.1, h.2.symm⟩)
  repeat still_step
  refine wpStill_nil ?_
  go_wp2_with (first | (go_at_call 30; (with_reducible refine (withRs1Rs2 w _ _ _).mono ?_); rintro e w1 ⟨rfl, hb1⟩; obtain ⟨hc1, hf1⟩ := bcell hb1) | fail)
  refine bodyPost_ret (v := .agg #[.int .i64 (row 0 (cutN w 12 3)), .int .i64 0, .int .i64 (cutN w 15 5 : Nat), .int .i64 (cutN w 20 5 : Nat), .int .i64 (immB w)]) (by simp [results, Tryd.results11, go_sem, hc1, ll, c0, c1, c2, c3, c4]) rfl ?_
  exact ⟨rfl, fin5f HF.out hb1 _ _ _ _ _⟩
set_option maxHeartbeats 1000000 in
theorem ins_3 (w : Nat) (W : World) (hL : Laid W) (g0 : (((cutN w 0 7 : Nat) : Int) == (55 : Int)) = false) (g1 : (((cutN w 0 7 : Nat) : Int) == (23 : Int)) = false) (g2 : (((cutN w 0 7 : Nat) : Int) == (111 : Int)) = false) (g3 : (((cutN w 0 7 : Nat) : Int) == (103 : Int)) = false) (g4 : (((cutN w 0 7 : Nat) : Int) == (99 : Int)) = false) (g5 : (((cutN w 0 7 : Nat) : Int) == (3 : Int)) = true)  :
    Calls Tryd.prog 11 #[.int .u32 w] W fun e W' => e = .returned (.agg #[.int .i64 (row 1 (cutN w 12 3)), .int .i64 (cutN w 7 5 : Nat), .int .i64 (cutN w 15 5 : Nat), .int .i64 0, .int .i64 (immI w)]) ∧ Below W.heap.size W W' := by
  have h3 := lt_12_3 w
  have hc0 := hL.2 1 _ (by omega) h3
  have i0 : (0 : Int) ≤ (cutN w 12 3 : Nat) := by omega
  have i1 : ((cutN w 12 3 : Nat) : Int) < 8 := by omega
  have h12 := hL.1
  clear hL
  have l0_7 := lt_0_7 w
  go_enter Tryd.func11, Tryd.ntmps11
  go_wp2_with (first | (go_at_call 24; (first | (with_reducible refine (bits_14_12 w _).mono ?_) | (with_reducible refine (bits_6_0 w _).mono ?_) | fail); rintro e w' ⟨rfl, rfl⟩) | fail)
  have HF0 := Lib.hid (fresh_alloc W)
  generalize W.alloc (.cells #[.int .i64 0, .int .i64 0, .int .i64 0, .int .i64 0, .int .i64 0] 25) = w0 at HF0 ⊢
  refine wp_region_still_tail 6 (by kernel_rfl) (by kernel_rfl) ?_
  simp only [List.take_succ_cons, List.take_zero, List.drop_succ_cons, List.drop_zero]
  have HF := Lib.hid HF0.out.drew
  generalize { w0 with drawn := w0.drawn + 1 } = w2 at HF ⊢
  obtain ⟨c0, c1, c2, c3, c4⟩ := And.intro HF.out.c0 (And.intro HF.out.c1 (And.intro HF.out.c2 (And.intro HF.out.c3 HF.out.c4)))
  have ff := HF.out.f
  have ll := HF.out.lt
  have hc5 := (HF.out.b.cell (p := ⟨1, cutN w 12 3, none⟩) (by show 1 < _; omega)).trans hc0
  repeat still_step
  still_call ((numI_any w _).mono fun _ _ h => ⟨h.1, h.2.symm⟩)
  repeat still_step
  refine wpStill_nil ?_
  go_wp2_with (first | (go_at_call 28; (with_reducible refine (withRdRs1 w _ _ _).mono ?_); rintro e w1 ⟨rfl, hb1⟩; obtain ⟨hc1, hf1⟩ := bcell hb1) | fail)
  refine bodyPost_ret (v := .agg #[.int .i64 (row 1 (cutN w 12 3)), .int .i64 (cutN w 7 5 : Nat), .int .i64 (cutN w 15 5 : Nat), .int .i64 0, .int .i64 (immI w)]) (by simp [results, Tryd.results11, go_sem, hc1, ll, c0, c1, c2, c3, c4]) rfl ?_
  exact ⟨rfl, fin5f HF.out hb1 _ _ _ _ _⟩
set_option maxHeartbeats 1000000 in
theorem ins_35 (w : Nat) (W : World) (hL : Laid W) (g0 : (((cutN w 0 7 : Nat) : Int) == (55 : Int)) = false) (g1 : (((cutN w 0 7 : Nat) : Int) == (23 : Int)) = false) (g2 : (((cutN w 0 7 : Nat) : Int) == (111 : Int)) = false) (g3 : (((cutN w 0 7 : Nat) : Int) == (103 : Int)) = false) (g4 : (((cutN w 0 7 : Nat) : Int) == (99 : Int)) = false) (g5 : (((cutN w 0 7 : Nat) : Int) == (3 : Int)) = false) (g6 : (((cutN w 0 7 : Nat) : Int) == (35 : Int)) = true)  :
    Calls Tryd.prog 11 #[.int .u32 w] W fun e W' => e = .returned (.agg #[.int .i64 (row 2 (cutN w 12 3)), .int .i64 0, .int .i64 (cutN w 15 5 : Nat), .int .i64 (cutN w 20 5 : Nat), .int .i64 (immS w)]) ∧ Below W.heap.size W W' := by
  have h3 := lt_12_3 w
  have hc0 := hL.2 2 _ (by omega) h3
  have i0 : (0 : Int) ≤ (cutN w 12 3 : Nat) := by omega
  have i1 : ((cutN w 12 3 : Nat) : Int) < 8 := by omega
  have h12 := hL.1
  clear hL
  have l0_7 := lt_0_7 w
  go_enter Tryd.func11, Tryd.ntmps11
  go_wp2_with (first | (go_at_call 24; (first | (with_reducible refine (bits_14_12 w _).mono ?_) | (with_reducible refine (bits_6_0 w _).mono ?_) | fail); rintro e w' ⟨rfl, rfl⟩) | fail)
  have HF0 := Lib.hid (fresh_alloc W)
  generalize W.alloc (.cells #[.int .i64 0, .int .i64 0, .int .i64 0, .int .i64 0, .int .i64 0] 25) = w0 at HF0 ⊢
  refine wp_region_still_tail 6 (by kernel_rfl) (by kernel_rfl) ?_
  simp only [List.take_succ_cons, List.take_zero, List.drop_succ_cons, List.drop_zero]
  have HF := Lib.hid HF0.out.drew
  generalize { w0 with drawn := w0.drawn + 1 } = w2 at HF ⊢
  obtain ⟨c0, c1, c2, c3, c4⟩ := And.intro HF.out.c0 (And.intro HF.out.c1 (And.intro HF.out.c2 (And.intro HF.out.c3 HF.out.c4)))
  have ff := HF.out.f
  have ll := HF.out.lt
  have hc5 := (HF.out.b.cell (p := ⟨2, cutN w 12 3, none⟩) (by show 2 < _; omega)).trans hc0
  repeat still_step
  still_call ((numS_any w _).mono fun _ _ h => ⟨h.1, h.2.symm⟩)
  repeat still_step
  refine wpStill_nil ?_
  go_wp2_with (first | (go_at_call 30; (with_reducible refine (withRs1Rs2 w _ _ _).mono ?_); rintro e w1 ⟨rfl, hb1⟩; obtain ⟨hc1, hf1⟩ := bcell hb1) | fail)
  refine bodyPost_ret (v := .agg #[.int .i64 (row 2 (cutN w 12 3)), .int .i64 0, .int .i64 (cutN w 15 5 : Nat), .int .i64 (cutN w 20 5 : Nat), .int .i64 (immS w)]) (by simp [results, Tryd.results11, go_sem, hc1, ll, c0, c1, c2, c3, c4]) rfl ?_
  exact ⟨rfl, fin5f HF.out hb1 _ _ _ _ _⟩
set_option maxHeartbeats 1000000 in
theorem ins_19 (w : Nat) (W : World)  (g0 : (((cutN w 0 7 : Nat) : Int) == (55 : Int)) = false) (g1 : (((cutN w 0 7 : Nat) : Int) == (23 : Int)) = false) (g2 : (((cutN w 0 7 : Nat) : Int) == (111 : Int)) = false) (g3 : (((cutN w 0 7 : Nat) : Int) == (103 : Int)) = false) (g4 : (((cutN w 0 7 : Nat) : Int) == (99 : Int)) = false) (g5 : (((cutN w 0 7 : Nat) : Int) == (3 : Int)) = false) (g6 : (((cutN w 0 7 : Nat) : Int) == (35 : Int)) = false) (g7 : (((cutN w 0 7 : Nat) : Int) == (19 : Int)) = true) (hL : Laid W) :
    Calls Tryd.prog 11 #[.int .u32 w] W fun e W' => e = .returned (.agg #[.int .i64 (pOwn w).op, .int .i64 (pOwn w).rd, .int .i64 (pOwn w).rs1, .int .i64 (pOwn w).rs2, .int .i64 (pOwn w).imm]) ∧ Below W.heap.size W W' := by
  have HL := Lib.hid (fun o => hL.below (below1 W o))
  clear hL
  have l12_3 := lt_12_3 w
  have l0_7 := lt_0_7 w
  go_enter Tryd.func11, Tryd.ntmps11
  go_wp2_with (first | (go_at_call 24; (first | (with_reducible refine (bits_14_12 w _).mono ?_) | (with_reducible refine (bits_6_0 w _).mono ?_) | fail); rintro e w' ⟨rfl, rfl⟩) | (go_at_call 33; (with_reducible refine (own_any w _ (HL.out _)).mono ?_); rintro e w1 ⟨rfl, hb1⟩; obtain ⟨hc1, hf1⟩ := bcell hb1) | fail)
  refine bodyPost_ret (v := .agg #[.int .i64 (pOwn w).op, .int .i64 (pOwn w).rd, .int .i64 (pOwn w).rs1, .int .i64 (pOwn w).rs2, .int .i64 (pOwn w).imm]) (by simp [results, Tryd.results11, go_sem, hc1]) rfl ?_
  exact ⟨rfl, fin5 hb1 _ _ _ _ _⟩
set_option maxHeartbeats 1000000 in
theorem ins_27 (w : Nat) (W : World)  (g0 : (((cutN w 0 7 : Nat) : Int) == (55 : Int)) = false) (g1 : (((cutN w 0 7 : Nat) : Int) == (23 : Int)) = false) (g2 : (((cutN w 0 7 : Nat) : Int) == (111 : Int)) = false) (g3 : (((cutN w 0 7 : Nat) : Int) == (103 : Int)) = false) (g4 : (((cutN w 0 7 : Nat) : Int) == (99 : Int)) = false) (g5 : (((cutN w 0 7 : Nat) : Int) == (3 : Int)) = false) (g6 : (((cutN w 0 7 : Nat) : Int) == (35 : Int)) = false) (g7 : (((cutN w 0 7 : Nat) : Int) == (19 : Int)) = false) (g8 : (((cutN w 0 7 : Nat) : Int) == (27 : Int)) = true)  :
    Calls Tryd.prog 11 #[.int .u32 w] W fun e W' => e = .returned (.agg #[.int .i64 (pOwnW w).op, .int .i64 (pOwnW w).rd, .int .i64 (pOwnW w).rs1, .int .i64 (pOwnW w).rs2, .int .i64 (pOwnW w).imm]) ∧ Below W.heap.size W W' := by
  have l12_3 := lt_12_3 w
  have l0_7 := lt_0_7 w
  go_enter Tryd.func11, Tryd.ntmps11
  go_wp2_with (first | (go_at_call 24; (first | (with_reducible refine (bits_14_12 w _).mono ?_) | (with_reducible refine (bits_6_0 w _).mono ?_) | fail); rintro e w' ⟨rfl, rfl⟩) | (go_at_call 34; (with_reducible refine (ownW_any w _).mono ?_); rintro e w1 ⟨rfl, hb1⟩; obtain ⟨hc1, hf1⟩ := bcell hb1) | fail)
  refine bodyPost_ret (v := .agg #[.int .i64 (pOwnW w).op, .int .i64 (pOwnW w).rd, .int .i64 (pOwnW w).rs1, .int .i64 (pOwnW w).rs2, .int .i64 (pOwnW w).imm]) (by simp [results, Tryd.results11, go_sem, hc1]) rfl ?_
  exact ⟨rfl, fin5 hb1 _ _ _ _ _⟩
set_option maxHeartbeats 1000000 in
theorem ins_51 (w : Nat) (W : World)  (g0 : (((cutN w 0 7 : Nat) : Int) == (55 : Int)) = false) (g1 : (((cutN w 0 7 : Nat) : Int) == (23 : Int)) = false) (g2 : (((cutN w 0 7 : Nat) : Int) == (111 : Int)) = false) (g3 : (((cutN w 0 7 : Nat) : Int) == (103 : Int)) = false) (g4 : (((cutN w 0 7 : Nat) : Int) == (99 : Int)) = false) (g5 : (((cutN w 0 7 : Nat) : Int) == (3 : Int)) = false) (g6 : (((cutN w 0 7 : Nat) : Int) == (35 : Int)) = false) (g7 : (((cutN w 0 7 : Nat) : Int) == (19 : Int)) = false) (g8 : (((cutN w 0 7 : Nat) : Int) == (27 : Int)) = false) (g9 : (((cutN w 0 7 : Nat) : Int) == (51 : Int)) = true) (hL : Laid W) :
    Calls Tryd.prog 11 #[.int .u32 w] W fun e W' => e = .returned (.agg #[.int .i64 (op33 (cutN w 12 3) (cutN w 25 7)), .int .i64 (cutN w 7 5 : Nat), .int .i64 (cutN w 15 5 : Nat), .int .i64 (cutN w 20 5 : Nat), .int .i64 0]) ∧ Below W.heap.size W W' := by
  have HL := Lib.hid (fun o => hL.below (below1 W o))
  clear hL
  have l12_3 := lt_12_3 w
  have l0_7 := lt_0_7 w
  go_enter Tryd.func11, Tryd.ntmps11
  go_wp2_with (first | (go_at_call 24; (first | (with_reducible refine (bits_14_12 w _).mono ?_) | (with_reducible refine (bits_6_0 w _).mono ?_) | fail); rintro e w' ⟨rfl, rfl⟩) | (go_at_call 36; (first | (with_reducible refine (sum_any w _ (HL.out _)).mono ?_) | fail); rintro e w' ⟨rfl, rfl⟩) | (go_at_call 35; (with_reducible refine (withAll w _ _).mono ?_); rintro e w1 ⟨rfl, hb1⟩; obtain ⟨hc1, hf1⟩ := bcell hb1) | fail)
  refine bodyPost_ret (v := .agg #[.int .i64 (op33 (cutN w 12 3) (cutN w 25 7)), .int .i64 (cutN w 7 5 : Nat), .int .i64 (cutN w 15 5 : Nat), .int .i64 (cutN w 20 5 : Nat), .int .i64 0]) (by simp [results, Tryd.results11, go_sem, hc1]) rfl ?_
  exact ⟨rfl, fin5 hb1 _ _ _ _ _⟩
set_option maxHeartbeats 1000000 in
theorem ins_59 (w : Nat) (W : World)  (g0 : (((cutN w 0 7 : Nat) : Int) == (55 : Int)) = false) (g1 : (((cutN w 0 7 : Nat) : Int) == (23 : Int)) = false) (g2 : (((cutN w 0 7 : Nat) : Int) == (111 : Int)) = false) (g3 : (((cutN w 0 7 : Nat) : Int) == (103 : Int)) = false) (g4 : (((cutN w 0 7 : Nat) : Int) == (99 : Int)) = false) (g5 : (((cutN w 0 7 : Nat) : Int) == (3 : Int)) = false) (g6 : (((cutN w 0 7 : Nat) : Int) == (35 : Int)) = false) (g7 : (((cutN w 0 7 : Nat) : Int) == (19 : Int)) = false) (g8 : (((cutN w 0 7 : Nat) : Int) == (27 : Int)) = false) (g9 : (((cutN w 0 7 : Nat) : Int) == (51 : Int)) = false) (g10 : (((cutN w 0 7 : Nat) : Int) == (59 : Int)) = true) (hL : Laid W) :
    Calls Tryd.prog 11 #[.int .u32 w] W fun e W' => e = .returned (.agg #[.int .i64 (op3b (cutN w 12 3) (cutN w 25 7)), .int .i64 (cutN w 7 5 : Nat), .int .i64 (cutN w 15 5 : Nat), .int .i64 (cutN w 20 5 : Nat), .int .i64 0]) ∧ Below W.heap.size W W' := by
  have HL := Lib.hid (fun o => hL.below (below1 W o))
  clear hL
  have l12_3 := lt_12_3 w
  have l0_7 := lt_0_7 w
  go_enter Tryd.func11, Tryd.ntmps11
  go_wp2_with (first | (go_at_call 24; (first | (with_reducible refine (bits_14_12 w _).mono ?_) | (with_reducible refine (bits_6_0 w _).mono ?_) | fail); rintro e w' ⟨rfl, rfl⟩) | (go_at_call 37; (first | (with_reducible refine (sumW_any w _ (HL.out _)).mono ?_) | fail); rintro e w' ⟨rfl, rfl⟩) | (go_at_call 35; (with_reducible refine (withAll w _ _).mono ?_); rintro e w1 ⟨rfl, hb1⟩; obtain ⟨hc1, hf1⟩ := bcell hb1) | fail)
  refine bodyPost_ret (v := .agg #[.int .i64 (op3b (cutN w 12 3) (cutN w 25 7)), .int .i64 (cutN w 7 5 : Nat), .int .i64 (cutN w 15 5 : Nat), .int .i64 (cutN w 20 5 : Nat), .int .i64 0]) (by simp [results, Tryd.results11, go_sem, hc1]) rfl ?_
  exact ⟨rfl, fin5 hb1 _ _ _ _ _⟩
set_option maxHeartbeats 1000000 in
theorem ins_15 (w : Nat) (W : World)  (g0 : (((cutN w 0 7 : Nat) : Int) == (55 : Int)) = false) (g1 : (((cutN w 0 7 : Nat) : Int) == (23 : Int)) = false) (g2 : (((cutN w 0 7 : Nat) : Int) == (111 : Int)) = false) (g3 : (((cutN w 0 7 : Nat) : Int) == (103 : Int)) = false) (g4 : (((cutN w 0 7 : Nat) : Int) == (99 : Int)) = false) (g5 : (((cutN w 0 7 : Nat) : Int) == (3 : Int)) = false) (g6 : (((cutN w 0 7 : Nat) : Int) == (35 : Int)) = false) (g7 : (((cutN w 0 7 : Nat) : Int) == (19 : Int)) = false) (g8 : (((cutN w 0 7 : Nat) : Int) == (27 : Int)) = false) (g9 : (((cutN w 0 7 : Nat) : Int) == (51 : Int)) = false) (g10 : (((cutN w 0 7 : Nat) : Int) == (59 : Int)) = false) (g11 : (((cutN w 0 7 : Nat) : Int) == (15 : Int)) = true) (hL : Laid W) :
    Calls Tryd.prog 11 #[.int .u32 w] W fun e W' => e = .returned (.agg #[.int .i64 (row 3 (cutN w 12 3)), .int .i64 0, .int .i64 0, .int .i64 0, .int .i64 0]) ∧ Below W.heap.size W W' := by
  have h12 := hL.1
  have hc0 := fun o => (hL.below (below1 W o)).2 3 _ (by omega) (lt_12_3 w)
  clear hL
  have l12_3 := lt_12_3 w
  have l0_7 := lt_0_7 w
  go_enter Tryd.func11, Tryd.ntmps11
  go_wp2_with (first | (go_at_call 24; (first | (with_reducible refine (bits_14_12 w _).mono ?_) | (with_reducible refine (bits_6_0 w _).mono ?_) | fail); rintro e w' ⟨rfl, rfl⟩) | fail)
  go_returns
  exact ⟨rfl, below1 W _⟩
set_option maxHeartbeats 1000000 in
theorem ins_47 (w : Nat) (W : World)  (g0 : (((cutN w 0 7 : Nat) : Int) == (55 : Int)) = false) (g1 : (((cutN w 0 7 : Nat) : Int) == (23 : Int)) = false) (g2 : (((cutN w 0 7 : Nat) : Int) == (111 : Int)) = false) (g3 : (((cutN w 0 7 : Nat) : Int) == (103 : Int)) = false) (g4 : (((cutN w 0 7 : Nat) : Int) == (99 : Int)) = false) (g5 : (((cutN w 0 7 : Nat) : Int) == (3 : Int)) = false) (g6 : (((cutN w 0 7 : Nat) : Int) == (35 : Int)) = false) (g7 : (((cutN w 0 7 : Nat) : Int) == (19 : Int)) = false) (g8 : (((cutN w 0 7 : Nat) : Int) == (27 : Int)) = false) (g9 : (((cutN w 0 7 : Nat) : Int) == (51 : Int)) = false) (g10 : (((cutN w 0 7 : Nat) : Int) == (59 : Int)) = false) (g11 : (((cutN w 0 7 : Nat) : Int) == (15 : Int)) = false) (g12 : (((cutN w 0 7 : Nat) : Int) == (47 : Int)) = true)  :
    Calls Tryd.prog 11 #[.int .u32 w] W fun e W' => e = .returned (.agg #[.int .i64 (pAtom w).op, .int .i64 (pAtom w).rd, .int .i64 (pAtom w).rs1, .int .i64 (pAtom w).rs2, .int .i64 (pAtom w).imm]) ∧ Below W.heap.size W W' := by
  have l12_3 := lt_12_3 w
  have l0_7 := lt_0_7 w
  go_enter Tryd.func11, Tryd.ntmps11
  go_wp2_with (first | (go_at_call 24; (first | (with_reducible refine (bits_14_12 w _).mono ?_) | (with_reducible refine (bits_6_0 w _).mono ?_) | fail); rintro e w' ⟨rfl, rfl⟩) | (go_at_call 38; (with_reducible refine (atom_any w _).mono ?_); rintro e w1 ⟨rfl, hb1⟩; obtain ⟨hc1, hf1⟩ := bcell hb1) | fail)
  refine bodyPost_ret (v := .agg #[.int .i64 (pAtom w).op, .int .i64 (pAtom w).rd, .int .i64 (pAtom w).rs1, .int .i64 (pAtom w).rs2, .int .i64 (pAtom w).imm]) (by simp [results, Tryd.results11, go_sem, hc1]) rfl ?_
  exact ⟨rfl, fin5 hb1 _ _ _ _ _⟩
set_option maxHeartbeats 1000000 in
theorem ins_115 (w : Nat) (W : World)  (g0 : (((cutN w 0 7 : Nat) : Int) == (55 : Int)) = false) (g1 : (((cutN w 0 7 : Nat) : Int) == (23 : Int)) = false) (g2 : (((cutN w 0 7 : Nat) : Int) == (111 : Int)) = false) (g3 : (((cutN w 0 7 : Nat) : Int) == (103 : Int)) = false) (g4 : (((cutN w 0 7 : Nat) : Int) == (99 : Int)) = false) (g5 : (((cutN w 0 7 : Nat) : Int) == (3 : Int)) = false) (g6 : (((cutN w 0 7 : Nat) : Int) == (35 : Int)) = false) (g7 : (((cutN w 0 7 : Nat) : Int) == (19 : Int)) = false) (g8 : (((cutN w 0 7 : Nat) : Int) == (27 : Int)) = false) (g9 : (((cutN w 0 7 : Nat) : Int) == (51 : Int)) = false) (g10 : (((cutN w 0 7 : Nat) : Int) == (59 : Int)) = false) (g11 : (((cutN w 0 7 : Nat) : Int) == (15 : Int)) = false) (g12 : (((cutN w 0 7 : Nat) : Int) == (47 : Int)) = false) (g13 : (((cutN w 0 7 : Nat) : Int) == (115 : Int)) = true) (hL : Laid W) :
    Calls Tryd.prog 11 #[.int .u32 w] W fun e W' => e = .returned (.agg #[.int .i64 (pSys w).op, .int .i64 (pSys w).rd, .int .i64 (pSys w).rs1, .int .i64 (pSys w).rs2, .int .i64 (pSys w).imm]) ∧ Below W.heap.size W W' := by
  have HL := Lib.hid (fun o => hL.below (below1 W o))
  clear hL
  have l12_3 := lt_12_3 w
  have l0_7 := lt_0_7 w
  go_enter Tryd.func11, Tryd.ntmps11
  go_wp2_with (first | (go_at_call 24; (first | (with_reducible refine (bits_14_12 w _).mono ?_) | (with_reducible refine (bits_6_0 w _).mono ?_) | fail); rintro e w' ⟨rfl, rfl⟩) | (go_at_call 39; (with_reducible refine (sys_any w _ (HL.out _)).mono ?_); rintro e w1 ⟨rfl, hb1⟩; obtain ⟨hc1, hf1⟩ := bcell hb1) | fail)
  refine bodyPost_ret (v := .agg #[.int .i64 (pSys w).op, .int .i64 (pSys w).rd, .int .i64 (pSys w).rs1, .int .i64 (pSys w).rs2, .int .i64 (pSys w).imm]) (by simp [results, Tryd.results11, go_sem, hc1]) rfl ?_
  exact ⟨rfl, fin5 hb1 _ _ _ _ _⟩
set_option maxHeartbeats 1000000 in
theorem ins_no (w : Nat) (W : World)  (g0 : (((cutN w 0 7 : Nat) : Int) == (55 : Int)) = false) (g1 : (((cutN w 0 7 : Nat) : Int) == (23 : Int)) = false) (g2 : (((cutN w 0 7 : Nat) : Int) == (111 : Int)) = false) (g3 : (((cutN w 0 7 : Nat) : Int) == (103 : Int)) = false) (g4 : (((cutN w 0 7 : Nat) : Int) == (99 : Int)) = false) (g5 : (((cutN w 0 7 : Nat) : Int) == (3 : Int)) = false) (g6 : (((cutN w 0 7 : Nat) : Int) == (35 : Int)) = false) (g7 : (((cutN w 0 7 : Nat) : Int) == (19 : Int)) = false) (g8 : (((cutN w 0 7 : Nat) : Int) == (27 : Int)) = false) (g9 : (((cutN w 0 7 : Nat) : Int) == (51 : Int)) = false) (g10 : (((cutN w 0 7 : Nat) : Int) == (59 : Int)) = false) (g11 : (((cutN w 0 7 : Nat) : Int) == (15 : Int)) = false) (g12 : (((cutN w 0 7 : Nat) : Int) == (47 : Int)) = false) (g13 : (((cutN w 0 7 : Nat) : Int) == (115 : Int)) = false)  :
    Calls Tryd.prog 11 #[.int .u32 w] W fun e W' => e = .returned (.agg #[.int .i64 0, .int .i64 0, .int .i64 0, .int .i64 0, .int .i64 0]) ∧ Below W.heap.size W W' := by
  have l12_3 := lt_12_3 w
  have l0_7 := lt_0_7 w
  go_enter Tryd.func11, Tryd.ntmps11
  go_wp2_with (first | (go_at_call 24; (first | (with_reducible refine (bits_14_12 w _).mono ?_) | (with_reducible refine (bits_6_0 w _).mono ?_) | fail); rintro e w' ⟨rfl, rfl⟩) | fail)
  go_returns
  exact ⟨rfl, below1 W _⟩

end Go.Proofs.YtnbpadnbmbdfeaaDoor
