/- The program: numbers of the word itself, system. -/
import Derived.Test.YtnbpadnbmbdfeaaDoorE
import Derived.StillTailTactics
namespace Go.Proofs.YtnbpadnbmbdfeaaDoor
open Go.RowKit Go.Deep Go.Joins

/-- A world in which the result's cells have been made. -/
structure Fresh (W w2 : World) : Prop where
  b : Below W.heap.size W w2
  lt : W.heap.size < w2.heap.size
  c0 : w2.cell? ⟨W.heap.size, 0, none⟩ = some (.int .i64 0)
  c1 : w2.cell? ⟨W.heap.size, 1, none⟩ = some (.int .i64 0)
  c2 : w2.cell? ⟨W.heap.size, 2, none⟩ = some (.int .i64 0)
  c3 : w2.cell? ⟨W.heap.size, 3, none⟩ = some (.int .i64 0)
  c4 : w2.cell? ⟨W.heap.size, 4, none⟩ = some (.int .i64 0)
  f : ∀ i, w2.frozen? ⟨W.heap.size, i, none⟩ = false
theorem fresh_alloc (W : World) : Fresh W (W.alloc (.cells #[.int .i64 0, .int .i64 0, .int .i64 0, .int .i64 0, .int .i64 0] 25)) := by
  refine ⟨below1 W _, by simp, ?_, ?_, ?_, ?_, ?_, ?_⟩
  all_goals first | (intro i; simp; done) | (simp; done)
theorem Fresh.drew {W w0 : World} (h : Fresh W w0) : Fresh W { w0 with drawn := w0.drawn + 1 } := ⟨h.b.drew, h.lt, h.c0, h.c1, h.c2, h.c3, h.c4, h.f⟩
theorem fin5f {W w2 w1 : World} (h : Fresh W w2) (hb : Below w2.heap.size w2 w1) (a b c d e : Value) :
    Below W.heap.size W (((((w1.setCell ⟨W.heap.size, 0, none⟩ a).setCell ⟨W.heap.size, 1, none⟩ b).setCell ⟨W.heap.size, 2, none⟩ c).setCell ⟨W.heap.size, 3, none⟩ d).setCell ⟨W.heap.size, 4, none⟩ e) :=
  (((((h.b.trans (hb.mono (Nat.le_of_lt h.lt))).setCell (Nat.le_refl _) _).setCell (Nat.le_refl _) _).setCell (Nat.le_refl _) _).setCell (Nat.le_refl _) _).setCell (Nat.le_refl _) _
set_option maxHeartbeats 1000000 in
theorem own_a (w : Nat) (W : World)  (g0 : (((cutN w 12 3 : Nat) : Int) == (1 : Int)) = true) (g1 : (((cutN w 26 6 : Nat) : Int) == (0 : Int)) = true) :
    Calls Tryd.prog 33 #[.int .u32 w] W fun e W' => e = .returned (.agg #[.int .i64 28, .int .i64 (cutN w 7 5 : Nat), .int .i64 (cutN w 15 5 : Nat), .int .i64 0, .int .i64 (cutN w 20 6 : Nat)]) ∧ Below W.heap.size W W' := by
  have l20_6 := lt_20_6 w
  go_enter Tryd.func33, Tryd.ntmps33
  go_wp2_with (first | (go_at_call 24; (first | (with_reducible refine (bits_14_12 w _).mono ?_) | (with_reducible refine (bits_31_26 w _).mono ?_) | (with_reducible refine (bits_25_20 w _).mono ?_) | fail); rintro e w' ⟨rfl, rfl⟩) | (go_at_call 28; (with_reducible refine (withRdRs1 w _ _ _).mono ?_); rintro e w1 ⟨rfl, hb1⟩; obtain ⟨hc1, hf1⟩ := bcell hb1) | fail)
  refine bodyPost_ret (v := .agg #[.int .i64 28, .int .i64 (cutN w 7 5 : Nat), .int .i64 (cutN w 15 5 : Nat), .int .i64 0, .int .i64 (cutN w 20 6 : Nat)]) (by simp [results, Tryd.results33, go_sem, hc1]) rfl ?_
  exact ⟨rfl, fin5 hb1 _ _ _ _ _⟩
set_option maxHeartbeats 1000000 in
theorem own_b (w : Nat) (W : World)  (g0 : (((cutN w 12 3 : Nat) : Int) == (1 : Int)) = false) (g1 : (((cutN w 12 3 : Nat) : Int) == (5 : Int)) = true) (g2 : (((cutN w 26 6 : Nat) : Int) == (0 : Int)) = true) :
    Calls Tryd.prog 33 #[.int .u32 w] W fun e W' => e = .returned (.agg #[.int .i64 29, .int .i64 (cutN w 7 5 : Nat), .int .i64 (cutN w 15 5 : Nat), .int .i64 0, .int .i64 (cutN w 20 6 : Nat)]) ∧ Below W.heap.size W W' := by
  have l20_6 := lt_20_6 w
  go_enter Tryd.func33, Tryd.ntmps33
  go_wp2_with (first | (go_at_call 24; (first | (with_reducible refine (bits_14_12 w _).mono ?_) | (with_reducible refine (bits_31_26 w _).mono ?_) | (with_reducible refine (bits_25_20 w _).mono ?_) | fail); rintro e w' ⟨rfl, rfl⟩) | (go_at_call 28; (with_reducible refine (withRdRs1 w _ _ _).mono ?_); rintro e w1 ⟨rfl, hb1⟩; obtain ⟨hc1, hf1⟩ := bcell hb1) | fail)
  refine bodyPost_ret (v := .agg #[.int .i64 29, .int .i64 (cutN w 7 5 : Nat), .int .i64 (cutN w 15 5 : Nat), .int .i64 0, .int .i64 (cutN w 20 6 : Nat)]) (by simp [results, Tryd.results33, go_sem, hc1]) rfl ?_
  exact ⟨rfl, fin5 hb1 _ _ _ _ _⟩
set_option maxHeartbeats 1000000 in
theorem own_c (w : Nat) (W : World)  (g0 : (((cutN w 12 3 : Nat) : Int) == (1 : Int)) = false) (g1 : (((cutN w 12 3 : Nat) : Int) == (5 : Int)) = true) (g2 : (((cutN w 26 6 : Nat) : Int) == (0 : Int)) = false) (g3 : (((cutN w 26 6 : Nat) : Int) == (16 : Int)) = true) :
    Calls Tryd.prog 33 #[.int .u32 w] W fun e W' => e = .returned (.agg #[.int .i64 30, .int .i64 (cutN w 7 5 : Nat), .int .i64 (cutN w 15 5 : Nat), .int .i64 0, .int .i64 (cutN w 20 6 : Nat)]) ∧ Below W.heap.size W W' := by
  have l20_6 := lt_20_6 w
  go_enter Tryd.func33, Tryd.ntmps33
  go_wp2_with (first | (go_at_call 24; (first | (with_reducible refine (bits_14_12 w _).mono ?_) | (with_reducible refine (bits_31_26 w _).mono ?_) | (with_reducible refine (bits_25_20 w _).mono ?_) | fail); rintro e w' ⟨rfl, rfl⟩) | (go_at_call 28; (with_reducible refine (withRdRs1 w _ _ _).mono ?_); rintro e w1 ⟨rfl, hb1⟩; obtain ⟨hc1, hf1⟩ := bcell hb1) | fail)
  refine bodyPost_ret (v := .agg #[.int .i64 30, .int .i64 (cutN w 7 5 : Nat), .int .i64 (cutN w 15 5 : Nat), .int .i64 0, .int .i64 (cutN w 20 6 : Nat)]) (by simp [results, Tryd.results33, go_sem, hc1]) rfl ?_
  exact ⟨rfl, fin5 hb1 _ _ _ _ _⟩
set_option maxHeartbeats 1000000 in
theorem own_d1 (w : Nat) (W : World) (hL : Laid W) (g0 : (((cutN w 12 3 : Nat) : Int) == (1 : Int)) = true) (g1 : (((cutN w 12 3 : Nat) : Int) == (5 : Int)) = false) (g2 : (((cutN w 26 6 : Nat) : Int) == (0 : Int)) = false) :
    Calls Tryd.prog 33 #[.int .u32 w] W fun e W' => e = .returned (.agg #[.int .i64 (row 4 (cutN w 12 3)), .int .i64 (cutN w 7 5 : Nat), .int .i64 (cutN w 15 5 : Nat), .int .i64 0, .int .i64 (immI w)]) ∧ Below W.heap.size W W' := by
  have h3 := lt_12_3 w
  have hc0 := hL.2 4 _ (by omega) h3
  have i0 : (0 : Int) ≤ (cutN w 12 3 : Nat) := by omega
  have i1 : ((cutN w 12 3 : Nat) : Int) < 8 := by omega
  have h12 := hL.1
  clear hL
  have l20_6 := lt_20_6 w
  go_enter Tryd.func33, Tryd.ntmps33
  go_wp2_with (first | (go_at_call 24; (first | (with_reducible refine (bits_14_12 w _).mono ?_) | (with_reducible refine (bits_31_26 w _).mono ?_) | (with_reducible refine (bits_25_20 w _).mono ?_) | fail); rintro e w' ⟨rfl, rfl⟩) | fail)
  have HF0 := Lib.hid (fresh_alloc W)
  generalize W.alloc (.cells #[.int .i64 0, .int .i64 0, .int .i64 0, .int .i64 0, .int .i64 0] 25) = w0 at HF0 ⊢
  refine wp_region_still_tail 6 (by kernel_rfl) (by kernel_rfl) ?_
  simp only [List.take_succ_cons, List.take_zero, List.drop_succ_cons, List.drop_zero]
  have HF := Lib.hid HF0.out.drew
  generalize { w0 with drawn := w0.drawn + 1 } = w2 at HF ⊢
  obtain ⟨c0, c1, c2, c3, c4⟩ := And.intro HF.out.c0 (And.intro HF.out.c1 (And.intro HF.out.c2 (And.intro HF.out.c3 HF.out.c4)))
  have ff := HF.out.f
  have ll := HF.out.lt
  have hc5 := (HF.out.b.cell (p := ⟨4, cutN w 12 3, none⟩) (by show 4 < _; omega)).trans hc0
  repeat still_step
  still_call ((numI_any w _).mono fun _ _ h => ⟨h.1, h.2.symm⟩)
  repeat still_step
  refine wpStill_nil ?_
  go_wp2_with (first | (go_at_call 28; (with_reducible refine (withRdRs1 w _ _ _).mono ?_); rintro e w1 ⟨rfl, hb1⟩; obtain ⟨hc1, hf1⟩ := bcell hb1) | fail)
  refine bodyPost_ret (v := .agg #[.int .i64 (row 4 (cutN w 12 3)), .int .i64 (cutN w 7 5 : Nat), .int .i64 (cutN w 15 5 : Nat), .int .i64 0, .int .i64 (immI w)]) (by simp [results, Tryd.results33, go_sem, hc1, ll, c0, c1, c2, c3, c4]) rfl ?_
  exact ⟨rfl, fin5f HF.out hb1 _ _ _ _ _⟩
set_option maxHeartbeats 1000000 in
theorem own_d2 (w : Nat) (W : World) (hL : Laid W) (g0 : (((cutN w 12 3 : Nat) : Int) == (1 : Int)) = false) (g1 : (((cutN w 12 3 : Nat) : Int) == (5 : Int)) = true) (g2 : (((cutN w 26 6 : Nat) : Int) == (0 : Int)) = false) (g3 : (((cutN w 26 6 : Nat) : Int) == (16 : Int)) = false) :
    Calls Tryd.prog 33 #[.int .u32 w] W fun e W' => e = .returned (.agg #[.int .i64 (row 4 (cutN w 12 3)), .int .i64 (cutN w 7 5 : Nat), .int .i64 (cutN w 15 5 : Nat), .int .i64 0, .int .i64 (immI w)]) ∧ Below W.heap.size W W' := by
  have h3 := lt_12_3 w
  have hc0 := hL.2 4 _ (by omega) h3
  have i0 : (0 : Int) ≤ (cutN w 12 3 : Nat) := by omega
  have i1 : ((cutN w 12 3 : Nat) : Int) < 8 := by omega
  have h12 := hL.1
  clear hL
  have l20_6 := lt_20_6 w
  go_enter Tryd.func33, Tryd.ntmps33
  go_wp2_with (first | (go_at_call 24; (first | (with_reducible refine (bits_14_12 w _).mono ?_) | (with_reducible refine (bits_31_26 w _).mono ?_) | (with_reducible refine (bits_25_20 w _).mono ?_) | fail); rintro e w' ⟨rfl, rfl⟩) | fail)
  have HF0 := Lib.hid (fresh_alloc W)
  generalize W.alloc (.cells #[.int .i64 0, .int .i64 0, .int .i64 0, .int .i64 0, .int .i64 0] 25) = w0 at HF0 ⊢
  refine wp_region_still_tail 6 (by kernel_rfl) (by kernel_rfl) ?_
  simp only [List.take_succ_cons, List.take_zero, List.drop_succ_cons, List.drop_zero]
  have HF := Lib.hid HF0.out.drew
  generalize { w0 with drawn := w0.drawn + 1 } = w2 at HF ⊢
  obtain ⟨c0, c1, c2, c3, c4⟩ := And.intro HF.out.c0 (And.intro HF.out.c1 (And.intro HF.out.c2 (And.intro HF.out.c3 HF.out.c4)))
  have ff := HF.out.f
  have ll := HF.out.lt
  have hc5 := (HF.out.b.cell (p := ⟨4, cutN w 12 3, none⟩) (by show 4 < _; omega)).trans hc0
  repeat still_step
  still_call ((numI_any w _).mono fun _ _ h => ⟨h.1, h.2.symm⟩)
  repeat still_step
  refine wpStill_nil ?_
  go_wp2_with (first | (go_at_call 28; (with_reducible refine (withRdRs1 w _ _ _).mono ?_); rintro e w1 ⟨rfl, hb1⟩; obtain ⟨hc1, hf1⟩ := bcell hb1) | fail)
  refine bodyPost_ret (v := .agg #[.int .i64 (row 4 (cutN w 12 3)), .int .i64 (cutN w 7 5 : Nat), .int .i64 (cutN w 15 5 : Nat), .int .i64 0, .int .i64 (immI w)]) (by simp [results, Tryd.results33, go_sem, hc1, ll, c0, c1, c2, c3, c4]) rfl ?_
  exact ⟨rfl, fin5f HF.out hb1 _ _ _ _ _⟩
set_option maxHeartbeats 1000000 in
theorem own_d3 (w : Nat) (W : World) (hL : Laid W) (g0 : (((cutN w 12 3 : Nat) : Int) == (1 : Int)) = false) (g1 : (((cutN w 12 3 : Nat) : Int) == (5 : Int)) = false) :
    Calls Tryd.prog 33 #[.int .u32 w] W fun e W' => e = .returned (.agg #[.int .i64 (row 4 (cutN w 12 3)), .int .i64 (cutN w 7 5 : Nat), .int .i64 (cutN w 15 5 : Nat), .int .i64 0, .int .i64 (immI w)]) ∧ Below W.heap.size W W' := by
  have h3 := lt_12_3 w
  have hc0 := hL.2 4 _ (by omega) h3
  have i0 : (0 : Int) ≤ (cutN w 12 3 : Nat) := by omega
  have i1 : ((cutN w 12 3 : Nat) : Int) < 8 := by omega
  have h12 := hL.1
  clear hL
  have l20_6 := lt_20_6 w
  go_enter Tryd.func33, Tryd.ntmps33
  go_wp2_with (first | (go_at_call 24; (first | (with_reducible refine (bits_14_12 w _).mono ?_) | (with_reducible refine (bits_31_26 w _).mono ?_) | (with_reducible refine (bits_25_20 w _).mono ?_) | fail); rintro e w' ⟨rfl, rfl⟩) | fail)
  have HF0 := Lib.hid (fresh_alloc W)
  generalize W.alloc (.cells #[.int .i64 0, .int .i64 0, .int .i64 0, .int .i64 0, .int .i64 0] 25) = w0 at HF0 ⊢
  refine wp_region_still_tail 6 (by kernel_rfl) (by kernel_rfl) ?_
  simp only [List.take_succ_cons, List.take_zero, List.drop_succ_cons, List.drop_zero]
  have HF := Lib.hid HF0.out.drew
  generalize { w0 with drawn := w0.drawn + 1 } = w2 at HF ⊢
  obtain ⟨c0, c1, c2, c3, c4⟩ := And.intro HF.out.c0 (And.intro HF.out.c1 (And.intro HF.out.c2 (And.intro HF.out.c3 HF.out.c4)))
  have ff := HF.out.f
  have ll := HF.out.lt
  have hc5 := (HF.out.b.cell (p := ⟨4, cutN w 12 3, none⟩) (by show 4 < _; omega)).trans hc0
  repeat still_step
  still_call ((numI_any w _).mono fun _ _ h => ⟨h.1, h.2.symm⟩)
  repeat still_step
  refine wpStill_nil ?_
  go_wp2_with (first | (go_at_call 28; (with_reducible refine (withRdRs1 w _ _ _).mono ?_); rintro e w1 ⟨rfl, hb1⟩; obtain ⟨hc1, hf1⟩ := bcell hb1) | fail)
  refine bodyPost_ret (v := .agg #[.int .i64 (row 4 (cutN w 12 3)), .int .i64 (cutN w 7 5 : Nat), .int .i64 (cutN w 15 5 : Nat), .int .i64 0, .int .i64 (immI w)]) (by simp [results, Tryd.results33, go_sem, hc1, ll, c0, c1, c2, c3, c4]) rfl ?_
  exact ⟨rfl, fin5f HF.out hb1 _ _ _ _ _⟩
set_option maxHeartbeats 1000000 in
theorem ownw_0 (w : Nat) (W : World)  (g0 : (((cutN w 12 3 : Nat) : Int) == (0 : Int)) = true) :
    Calls Tryd.prog 34 #[.int .u32 w] W fun e W' => e = .returned (.agg #[.int .i64 41, .int .i64 (cutN w 7 5 : Nat), .int .i64 (cutN w 15 5 : Nat), .int .i64 0, .int .i64 (immI w)]) ∧ Below W.heap.size W W' := by
  have l20_5 := lt_20_5 w
  go_enter Tryd.func34, Tryd.ntmps34
  go_wp2_with (first | (go_at_call 24; (first | (with_reducible refine (bits_14_12 w _).mono ?_) | (with_reducible refine (bits_31_25 w _).mono ?_) | (with_reducible refine (bits_24_20 w _).mono ?_) | fail); rintro e w' ⟨rfl, rfl⟩) | (go_at_call 29; (first | (with_reducible refine (numI_any w _).mono ?_) | fail); rintro e w' ⟨rfl, rfl⟩) | (go_at_call 28; (with_reducible refine (withRdRs1 w _ _ _).mono ?_); rintro e w1 ⟨rfl, hb1⟩; obtain ⟨hc1, hf1⟩ := bcell hb1) | fail)
  refine bodyPost_ret (v := .agg #[.int .i64 41, .int .i64 (cutN w 7 5 : Nat), .int .i64 (cutN w 15 5 : Nat), .int .i64 0, .int .i64 (immI w)]) (by simp [results, Tryd.results34, go_sem, hc1]) rfl ?_
  exact ⟨rfl, fin5 hb1 _ _ _ _ _⟩
set_option maxHeartbeats 1000000 in
theorem ownw_1 (w : Nat) (W : World)  (g0 : (((cutN w 12 3 : Nat) : Int) == (0 : Int)) = false) (g1 : (((cutN w 12 3 : Nat) : Int) == (1 : Int)) = true) (g2 : (((cutN w 25 7 : Nat) : Int) == (0 : Int)) = true) :
    Calls Tryd.prog 34 #[.int .u32 w] W fun e W' => e = .returned (.agg #[.int .i64 42, .int .i64 (cutN w 7 5 : Nat), .int .i64 (cutN w 15 5 : Nat), .int .i64 0, .int .i64 (cutN w 20 5 : Nat)]) ∧ Below W.heap.size W W' := by
  have l20_5 := lt_20_5 w
  go_enter Tryd.func34, Tryd.ntmps34
  go_wp2_with (first | (go_at_call 24; (first | (with_reducible refine (bits_14_12 w _).mono ?_) | (with_reducible refine (bits_31_25 w _).mono ?_) | (with_reducible refine (bits_24_20 w _).mono ?_) | fail); rintro e w' ⟨rfl, rfl⟩) | (go_at_call 28; (with_reducible refine (withRdRs1 w _ _ _).mono ?_); rintro e w1 ⟨rfl, hb1⟩; obtain ⟨hc1, hf1⟩ := bcell hb1) | fail)
  refine bodyPost_ret (v := .agg #[.int .i64 42, .int .i64 (cutN w 7 5 : Nat), .int .i64 (cutN w 15 5 : Nat), .int .i64 0, .int .i64 (cutN w 20 5 : Nat)]) (by simp [results, Tryd.results34, go_sem, hc1]) rfl ?_
  exact ⟨rfl, fin5 hb1 _ _ _ _ _⟩
set_option maxHeartbeats 1000000 in
theorem ownw_5 (w : Nat) (W : World)  (g0 : (((cutN w 12 3 : Nat) : Int) == (0 : Int)) = false) (g1 : (((cutN w 12 3 : Nat) : Int) == (1 : Int)) = false) (g2 : (((cutN w 12 3 : Nat) : Int) == (5 : Int)) = true) (g3 : (((cutN w 25 7 : Nat) : Int) == (0 : Int)) = true) :
    Calls Tryd.prog 34 #[.int .u32 w] W fun e W' => e = .returned (.agg #[.int .i64 43, .int .i64 (cutN w 7 5 : Nat), .int .i64 (cutN w 15 5 : Nat), .int .i64 0, .int .i64 (cutN w 20 5 : Nat)]) ∧ Below W.heap.size W W' := by
  have l20_5 := lt_20_5 w
  go_enter Tryd.func34, Tryd.ntmps34
  go_wp2_with (first | (go_at_call 24; (first | (with_reducible refine (bits_14_12 w _).mono ?_) | (with_reducible refine (bits_31_25 w _).mono ?_) | (with_reducible refine (bits_24_20 w _).mono ?_) | fail); rintro e w' ⟨rfl, rfl⟩) | (go_at_call 28; (with_reducible refine (withRdRs1 w _ _ _).mono ?_); rintro e w1 ⟨rfl, hb1⟩; obtain ⟨hc1, hf1⟩ := bcell hb1) | fail)
  refine bodyPost_ret (v := .agg #[.int .i64 43, .int .i64 (cutN w 7 5 : Nat), .int .i64 (cutN w 15 5 : Nat), .int .i64 0, .int .i64 (cutN w 20 5 : Nat)]) (by simp [results, Tryd.results34, go_sem, hc1]) rfl ?_
  exact ⟨rfl, fin5 hb1 _ _ _ _ _⟩
set_option maxHeartbeats 1000000 in
theorem ownw_5s (w : Nat) (W : World)  (g0 : (((cutN w 12 3 : Nat) : Int) == (0 : Int)) = false) (g1 : (((cutN w 12 3 : Nat) : Int) == (1 : Int)) = false) (g2 : (((cutN w 12 3 : Nat) : Int) == (5 : Int)) = true) (g3 : (((cutN w 25 7 : Nat) : Int) == (0 : Int)) = false) (g4 : (((cutN w 25 7 : Nat) : Int) == (32 : Int)) = true) :
    Calls Tryd.prog 34 #[.int .u32 w] W fun e W' => e = .returned (.agg #[.int .i64 44, .int .i64 (cutN w 7 5 : Nat), .int .i64 (cutN w 15 5 : Nat), .int .i64 0, .int .i64 (cutN w 20 5 : Nat)]) ∧ Below W.heap.size W W' := by
  have l20_5 := lt_20_5 w
  go_enter Tryd.func34, Tryd.ntmps34
  go_wp2_with (first | (go_at_call 24; (first | (with_reducible refine (bits_14_12 w _).mono ?_) | (with_reducible refine (bits_31_25 w _).mono ?_) | (with_reducible refine (bits_24_20 w _).mono ?_) | fail); rintro e w' ⟨rfl, rfl⟩) | (go_at_call 28; (with_reducible refine (withRdRs1 w _ _ _).mono ?_); rintro e w1 ⟨rfl, hb1⟩; obtain ⟨hc1, hf1⟩ := bcell hb1) | fail)
  refine bodyPost_ret (v := .agg #[.int .i64 44, .int .i64 (cutN w 7 5 : Nat), .int .i64 (cutN w 15 5 : Nat), .int .i64 0, .int .i64 (cutN w 20 5 : Nat)]) (by simp [results, Tryd.results34, go_sem, hc1]) rfl ?_
  exact ⟨rfl, fin5 hb1 _ _ _ _ _⟩
set_option maxHeartbeats 1000000 in
theorem ownw_n1 (w : Nat) (W : World)  (g0 : (((cutN w 12 3 : Nat) : Int) == (0 : Int)) = false) (g1 : (((cutN w 12 3 : Nat) : Int) == (1 : Int)) = true) (g2 : (((cutN w 12 3 : Nat) : Int) == (5 : Int)) = false) (g3 : (((cutN w 25 7 : Nat) : Int) == (0 : Int)) = false) :
    Calls Tryd.prog 34 #[.int .u32 w] W fun e W' => e = .returned (.agg #[.int .i64 0, .int .i64 0, .int .i64 0, .int .i64 0, .int .i64 0]) ∧ Below W.heap.size W W' := by
  have l20_5 := lt_20_5 w
  go_enter Tryd.func34, Tryd.ntmps34
  go_wp2_with (first | (go_at_call 24; (first | (with_reducible refine (bits_14_12 w _).mono ?_) | (with_reducible refine (bits_31_25 w _).mono ?_) | (with_reducible refine (bits_24_20 w _).mono ?_) | fail); rintro e w' ⟨rfl, rfl⟩) | fail)
  go_returns
  exact ⟨rfl, below1 W _⟩
set_option maxHeartbeats 1000000 in
theorem ownw_n5 (w : Nat) (W : World)  (g0 : (((cutN w 12 3 : Nat) : Int) == (0 : Int)) = false) (g1 : (((cutN w 12 3 : Nat) : Int) == (1 : Int)) = false) (g2 : (((cutN w 12 3 : Nat) : Int) == (5 : Int)) = true) (g3 : (((cutN w 25 7 : Nat) : Int) == (0 : Int)) = false) (g4 : (((cutN w 25 7 : Nat) : Int) == (32 : Int)) = false) :
    Calls Tryd.prog 34 #[.int .u32 w] W fun e W' => e = .returned (.agg #[.int .i64 0, .int .i64 0, .int .i64 0, .int .i64 0, .int .i64 0]) ∧ Below W.heap.size W W' := by
  have l20_5 := lt_20_5 w
  go_enter Tryd.func34, Tryd.ntmps34
  go_wp2_with (first | (go_at_call 24; (first | (with_reducible refine (bits_14_12 w _).mono ?_) | (with_reducible refine (bits_31_25 w _).mono ?_) | (with_reducible refine (bits_24_20 w _).mono ?_) | fail); rintro e w' ⟨rfl, rfl⟩) | fail)
  go_returns
  exact ⟨rfl, below1 W _⟩
set_option maxHeartbeats 1000000 in
theorem ownw_n (w : Nat) (W : World)  (g0 : (((cutN w 12 3 : Nat) : Int) == (0 : Int)) = false) (g1 : (((cutN w 12 3 : Nat) : Int) == (1 : Int)) = false) (g2 : (((cutN w 12 3 : Nat) : Int) == (5 : Int)) = false) :
    Calls Tryd.prog 34 #[.int .u32 w] W fun e W' => e = .returned (.agg #[.int .i64 0, .int .i64 0, .int .i64 0, .int .i64 0, .int .i64 0]) ∧ Below W.heap.size W W' := by
  have l20_5 := lt_20_5 w
  go_enter Tryd.func34, Tryd.ntmps34
  go_wp2_with (first | (go_at_call 24; (first | (with_reducible refine (bits_14_12 w _).mono ?_) | (with_reducible refine (bits_31_25 w _).mono ?_) | (with_reducible refine (bits_24_20 w _).mono ?_) | fail); rintro e w' ⟨rfl, rfl⟩) | fail)
  go_returns
  exact ⟨rfl, below1 W _⟩
set_option maxHeartbeats 1000000 in
theorem sys_0 (w : Nat) (W : World)  (g0 : (((cutN w 12 3 : Nat) : Int) != (0 : Int)) = false) (g1 : (((w : Nat) : Int) == (115 : Int)) = true) :
    Calls Tryd.prog 39 #[.int .u32 w] W fun e W' => e = .returned (.agg #[.int .i64 52, .int .i64 0, .int .i64 0, .int .i64 0, .int .i64 0]) ∧ Below W.heap.size W W' := by
  go_enter Tryd.func39, Tryd.ntmps39
  go_wp2_with (first | (go_at_call 24; (first | (with_reducible refine (bits_14_12 w _).mono ?_) | (with_reducible refine (bits_31_20 w _).mono ?_) | (with_reducible refine (bits_31_25 w _).mono ?_) | fail); rintro e w' ⟨rfl, rfl⟩) | fail)
  go_returns
  exact ⟨rfl, below1 W _⟩
set_option maxHeartbeats 1000000 in
theorem sys_1 (w : Nat) (W : World)  (g0 : (((cutN w 12 3 : Nat) : Int) != (0 : Int)) = false) (g1 : (((w : Nat) : Int) == (115 : Int)) = false) (g2 : (((w : Nat) : Int) == (1048691 : Int)) = true) :
    Calls Tryd.prog 39 #[.int .u32 w] W fun e W' => e = .returned (.agg #[.int .i64 53, .int .i64 0, .int .i64 0, .int .i64 0, .int .i64 0]) ∧ Below W.heap.size W W' := by
  go_enter Tryd.func39, Tryd.ntmps39
  go_wp2_with (first | (go_at_call 24; (first | (with_reducible refine (bits_14_12 w _).mono ?_) | (with_reducible refine (bits_31_20 w _).mono ?_) | (with_reducible refine (bits_31_25 w _).mono ?_) | fail); rintro e w' ⟨rfl, rfl⟩) | fail)
  go_returns
  exact ⟨rfl, below1 W _⟩
set_option maxHeartbeats 1000000 in
theorem sys_2 (w : Nat) (W : World)  (g0 : (((cutN w 12 3 : Nat) : Int) != (0 : Int)) = false) (g1 : (((w : Nat) : Int) == (115 : Int)) = false) (g2 : (((w : Nat) : Int) == (1048691 : Int)) = false) (g3 : (((w : Nat) : Int) == (807403635 : Int)) = true) :
    Calls Tryd.prog 39 #[.int .u32 w] W fun e W' => e = .returned (.agg #[.int .i64 95, .int .i64 0, .int .i64 0, .int .i64 0, .int .i64 0]) ∧ Below W.heap.size W W' := by
  go_enter Tryd.func39, Tryd.ntmps39
  go_wp2_with (first | (go_at_call 24; (first | (with_reducible refine (bits_14_12 w _).mono ?_) | (with_reducible refine (bits_31_20 w _).mono ?_) | (with_reducible refine (bits_31_25 w _).mono ?_) | fail); rintro e w' ⟨rfl, rfl⟩) | fail)
  go_returns
  exact ⟨rfl, below1 W _⟩
set_option maxHeartbeats 1000000 in
theorem sys_3 (w : Nat) (W : World)  (g0 : (((cutN w 12 3 : Nat) : Int) != (0 : Int)) = false) (g1 : (((w : Nat) : Int) == (115 : Int)) = false) (g2 : (((w : Nat) : Int) == (1048691 : Int)) = false) (g3 : (((w : Nat) : Int) == (807403635 : Int)) = false) (g4 : (((w : Nat) : Int) == (270532723 : Int)) = true) :
    Calls Tryd.prog 39 #[.int .u32 w] W fun e W' => e = .returned (.agg #[.int .i64 96, .int .i64 0, .int .i64 0, .int .i64 0, .int .i64 0]) ∧ Below W.heap.size W W' := by
  go_enter Tryd.func39, Tryd.ntmps39
  go_wp2_with (first | (go_at_call 24; (first | (with_reducible refine (bits_14_12 w _).mono ?_) | (with_reducible refine (bits_31_20 w _).mono ?_) | (with_reducible refine (bits_31_25 w _).mono ?_) | fail); rintro e w' ⟨rfl, rfl⟩) | fail)
  go_returns
  exact ⟨rfl, below1 W _⟩
set_option maxHeartbeats 1000000 in
theorem sys_4 (w : Nat) (W : World)  (g0 : (((cutN w 12 3 : Nat) : Int) != (0 : Int)) = false) (g1 : (((w : Nat) : Int) == (115 : Int)) = false) (g2 : (((w : Nat) : Int) == (1048691 : Int)) = false) (g3 : (((w : Nat) : Int) == (807403635 : Int)) = false) (g4 : (((w : Nat) : Int) == (270532723 : Int)) = false) (g5 : (((w : Nat) : Int) == (273678451 : Int)) = true) :
    Calls Tryd.prog 39 #[.int .u32 w] W fun e W' => e = .returned (.agg #[.int .i64 97, .int .i64 0, .int .i64 0, .int .i64 0, .int .i64 0]) ∧ Below W.heap.size W W' := by
  go_enter Tryd.func39, Tryd.ntmps39
  go_wp2_with (first | (go_at_call 24; (first | (with_reducible refine (bits_14_12 w _).mono ?_) | (with_reducible refine (bits_31_20 w _).mono ?_) | (with_reducible refine (bits_31_25 w _).mono ?_) | fail); rintro e w' ⟨rfl, rfl⟩) | fail)
  go_returns
  exact ⟨rfl, below1 W _⟩
set_option maxHeartbeats 1000000 in
theorem sys_f (w : Nat) (W : World)  (g0 : (((cutN w 12 3 : Nat) : Int) != (0 : Int)) = false) (g1 : (((w : Nat) : Int) == (115 : Int)) = false) (g2 : (((w : Nat) : Int) == (1048691 : Int)) = false) (g3 : (((w : Nat) : Int) == (807403635 : Int)) = false) (g4 : (((w : Nat) : Int) == (270532723 : Int)) = false) (g5 : (((w : Nat) : Int) == (273678451 : Int)) = false) (g6 : (((cutN w 25 7 : Nat) : Int) == (9 : Int)) = true) (g7 : (((cutN w 7 5 : Nat) : Int) == (0 : Int)) = true) :
    Calls Tryd.prog 39 #[.int .u32 w] W fun e W' => e = .returned (.agg #[.int .i64 98, .int .i64 0, .int .i64 (cutN w 15 5 : Nat), .int .i64 (cutN w 20 5 : Nat), .int .i64 0]) ∧ Below W.heap.size W W' := by
  go_enter Tryd.func39, Tryd.ntmps39
  go_wp2_with (first | (go_at_call 24; (first | (with_reducible refine (bits_14_12 w _).mono ?_) | (with_reducible refine (bits_31_20 w _).mono ?_) | (with_reducible refine (bits_31_25 w _).mono ?_) | fail); rintro e w' ⟨rfl, rfl⟩) | (go_at_call 40; (first | (with_reducible refine (rd_any w _).mono ?_) | fail); rintro e w' ⟨rfl, rfl⟩) | (go_at_call 30; (with_reducible refine (withRs1Rs2 w _ _ _).mono ?_); rintro e w1 ⟨rfl, hb1⟩; obtain ⟨hc1, hf1⟩ := bcell hb1) | fail)
  refine bodyPost_ret (v := .agg #[.int .i64 98, .int .i64 0, .int .i64 (cutN w 15 5 : Nat), .int .i64 (cutN w 20 5 : Nat), .int .i64 0]) (by simp [results, Tryd.results39, go_sem, hc1]) rfl ?_
  exact ⟨rfl, fin5 hb1 _ _ _ _ _⟩
set_option maxHeartbeats 1000000 in
theorem sys_n1 (w : Nat) (W : World)  (g0 : (((cutN w 12 3 : Nat) : Int) != (0 : Int)) = false) (g1 : (((w : Nat) : Int) == (115 : Int)) = false) (g2 : (((w : Nat) : Int) == (1048691 : Int)) = false) (g3 : (((w : Nat) : Int) == (807403635 : Int)) = false) (g4 : (((w : Nat) : Int) == (270532723 : Int)) = false) (g5 : (((w : Nat) : Int) == (273678451 : Int)) = false) (g6 : (((cutN w 25 7 : Nat) : Int) == (9 : Int)) = false) :
    Calls Tryd.prog 39 #[.int .u32 w] W fun e W' => e = .returned (.agg #[.int .i64 0, .int .i64 0, .int .i64 0, .int .i64 0, .int .i64 0]) ∧ Below W.heap.size W W' := by
  go_enter Tryd.func39, Tryd.ntmps39
  go_wp2_with (first | (go_at_call 24; (first | (with_reducible refine (bits_14_12 w _).mono ?_) | (with_reducible refine (bits_31_20 w _).mono ?_) | (with_reducible refine (bits_31_25 w _).mono ?_) | fail); rintro e w' ⟨rfl, rfl⟩) | (go_at_call 40; (first | (with_reducible refine (rd_any w _).mono ?_) | fail); rintro e w' ⟨rfl, rfl⟩) | fail)
  go_returns
  exact ⟨rfl, below1 W _⟩
set_option maxHeartbeats 1000000 in
theorem sys_n2 (w : Nat) (W : World)  (g0 : (((cutN w 12 3 : Nat) : Int) != (0 : Int)) = false) (g1 : (((w : Nat) : Int) == (115 : Int)) = false) (g2 : (((w : Nat) : Int) == (1048691 : Int)) = false) (g3 : (((w : Nat) : Int) == (807403635 : Int)) = false) (g4 : (((w : Nat) : Int) == (270532723 : Int)) = false) (g5 : (((w : Nat) : Int) == (273678451 : Int)) = false) (g6 : (((cutN w 25 7 : Nat) : Int) == (9 : Int)) = true) (g7 : (((cutN w 7 5 : Nat) : Int) == (0 : Int)) = false) :
    Calls Tryd.prog 39 #[.int .u32 w] W fun e W' => e = .returned (.agg #[.int .i64 0, .int .i64 0, .int .i64 0, .int .i64 0, .int .i64 0]) ∧ Below W.heap.size W W' := by
  go_enter Tryd.func39, Tryd.ntmps39
  go_wp2_with (first | (go_at_call 24; (first | (with_reducible refine (bits_14_12 w _).mono ?_) | (with_reducible refine (bits_31_20 w _).mono ?_) | (with_reducible refine (bits_31_25 w _).mono ?_) | fail); rintro e w' ⟨rfl, rfl⟩) | (go_at_call 40; (first | (with_reducible refine (rd_any w _).mono ?_) | fail); rintro e w' ⟨rfl, rfl⟩) | fail)
  go_returns
  exact ⟨rfl, below1 W _⟩
set_option maxHeartbeats 1000000 in
theorem sys_r (w : Nat) (W : World) (hL : Laid W) (g0 : (((cutN w 12 3 : Nat) : Int) != (0 : Int)) = true) :
    Calls Tryd.prog 39 #[.int .u32 w] W fun e W' => e = .returned (.agg #[.int .i64 (row 11 (cutN w 12 3)), .int .i64 (cutN w 7 5 : Nat), .int .i64 (cutN w 15 5 : Nat), .int .i64 0, .int .i64 (cutN w 20 12 : Nat)]) ∧ Below W.heap.size W W' := by
  have h3 := lt_12_3 w
  have hc0 := hL.2 11 _ (by omega) h3
  have i0 : (0 : Int) ≤ (cutN w 12 3 : Nat) := by omega
  have i1 : ((cutN w 12 3 : Nat) : Int) < 8 := by omega
  have h12 := hL.1
  clear hL
  have l20_12 := lt_20_12 w
  go_enter Tryd.func39, Tryd.ntmps39
  go_wp2_with (first | (go_at_call 24; (first | (with_reducible refine (bits_14_12 w _).mono ?_) | (with_reducible refine (bits_31_20 w _).mono ?_) | (with_reducible refine (bits_31_25 w _).mono ?_) | fail); rintro e w' ⟨rfl, rfl⟩) | fail)
  have HF0 := Lib.hid (fresh_alloc W)
  generalize W.alloc (.cells #[.int .i64 0, .int .i64 0, .int .i64 0, .int .i64 0, .int .i64 0] 25) = w0 at HF0 ⊢
  refine wp_region_still_tail 7 (by kernel_rfl) (by kernel_rfl) ?_
  simp only [List.take_succ_cons, List.take_zero, List.drop_succ_cons, List.drop_zero]
  have HF := Lib.hid HF0.out.drew
  generalize { w0 with drawn := w0.drawn + 1 } = w2 at HF ⊢
  obtain ⟨c0, c1, c2, c3, c4⟩ := And.intro HF.out.c0 (And.intro HF.out.c1 (And.intro HF.out.c2 (And.intro HF.out.c3 HF.out.c4)))
  have ff := HF.out.f
  have ll := HF.out.lt
  have hc5 := (HF.out.b.cell (p := ⟨11, cutN w 12 3, none⟩) (by show 11 < _; omega)).trans hc0
  repeat still_step
  still_call ((bits_31_20 w _).mono fun _ _ h => ⟨h.1, h.2.symm⟩)
  repeat still_step
  refine wpStill_nil ?_
  go_wp2_with (first | (go_at_call 28; (with_reducible refine (withRdRs1 w _ _ _).mono ?_); rintro e w1 ⟨rfl, hb1⟩; obtain ⟨hc1, hf1⟩ := bcell hb1) | fail)
  refine bodyPost_ret (v := .agg #[.int .i64 (row 11 (cutN w 12 3)), .int .i64 (cutN w 7 5 : Nat), .int .i64 (cutN w 15 5 : Nat), .int .i64 0, .int .i64 (cutN w 20 12 : Nat)]) (by simp [results, Tryd.results39, go_sem, hc1, ll, c0, c1, c2, c3, c4]) rfl ?_
  exact ⟨rfl, fin5f HF.out hb1 _ _ _ _ _⟩

end Go.Proofs.YtnbpadnbmbdfeaaDoor
