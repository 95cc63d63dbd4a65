/- The reference's instruction of a word (my own, from the seat of package decode), JR. -/
import Derived.Test.YtdodbfpahmkpbaaJP
namespace Go.Proofs.Ytdodbfpahmkpbaa
open Go.RowKit Go.Deep Go.Joins
set_option maxHeartbeats 2000000 in
theorem rw_103n (w : Nat) (W : World) (hw : w < 4294967296) (g0 : (((cutN w 0 7 : Nat) : Int) == (55 : Int)) = false) (g1 : (((cutN w 0 7 : Nat) : Int) == (23 : Int)) = false) (g2 : (((cutN w 0 7 : Nat) : Int) == (111 : Int)) = false) (g3 : (((cutN w 0 7 : Nat) : Int) == (103 : Int)) = true) (ho : ((r4 (cutN w 12 3)) == (0 : Int)) = true)  :
    Calls Try.prog 11 #[.int .u32 w] W fun e W' => e = .returned (.tuple #[.agg #[.int .i64 0, .int .i64 0, .int .i64 0, .int .i64 0, .int .i64 0], .int .i64 60]) ∧ Below W.heap.size W W' := by
  have hf := lt_12_3 w
  have l1 := lt_0_7 w
  have l2 := lt_7_5 w
  have l3 := lt_15_5 w
  have l4 := lt_20_5 w
  go_enter Try.func11, Try.ntmps11
  go_wp2_with (first | (go_at_call 17; (first | (with_reducible refine (cut_12_3 w _ hw).mono ?_) | (with_reducible refine (cut_7_5 w _ hw).mono ?_) | (with_reducible refine (cut_15_5 w _ hw).mono ?_) | (with_reducible refine (cut_20_5 w _ hw).mono ?_) | (with_reducible refine (cut_0_7 w _ hw).mono ?_) | (with_reducible refine (cut_25_7 w _ hw).mono ?_) | fail); rintro e w' ⟨rfl, rfl⟩) | (go_at_call 19; (with_reducible refine (pk_12 (cutN w 12 3) hf _ _ (by simp)).mono ?_); rintro e w' ⟨rfl, rfl⟩) | (go_at_call 20; (first | (with_reducible refine (wide_w w _ hw).mono ?_) | fail); rintro e w' ⟨rfl, rfl⟩)  | fail)
  go_returns
  exact ⟨rfl, below3 W _ _ _⟩
set_option maxHeartbeats 2000000 in
theorem rw_99n (w : Nat) (W : World) (hw : w < 4294967296) (g0 : (((cutN w 0 7 : Nat) : Int) == (55 : Int)) = false) (g1 : (((cutN w 0 7 : Nat) : Int) == (23 : Int)) = false) (g2 : (((cutN w 0 7 : Nat) : Int) == (111 : Int)) = false) (g3 : (((cutN w 0 7 : Nat) : Int) == (103 : Int)) = false) (g4 : (((cutN w 0 7 : Nat) : Int) == (99 : Int)) = true) (ho : ((row 0 (cutN w 12 3)) == (0 : Int)) = true)  :
    Calls Try.prog 11 #[.int .u32 w] W fun e W' => e = .returned (.tuple #[.agg #[.int .i64 0, .int .i64 0, .int .i64 0, .int .i64 0, .int .i64 0], .int .i64 60]) ∧ Below W.heap.size W W' := by
  have hf := lt_12_3 w
  have l1 := lt_0_7 w
  have l2 := lt_7_5 w
  have l3 := lt_15_5 w
  have l4 := lt_20_5 w
  go_enter Try.func11, Try.ntmps11
  go_wp2_with (first | (go_at_call 17; (first | (with_reducible refine (cut_12_3 w _ hw).mono ?_) | (with_reducible refine (cut_7_5 w _ hw).mono ?_) | (with_reducible refine (cut_15_5 w _ hw).mono ?_) | (with_reducible refine (cut_20_5 w _ hw).mono ?_) | (with_reducible refine (cut_0_7 w _ hw).mono ?_) | (with_reducible refine (cut_25_7 w _ hw).mono ?_) | fail); rintro e w' ⟨rfl, rfl⟩) | (go_at_call 19; (with_reducible refine (pk_0 (cutN w 12 3) hf _ _ (by simp)).mono ?_); rintro e w' ⟨rfl, rfl⟩) | (go_at_call 21; (first | (with_reducible refine (rbranch_any w _ hw).mono ?_) | fail); rintro e w' ⟨rfl, rfl⟩)  | fail)
  go_returns
  exact ⟨rfl, below3 W _ _ _⟩
set_option maxHeartbeats 2000000 in
theorem rw_3n (w : Nat) (W : World) (hw : w < 4294967296) (g0 : (((cutN w 0 7 : Nat) : Int) == (55 : Int)) = false) (g1 : (((cutN w 0 7 : Nat) : Int) == (23 : Int)) = false) (g2 : (((cutN w 0 7 : Nat) : Int) == (111 : Int)) = false) (g3 : (((cutN w 0 7 : Nat) : Int) == (103 : Int)) = false) (g4 : (((cutN w 0 7 : Nat) : Int) == (99 : Int)) = false) (g5 : (((cutN w 0 7 : Nat) : Int) == (3 : Int)) = true) (ho : ((row 1 (cutN w 12 3)) == (0 : Int)) = true)  :
    Calls Try.prog 11 #[.int .u32 w] W fun e W' => e = .returned (.tuple #[.agg #[.int .i64 0, .int .i64 0, .int .i64 0, .int .i64 0, .int .i64 0], .int .i64 60]) ∧ Below W.heap.size W W' := by
  have hf := lt_12_3 w
  have l1 := lt_0_7 w
  have l2 := lt_7_5 w
  have l3 := lt_15_5 w
  have l4 := lt_20_5 w
  go_enter Try.func11, Try.ntmps11
  go_wp2_with (first | (go_at_call 17; (first | (with_reducible refine (cut_12_3 w _ hw).mono ?_) | (with_reducible refine (cut_7_5 w _ hw).mono ?_) | (with_reducible refine (cut_15_5 w _ hw).mono ?_) | (with_reducible refine (cut_20_5 w _ hw).mono ?_) | (with_reducible refine (cut_0_7 w _ hw).mono ?_) | (with_reducible refine (cut_25_7 w _ hw).mono ?_) | fail); rintro e w' ⟨rfl, rfl⟩) | (go_at_call 19; (with_reducible refine (pk_1 (cutN w 12 3) hf _ _ (by simp)).mono ?_); rintro e w' ⟨rfl, rfl⟩) | (go_at_call 20; (first | (with_reducible refine (wide_w w _ hw).mono ?_) | fail); rintro e w' ⟨rfl, rfl⟩)  | fail)
  go_returns
  exact ⟨rfl, below3 W _ _ _⟩
set_option maxHeartbeats 2000000 in
theorem rw_35n (w : Nat) (W : World) (hw : w < 4294967296) (g0 : (((cutN w 0 7 : Nat) : Int) == (55 : Int)) = false) (g1 : (((cutN w 0 7 : Nat) : Int) == (23 : Int)) = false) (g2 : (((cutN w 0 7 : Nat) : Int) == (111 : Int)) = false) (g3 : (((cutN w 0 7 : Nat) : Int) == (103 : Int)) = false) (g4 : (((cutN w 0 7 : Nat) : Int) == (99 : Int)) = false) (g5 : (((cutN w 0 7 : Nat) : Int) == (3 : Int)) = false) (g6 : (((cutN w 0 7 : Nat) : Int) == (35 : Int)) = true) (ho : ((row 2 (cutN w 12 3)) == (0 : Int)) = true)  :
    Calls Try.prog 11 #[.int .u32 w] W fun e W' => e = .returned (.tuple #[.agg #[.int .i64 0, .int .i64 0, .int .i64 0, .int .i64 0, .int .i64 0], .int .i64 60]) ∧ Below W.heap.size W W' := by
  have hf := lt_12_3 w
  have l1 := lt_0_7 w
  have l2 := lt_7_5 w
  have l3 := lt_15_5 w
  have l4 := lt_20_5 w
  obtain ⟨n, hn⟩ : ∃ n : Nat, n = cutN w 25 7 * 32 + cutN w 7 5 := ⟨_, rfl⟩
  have EA : bits .or .u32 ((cutN w 25 7 : Nat) * 32) (cutN w 7 5 : Nat) = (n : Int) := by rw [hn]; have h := or_u32 (a := cutN w 25 7) (b := cutN w 7 5) 5 (by omega) (by have := lt_25_7 w; omega); simpa using h
  have HI := Lib.hid (show wideI n 12 = immS w by rw [hn]; exact wide_S w)
  have hb : n < 4096 := by have := lt_25_7 w; omega
  have l5 := lt_25_7 w
  clear hn
  go_enter Try.func11, Try.ntmps11
  go_wp2_with (first | (go_at_call 17; (first | (with_reducible refine (cut_12_3 w _ hw).mono ?_) | (with_reducible refine (cut_7_5 w _ hw).mono ?_) | (with_reducible refine (cut_15_5 w _ hw).mono ?_) | (with_reducible refine (cut_20_5 w _ hw).mono ?_) | (with_reducible refine (cut_0_7 w _ hw).mono ?_) | (with_reducible refine (cut_25_7 w _ hw).mono ?_) | fail); rintro e w' ⟨rfl, rfl⟩) | (go_at_call 19; (with_reducible refine (pk_2 (cutN w 12 3) hf _ _ (by simp)).mono ?_); rintro e w' ⟨rfl, rfl⟩) | (go_at_call 20; (with_reducible refine (wide12 n _ hb).mono ?_); rintro e w' ⟨rfl, rfl⟩; rw [HI.out])  | fail)
  go_returns
  exact ⟨rfl, below3 W _ _ _⟩
set_option maxHeartbeats 2000000 in
theorem rw_15n (w : Nat) (W : World) (hw : w < 4294967296) (g0 : (((cutN w 0 7 : Nat) : Int) == (55 : Int)) = false) (g1 : (((cutN w 0 7 : Nat) : Int) == (23 : Int)) = false) (g2 : (((cutN w 0 7 : Nat) : Int) == (111 : Int)) = false) (g3 : (((cutN w 0 7 : Nat) : Int) == (103 : Int)) = false) (g4 : (((cutN w 0 7 : Nat) : Int) == (99 : Int)) = false) (g5 : (((cutN w 0 7 : Nat) : Int) == (3 : Int)) = false) (g6 : (((cutN w 0 7 : Nat) : Int) == (35 : Int)) = false) (g7 : (((cutN w 0 7 : Nat) : Int) == (19 : Int)) = false) (g8 : (((cutN w 0 7 : Nat) : Int) == (27 : Int)) = false) (g9 : (((cutN w 0 7 : Nat) : Int) == (51 : Int)) = false) (g10 : (((cutN w 0 7 : Nat) : Int) == (59 : Int)) = false) (g11 : (((cutN w 0 7 : Nat) : Int) == (15 : Int)) = true) (ho : ((row 3 (cutN w 12 3)) == (0 : Int)) = true)  :
    Calls Try.prog 11 #[.int .u32 w] W fun e W' => e = .returned (.tuple #[.agg #[.int .i64 0, .int .i64 0, .int .i64 0, .int .i64 0, .int .i64 0], .int .i64 60]) ∧ Below W.heap.size W W' := by
  have hf := lt_12_3 w
  have l1 := lt_0_7 w
  have l2 := lt_7_5 w
  have l3 := lt_15_5 w
  have l4 := lt_20_5 w
  go_enter Try.func11, Try.ntmps11
  go_wp2_with (first | (go_at_call 17; (first | (with_reducible refine (cut_12_3 w _ hw).mono ?_) | (with_reducible refine (cut_7_5 w _ hw).mono ?_) | (with_reducible refine (cut_15_5 w _ hw).mono ?_) | (with_reducible refine (cut_20_5 w _ hw).mono ?_) | (with_reducible refine (cut_0_7 w _ hw).mono ?_) | (with_reducible refine (cut_25_7 w _ hw).mono ?_) | fail); rintro e w' ⟨rfl, rfl⟩) | (go_at_call 19; (with_reducible refine (pk_3 (cutN w 12 3) hf _ _ (by simp)).mono ?_); rintro e w' ⟨rfl, rfl⟩)  | fail)
  go_returns
  exact ⟨rfl, below3 W _ _ _⟩
set_option maxHeartbeats 2000000 in
theorem rw_19n (w : Nat) (W : World) (hw : w < 4294967296) (g0 : (((cutN w 0 7 : Nat) : Int) == (55 : Int)) = false) (g1 : (((cutN w 0 7 : Nat) : Int) == (23 : Int)) = false) (g2 : (((cutN w 0 7 : Nat) : Int) == (111 : Int)) = false) (g3 : (((cutN w 0 7 : Nat) : Int) == (103 : Int)) = false) (g4 : (((cutN w 0 7 : Nat) : Int) == (99 : Int)) = false) (g5 : (((cutN w 0 7 : Nat) : Int) == (3 : Int)) = false) (g6 : (((cutN w 0 7 : Nat) : Int) == (35 : Int)) = false) (g7 : (((cutN w 0 7 : Nat) : Int) == (19 : Int)) = true) (ho : ((rQuick w (cutN w 12 3)).1 == (0 : Int)) = true)  :
    Calls Try.prog 11 #[.int .u32 w] W fun e W' => e = .returned (.tuple #[.agg #[.int .i64 0, .int .i64 0, .int .i64 0, .int .i64 0, .int .i64 0], .int .i64 60]) ∧ Below W.heap.size W W' := by
  have hf := lt_12_3 w
  have l1 := lt_0_7 w
  have l2 := lt_7_5 w
  have l3 := lt_15_5 w
  have l4 := lt_20_5 w
  go_enter Try.func11, Try.ntmps11
  go_wp2_with (first | (go_at_call 17; (first | (with_reducible refine (cut_12_3 w _ hw).mono ?_) | (with_reducible refine (cut_7_5 w _ hw).mono ?_) | (with_reducible refine (cut_15_5 w _ hw).mono ?_) | (with_reducible refine (cut_20_5 w _ hw).mono ?_) | (with_reducible refine (cut_0_7 w _ hw).mono ?_) | (with_reducible refine (cut_25_7 w _ hw).mono ?_) | fail); rintro e w' ⟨rfl, rfl⟩) | (go_at_call 22; (with_reducible refine (quick_any w _ _ hw hf).mono ?_); rintro e w1 ⟨rfl, hb1⟩; have T := Lib.hid ((two_alloc W _ _ _).after hb1); have j0 := T.out.fr.c0; have j1 := T.out.fr.c1; have j2 := T.out.fr.c2; have j3 := T.out.fr.c3; have j4 := T.out.fr.c4; have jf := T.out.fr.f; have a0 := T.out.a0; have a1 := T.out.a1; have a2 := T.out.a2; have a3 := T.out.a3; have a4 := T.out.a4; have af := T.out.f; have jl := T.out.fr.lt; have al := T.out.lt; clear hb1)  | fail)
  refine bodyPost_ret (v := .tuple #[.agg #[.int .i64 0, .int .i64 0, .int .i64 0, .int .i64 0, .int .i64 0], .int .i64 60]) (by simp [results, Try.results11, go_sem, j0, j1, j2, j3, j4]) rfl ?_
  exact ⟨rfl, fin6 ((T.out.fr.set _ _).set _ _) _ _ _ _ _⟩
set_option maxHeartbeats 2000000 in
theorem rw_27n (w : Nat) (W : World) (hw : w < 4294967296) (g0 : (((cutN w 0 7 : Nat) : Int) == (55 : Int)) = false) (g1 : (((cutN w 0 7 : Nat) : Int) == (23 : Int)) = false) (g2 : (((cutN w 0 7 : Nat) : Int) == (111 : Int)) = false) (g3 : (((cutN w 0 7 : Nat) : Int) == (103 : Int)) = false) (g4 : (((cutN w 0 7 : Nat) : Int) == (99 : Int)) = false) (g5 : (((cutN w 0 7 : Nat) : Int) == (3 : Int)) = false) (g6 : (((cutN w 0 7 : Nat) : Int) == (35 : Int)) = false) (g7 : (((cutN w 0 7 : Nat) : Int) == (19 : Int)) = false) (g8 : (((cutN w 0 7 : Nat) : Int) == (27 : Int)) = true) (ho : ((rQW w (cutN w 12 3)).1 == (0 : Int)) = true)  :
    Calls Try.prog 11 #[.int .u32 w] W fun e W' => e = .returned (.tuple #[.agg #[.int .i64 0, .int .i64 0, .int .i64 0, .int .i64 0, .int .i64 0], .int .i64 60]) ∧ Below W.heap.size W W' := by
  have hf := lt_12_3 w
  have l1 := lt_0_7 w
  have l2 := lt_7_5 w
  have l3 := lt_15_5 w
  have l4 := lt_20_5 w
  go_enter Try.func11, Try.ntmps11
  go_wp2_with (first | (go_at_call 17; (first | (with_reducible refine (cut_12_3 w _ hw).mono ?_) | (with_reducible refine (cut_7_5 w _ hw).mono ?_) | (with_reducible refine (cut_15_5 w _ hw).mono ?_) | (with_reducible refine (cut_20_5 w _ hw).mono ?_) | (with_reducible refine (cut_0_7 w _ hw).mono ?_) | (with_reducible refine (cut_25_7 w _ hw).mono ?_) | fail); rintro e w' ⟨rfl, rfl⟩) | (go_at_call 23; (with_reducible refine (qw_any w _ _ hw hf).mono ?_); rintro e w1 ⟨rfl, hb1⟩; have T := Lib.hid ((two_alloc W _ _ _).after hb1); have j0 := T.out.fr.c0; have j1 := T.out.fr.c1; have j2 := T.out.fr.c2; have j3 := T.out.fr.c3; have j4 := T.out.fr.c4; have jf := T.out.fr.f; have a0 := T.out.a0; have a1 := T.out.a1; have a2 := T.out.a2; have a3 := T.out.a3; have a4 := T.out.a4; have af := T.out.f; have jl := T.out.fr.lt; have al := T.out.lt; clear hb1)  | fail)
  refine bodyPost_ret (v := .tuple #[.agg #[.int .i64 0, .int .i64 0, .int .i64 0, .int .i64 0, .int .i64 0], .int .i64 60]) (by simp [results, Try.results11, go_sem, j0, j1, j2, j3, j4]) rfl ?_
  exact ⟨rfl, fin6 ((T.out.fr.set _ _).set _ _) _ _ _ _ _⟩
set_option maxHeartbeats 2000000 in
theorem rw_51n (w : Nat) (W : World) (hw : w < 4294967296) (g0 : (((cutN w 0 7 : Nat) : Int) == (55 : Int)) = false) (g1 : (((cutN w 0 7 : Nat) : Int) == (23 : Int)) = false) (g2 : (((cutN w 0 7 : Nat) : Int) == (111 : Int)) = false) (g3 : (((cutN w 0 7 : Nat) : Int) == (103 : Int)) = false) (g4 : (((cutN w 0 7 : Nat) : Int) == (99 : Int)) = false) (g5 : (((cutN w 0 7 : Nat) : Int) == (3 : Int)) = false) (g6 : (((cutN w 0 7 : Nat) : Int) == (35 : Int)) = false) (g7 : (((cutN w 0 7 : Nat) : Int) == (19 : Int)) = false) (g8 : (((cutN w 0 7 : Nat) : Int) == (27 : Int)) = false) (g9 : (((cutN w 0 7 : Nat) : Int) == (51 : Int)) = true) (ho : ((op33 (cutN w 12 3) (cutN w 25 7)) == (0 : Int)) = true)  :
    Calls Try.prog 11 #[.int .u32 w] W fun e W' => e = .returned (.tuple #[.agg #[.int .i64 0, .int .i64 0, .int .i64 0, .int .i64 0, .int .i64 0], .int .i64 60]) ∧ Below W.heap.size W W' := by
  have hf := lt_12_3 w
  have l1 := lt_0_7 w
  have l2 := lt_7_5 w
  have l3 := lt_15_5 w
  have l4 := lt_20_5 w
  go_enter Try.func11, Try.ntmps11
  go_wp2_with (first | (go_at_call 17; (first | (with_reducible refine (cut_12_3 w _ hw).mono ?_) | (with_reducible refine (cut_7_5 w _ hw).mono ?_) | (with_reducible refine (cut_15_5 w _ hw).mono ?_) | (with_reducible refine (cut_20_5 w _ hw).mono ?_) | (with_reducible refine (cut_0_7 w _ hw).mono ?_) | (with_reducible refine (cut_25_7 w _ hw).mono ?_) | fail); rintro e w' ⟨rfl, rfl⟩) | (go_at_call 24; (with_reducible refine (three_any w _ _ hw hf).mono ?_); rintro e w1 ⟨rfl, hb1⟩; have T := Lib.hid ((two_alloc W _ _ _).after hb1); have j0 := T.out.fr.c0; have j1 := T.out.fr.c1; have j2 := T.out.fr.c2; have j3 := T.out.fr.c3; have j4 := T.out.fr.c4; have jf := T.out.fr.f; have a0 := T.out.a0; have a1 := T.out.a1; have a2 := T.out.a2; have a3 := T.out.a3; have a4 := T.out.a4; have af := T.out.f; have jl := T.out.fr.lt; have al := T.out.lt; clear hb1)  | fail)
  refine bodyPost_ret (v := .tuple #[.agg #[.int .i64 0, .int .i64 0, .int .i64 0, .int .i64 0, .int .i64 0], .int .i64 60]) (by simp [results, Try.results11, go_sem, j0, j1, j2, j3, j4]) rfl ?_
  exact ⟨rfl, fin6 (T.out.fr.set _ _) _ _ _ _ _⟩
set_option maxHeartbeats 2000000 in
theorem rw_59n (w : Nat) (W : World) (hw : w < 4294967296) (g0 : (((cutN w 0 7 : Nat) : Int) == (55 : Int)) = false) (g1 : (((cutN w 0 7 : Nat) : Int) == (23 : Int)) = false) (g2 : (((cutN w 0 7 : Nat) : Int) == (111 : Int)) = false) (g3 : (((cutN w 0 7 : Nat) : Int) == (103 : Int)) = false) (g4 : (((cutN w 0 7 : Nat) : Int) == (99 : Int)) = false) (g5 : (((cutN w 0 7 : Nat) : Int) == (3 : Int)) = false) (g6 : (((cutN w 0 7 : Nat) : Int) == (35 : Int)) = false) (g7 : (((cutN w 0 7 : Nat) : Int) == (19 : Int)) = false) (g8 : (((cutN w 0 7 : Nat) : Int) == (27 : Int)) = false) (g9 : (((cutN w 0 7 : Nat) : Int) == (51 : Int)) = false) (g10 : (((cutN w 0 7 : Nat) : Int) == (59 : Int)) = true) (ho : ((op3b (cutN w 12 3) (cutN w 25 7)) == (0 : Int)) = true)  :
    Calls Try.prog 11 #[.int .u32 w] W fun e W' => e = .returned (.tuple #[.agg #[.int .i64 0, .int .i64 0, .int .i64 0, .int .i64 0, .int .i64 0], .int .i64 60]) ∧ Below W.heap.size W W' := by
  have hf := lt_12_3 w
  have l1 := lt_0_7 w
  have l2 := lt_7_5 w
  have l3 := lt_15_5 w
  have l4 := lt_20_5 w
  go_enter Try.func11, Try.ntmps11
  go_wp2_with (first | (go_at_call 17; (first | (with_reducible refine (cut_12_3 w _ hw).mono ?_) | (with_reducible refine (cut_7_5 w _ hw).mono ?_) | (with_reducible refine (cut_15_5 w _ hw).mono ?_) | (with_reducible refine (cut_20_5 w _ hw).mono ?_) | (with_reducible refine (cut_0_7 w _ hw).mono ?_) | (with_reducible refine (cut_25_7 w _ hw).mono ?_) | fail); rintro e w' ⟨rfl, rfl⟩) | (go_at_call 25; (with_reducible refine (threeW_any w _ _ hw hf).mono ?_); rintro e w1 ⟨rfl, hb1⟩; have T := Lib.hid ((two_alloc W _ _ _).after hb1); have j0 := T.out.fr.c0; have j1 := T.out.fr.c1; have j2 := T.out.fr.c2; have j3 := T.out.fr.c3; have j4 := T.out.fr.c4; have jf := T.out.fr.f; have a0 := T.out.a0; have a1 := T.out.a1; have a2 := T.out.a2; have a3 := T.out.a3; have a4 := T.out.a4; have af := T.out.f; have jl := T.out.fr.lt; have al := T.out.lt; clear hb1)  | fail)
  refine bodyPost_ret (v := .tuple #[.agg #[.int .i64 0, .int .i64 0, .int .i64 0, .int .i64 0, .int .i64 0], .int .i64 60]) (by simp [results, Try.results11, go_sem, j0, j1, j2, j3, j4]) rfl ?_
  exact ⟨rfl, fin6 (T.out.fr.set _ _) _ _ _ _ _⟩
set_option maxHeartbeats 2000000 in
theorem rw_47n (w : Nat) (W : World) (hw : w < 4294967296) (g0 : (((cutN w 0 7 : Nat) : Int) == (55 : Int)) = false) (g1 : (((cutN w 0 7 : Nat) : Int) == (23 : Int)) = false) (g2 : (((cutN w 0 7 : Nat) : Int) == (111 : Int)) = false) (g3 : (((cutN w 0 7 : Nat) : Int) == (103 : Int)) = false) (g4 : (((cutN w 0 7 : Nat) : Int) == (99 : Int)) = false) (g5 : (((cutN w 0 7 : Nat) : Int) == (3 : Int)) = false) (g6 : (((cutN w 0 7 : Nat) : Int) == (35 : Int)) = false) (g7 : (((cutN w 0 7 : Nat) : Int) == (19 : Int)) = false) (g8 : (((cutN w 0 7 : Nat) : Int) == (27 : Int)) = false) (g9 : (((cutN w 0 7 : Nat) : Int) == (51 : Int)) = false) (g10 : (((cutN w 0 7 : Nat) : Int) == (59 : Int)) = false) (g11 : (((cutN w 0 7 : Nat) : Int) == (15 : Int)) = false) (g12 : (((cutN w 0 7 : Nat) : Int) == (47 : Int)) = true) (ho : ((rAtom w (cutN w 12 3)) == (0 : Int)) = true)  :
    Calls Try.prog 11 #[.int .u32 w] W fun e W' => e = .returned (.tuple #[.agg #[.int .i64 0, .int .i64 0, .int .i64 0, .int .i64 0, .int .i64 0], .int .i64 60]) ∧ Below W.heap.size W W' := by
  have hf := lt_12_3 w
  have l1 := lt_0_7 w
  have l2 := lt_7_5 w
  have l3 := lt_15_5 w
  have l4 := lt_20_5 w
  go_enter Try.func11, Try.ntmps11
  go_wp2_with (first | (go_at_call 17; (first | (with_reducible refine (cut_12_3 w _ hw).mono ?_) | (with_reducible refine (cut_7_5 w _ hw).mono ?_) | (with_reducible refine (cut_15_5 w _ hw).mono ?_) | (with_reducible refine (cut_20_5 w _ hw).mono ?_) | (with_reducible refine (cut_0_7 w _ hw).mono ?_) | (with_reducible refine (cut_25_7 w _ hw).mono ?_) | fail); rintro e w' ⟨rfl, rfl⟩) | (go_at_call 26; (with_reducible refine (ratom_any w _ _ hw hf).mono ?_); rintro e w1 ⟨rfl, hb1⟩; have T := Lib.hid ((two_alloc W _ _ _).after hb1); have j0 := T.out.fr.c0; have j1 := T.out.fr.c1; have j2 := T.out.fr.c2; have j3 := T.out.fr.c3; have j4 := T.out.fr.c4; have jf := T.out.fr.f; have a0 := T.out.a0; have a1 := T.out.a1; have a2 := T.out.a2; have a3 := T.out.a3; have a4 := T.out.a4; have af := T.out.f; have jl := T.out.fr.lt; have al := T.out.lt; clear hb1)  | fail)
  refine bodyPost_ret (v := .tuple #[.agg #[.int .i64 0, .int .i64 0, .int .i64 0, .int .i64 0, .int .i64 0], .int .i64 60]) (by simp [results, Try.results11, go_sem, j0, j1, j2, j3, j4]) rfl ?_
  exact ⟨rfl, fin6 (T.out.fr.set _ _) _ _ _ _ _⟩
set_option maxHeartbeats 2000000 in
theorem rw_115n (w : Nat) (W : World) (hw : w < 4294967296) (g0 : (((cutN w 0 7 : Nat) : Int) == (55 : Int)) = false) (g1 : (((cutN w 0 7 : Nat) : Int) == (23 : Int)) = false) (g2 : (((cutN w 0 7 : Nat) : Int) == (111 : Int)) = false) (g3 : (((cutN w 0 7 : Nat) : Int) == (103 : Int)) = false) (g4 : (((cutN w 0 7 : Nat) : Int) == (99 : Int)) = false) (g5 : (((cutN w 0 7 : Nat) : Int) == (3 : Int)) = false) (g6 : (((cutN w 0 7 : Nat) : Int) == (35 : Int)) = false) (g7 : (((cutN w 0 7 : Nat) : Int) == (19 : Int)) = false) (g8 : (((cutN w 0 7 : Nat) : Int) == (27 : Int)) = false) (g9 : (((cutN w 0 7 : Nat) : Int) == (51 : Int)) = false) (g10 : (((cutN w 0 7 : Nat) : Int) == (59 : Int)) = false) (g11 : (((cutN w 0 7 : Nat) : Int) == (15 : Int)) = false) (g12 : (((cutN w 0 7 : Nat) : Int) == (47 : Int)) = false) (g13 : (((cutN w 0 7 : Nat) : Int) == (115 : Int)) = true) (ho : ((rSys w (cutN w 12 3)).1 == (0 : Int)) = true)  :
    Calls Try.prog 11 #[.int .u32 w] W fun e W' => e = .returned (.tuple #[.agg #[.int .i64 0, .int .i64 0, .int .i64 0, .int .i64 0, .int .i64 0], .int .i64 60]) ∧ Below W.heap.size W W' := by
  have hf := lt_12_3 w
  have l1 := lt_0_7 w
  have l2 := lt_7_5 w
  have l3 := lt_15_5 w
  have l4 := lt_20_5 w
  go_enter Try.func11, Try.ntmps11
  go_wp2_with (first | (go_at_call 17; (first | (with_reducible refine (cut_12_3 w _ hw).mono ?_) | (with_reducible refine (cut_7_5 w _ hw).mono ?_) | (with_reducible refine (cut_15_5 w _ hw).mono ?_) | (with_reducible refine (cut_20_5 w _ hw).mono ?_) | (with_reducible refine (cut_0_7 w _ hw).mono ?_) | (with_reducible refine (cut_25_7 w _ hw).mono ?_) | fail); rintro e w' ⟨rfl, rfl⟩) | (go_at_call 27; (with_reducible refine (rsys_any w _ _ hw hf).mono ?_); rintro e w1 ⟨rfl, hb1⟩; have T := Lib.hid ((two_alloc W _ _ _).after hb1); have j0 := T.out.fr.c0; have j1 := T.out.fr.c1; have j2 := T.out.fr.c2; have j3 := T.out.fr.c3; have j4 := T.out.fr.c4; have jf := T.out.fr.f; have a0 := T.out.a0; have a1 := T.out.a1; have a2 := T.out.a2; have a3 := T.out.a3; have a4 := T.out.a4; have af := T.out.f; have jl := T.out.fr.lt; have al := T.out.lt; clear hb1)  | fail)
  refine bodyPost_ret (v := .tuple #[.agg #[.int .i64 0, .int .i64 0, .int .i64 0, .int .i64 0, .int .i64 0], .int .i64 60]) (by simp [results, Try.results11, go_sem, j0, j1, j2, j3, j4]) rfl ?_
  exact ⟨rfl, fin6 ((T.out.fr.set _ _).set _ _) _ _ _ _ _⟩
set_option maxHeartbeats 2000000 in
theorem rw_no (w : Nat) (W : World) (hw : w < 4294967296) (g0 : (((cutN w 0 7 : Nat) : Int) == (55 : Int)) = false) (g1 : (((cutN w 0 7 : Nat) : Int) == (23 : Int)) = false) (g2 : (((cutN w 0 7 : Nat) : Int) == (111 : Int)) = false) (g3 : (((cutN w 0 7 : Nat) : Int) == (103 : Int)) = false) (g4 : (((cutN w 0 7 : Nat) : Int) == (99 : Int)) = false) (g5 : (((cutN w 0 7 : Nat) : Int) == (3 : Int)) = false) (g6 : (((cutN w 0 7 : Nat) : Int) == (35 : Int)) = false) (g7 : (((cutN w 0 7 : Nat) : Int) == (19 : Int)) = false) (g8 : (((cutN w 0 7 : Nat) : Int) == (27 : Int)) = false) (g9 : (((cutN w 0 7 : Nat) : Int) == (51 : Int)) = false) (g10 : (((cutN w 0 7 : Nat) : Int) == (59 : Int)) = false) (g11 : (((cutN w 0 7 : Nat) : Int) == (15 : Int)) = false) (g12 : (((cutN w 0 7 : Nat) : Int) == (47 : Int)) = false) (g13 : (((cutN w 0 7 : Nat) : Int) == (115 : Int)) = false)   :
    Calls Try.prog 11 #[.int .u32 w] W fun e W' => e = .returned (.tuple #[.agg #[.int .i64 0, .int .i64 0, .int .i64 0, .int .i64 0, .int .i64 0], .int .i64 60]) ∧ Below W.heap.size W W' := by
  have hf := lt_12_3 w
  have l1 := lt_0_7 w
  have l2 := lt_7_5 w
  have l3 := lt_15_5 w
  have l4 := lt_20_5 w
  go_enter Try.func11, Try.ntmps11
  go_wp2_with (first | (go_at_call 17; (first | (with_reducible refine (cut_12_3 w _ hw).mono ?_) | (with_reducible refine (cut_7_5 w _ hw).mono ?_) | (with_reducible refine (cut_15_5 w _ hw).mono ?_) | (with_reducible refine (cut_20_5 w _ hw).mono ?_) | (with_reducible refine (cut_0_7 w _ hw).mono ?_) | (with_reducible refine (cut_25_7 w _ hw).mono ?_) | fail); rintro e w' ⟨rfl, rfl⟩)   | fail)
  go_returns
  exact ⟨rfl, below2 W _ _⟩
end Go.Proofs.Ytdodbfpahmkpbaa
