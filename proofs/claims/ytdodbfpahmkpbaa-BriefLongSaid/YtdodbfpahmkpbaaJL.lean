/- The reference's instruction of a word (my own, from the seat of package decode), JL. -/
import Derived.Test.YtdodbfpahmkpbaaJA
namespace Go.Proofs.Ytdodbfpahmkpbaa
open Go.RowKit Go.Deep Go.Joins
theorem wide_w (w : Nat) (W : World) (hw : w < 4294967296) :
    Calls Try.prog 20 #[.int .u32 ((w : Int) / 1048576), .int .u64 12] W fun e W' => e = .returned (.int .i64 (immI w)) ∧ W = W' := by
  have h := wide12 (w / 1048576) W (by omega)
  rw [wide_I w hw, show ((w / 1048576 : Nat) : Int) = (w : Int) / 1048576 by omega] at h
  exact h
set_option maxHeartbeats 1000000 in
theorem quick_1a (w f : Nat) (W : World) (hw : w < 4294967296) (hf : f < 8) (g0 : (((f : Nat) : Int) == (1 : Int)) = true) (g1 : (((cutN w 26 6 : Nat) : Int) == (0 : Int)) = true)  :
    Calls Try.prog 22 #[.int .u32 w, .int .u32 f] W fun e W' => e = .returned (.tuple #[.int .i64 28, .int .i64 (cutN w 20 6 : Nat)]) ∧ Below W.heap.size W W' := by
  obtain ⟨hw, hf⟩ := And.intro hw hf
  have l26_6 := lt_26_6 w
  have l20_6 := lt_20_6 w
  go_enter Try.func22, Try.ntmps22
  go_wp2_with (first | (go_at_call 20; (first | (with_reducible refine (wide_w w _ hw).mono ?_) | fail); rintro e w' ⟨rfl, rfl⟩) | (go_at_call 17; (first | (with_reducible refine (cut_26_6 w _ hw).mono ?_) | (with_reducible refine (cut_20_6 w _ hw).mono ?_) | fail); rintro e w' ⟨rfl, rfl⟩) | fail)
  go_returns
  exact ⟨rfl, (Below.refl _ _)⟩
set_option maxHeartbeats 1000000 in
theorem quick_1n (w f : Nat) (W : World) (hw : w < 4294967296) (hf : f < 8) (g0 : (((f : Nat) : Int) == (1 : Int)) = true) (g1 : (((cutN w 26 6 : Nat) : Int) == (0 : Int)) = false)  :
    Calls Try.prog 22 #[.int .u32 w, .int .u32 f] W fun e W' => e = .returned (.tuple #[.int .i64 0, .int .i64 0]) ∧ Below W.heap.size W W' := by
  obtain ⟨hw, hf⟩ := And.intro hw hf
  have l26_6 := lt_26_6 w
  have l20_6 := lt_20_6 w
  go_enter Try.func22, Try.ntmps22
  go_wp2_with (first | (go_at_call 20; (first | (with_reducible refine (wide_w w _ hw).mono ?_) | fail); rintro e w' ⟨rfl, rfl⟩) | (go_at_call 17; (first | (with_reducible refine (cut_26_6 w _ hw).mono ?_) | (with_reducible refine (cut_20_6 w _ hw).mono ?_) | fail); rintro e w' ⟨rfl, rfl⟩) | fail)
  go_returns
  exact ⟨rfl, (Below.refl _ _)⟩
set_option maxHeartbeats 1000000 in
theorem quick_5a (w f : Nat) (W : World) (hw : w < 4294967296) (hf : f < 8) (g0 : (((f : Nat) : Int) == (1 : Int)) = false) (g1 : (((f : Nat) : Int) == (5 : Int)) = true) (g2 : (((cutN w 26 6 : Nat) : Int) == (0 : Int)) = true)  :
    Calls Try.prog 22 #[.int .u32 w, .int .u32 f] W fun e W' => e = .returned (.tuple #[.int .i64 29, .int .i64 (cutN w 20 6 : Nat)]) ∧ Below W.heap.size W W' := by
  obtain ⟨hw, hf⟩ := And.intro hw hf
  have l26_6 := lt_26_6 w
  have l20_6 := lt_20_6 w
  go_enter Try.func22, Try.ntmps22
  go_wp2_with (first | (go_at_call 20; (first | (with_reducible refine (wide_w w _ hw).mono ?_) | fail); rintro e w' ⟨rfl, rfl⟩) | (go_at_call 17; (first | (with_reducible refine (cut_26_6 w _ hw).mono ?_) | (with_reducible refine (cut_20_6 w _ hw).mono ?_) | fail); rintro e w' ⟨rfl, rfl⟩) | fail)
  go_returns
  exact ⟨rfl, (Below.refl _ _)⟩
set_option maxHeartbeats 1000000 in
theorem quick_5b (w f : Nat) (W : World) (hw : w < 4294967296) (hf : f < 8) (g0 : (((f : Nat) : Int) == (1 : Int)) = false) (g1 : (((f : Nat) : Int) == (5 : Int)) = true) (g2 : (((cutN w 26 6 : Nat) : Int) == (0 : Int)) = false) (g3 : (((cutN w 26 6 : Nat) : Int) == (16 : Int)) = true)  :
    Calls Try.prog 22 #[.int .u32 w, .int .u32 f] W fun e W' => e = .returned (.tuple #[.int .i64 30, .int .i64 (cutN w 20 6 : Nat)]) ∧ Below W.heap.size W W' := by
  obtain ⟨hw, hf⟩ := And.intro hw hf
  have l26_6 := lt_26_6 w
  have l20_6 := lt_20_6 w
  go_enter Try.func22, Try.ntmps22
  go_wp2_with (first | (go_at_call 20; (first | (with_reducible refine (wide_w w _ hw).mono ?_) | fail); rintro e w' ⟨rfl, rfl⟩) | (go_at_call 17; (first | (with_reducible refine (cut_26_6 w _ hw).mono ?_) | (with_reducible refine (cut_20_6 w _ hw).mono ?_) | fail); rintro e w' ⟨rfl, rfl⟩) | fail)
  go_returns
  exact ⟨rfl, (Below.refl _ _)⟩
set_option maxHeartbeats 1000000 in
theorem quick_5n (w f : Nat) (W : World) (hw : w < 4294967296) (hf : f < 8) (g0 : (((f : Nat) : Int) == (1 : Int)) = false) (g1 : (((f : Nat) : Int) == (5 : Int)) = true) (g2 : (((cutN w 26 6 : Nat) : Int) == (0 : Int)) = false) (g3 : (((cutN w 26 6 : Nat) : Int) == (16 : Int)) = false)  :
    Calls Try.prog 22 #[.int .u32 w, .int .u32 f] W fun e W' => e = .returned (.tuple #[.int .i64 0, .int .i64 0]) ∧ Below W.heap.size W W' := by
  obtain ⟨hw, hf⟩ := And.intro hw hf
  have l26_6 := lt_26_6 w
  have l20_6 := lt_20_6 w
  go_enter Try.func22, Try.ntmps22
  go_wp2_with (first | (go_at_call 20; (first | (with_reducible refine (wide_w w _ hw).mono ?_) | fail); rintro e w' ⟨rfl, rfl⟩) | (go_at_call 17; (first | (with_reducible refine (cut_26_6 w _ hw).mono ?_) | (with_reducible refine (cut_20_6 w _ hw).mono ?_) | fail); rintro e w' ⟨rfl, rfl⟩) | fail)
  go_returns
  exact ⟨rfl, (Below.refl _ _)⟩
set_option maxHeartbeats 1000000 in
theorem quick_e (w f : Nat) (W : World) (hw : w < 4294967296) (hf : f < 8) (g0 : (((f : Nat) : Int) == (1 : Int)) = false) (g1 : (((f : Nat) : Int) == (5 : Int)) = false)  :
    Calls Try.prog 22 #[.int .u32 w, .int .u32 f] W fun e W' => e = .returned (.tuple #[.int .i64 (row 4 f), .int .i64 (immI w)]) ∧ Below W.heap.size W W' := by
  obtain ⟨hw, hf⟩ := And.intro hw hf
  have l26_6 := lt_26_6 w
  have l20_6 := lt_20_6 w
  go_enter Try.func22, Try.ntmps22
  go_wp2_with (first | (go_at_call 20; (first | (with_reducible refine (wide_w w _ hw).mono ?_) | fail); rintro e w' ⟨rfl, rfl⟩) | (go_at_call 17; (first | (with_reducible refine (cut_26_6 w _ hw).mono ?_) | (with_reducible refine (cut_20_6 w _ hw).mono ?_) | fail); rintro e w' ⟨rfl, rfl⟩) | (go_at_call 19; (with_reducible refine (pick_4 f hf _).mono ?_); rintro e w' ⟨rfl, rfl⟩) | fail)
  go_returns
  exact ⟨rfl, below1 W _⟩
set_option maxHeartbeats 1000000 in
theorem qw_0 (w f : Nat) (W : World) (hw : w < 4294967296) (hf : f < 8) (g0 : (((f : Nat) : Int) == (0 : Int)) = true)  :
    Calls Try.prog 23 #[.int .u32 w, .int .u32 f] W fun e W' => e = .returned (.tuple #[.int .i64 41, .int .i64 (immI w)]) ∧ Below W.heap.size W W' := by
  obtain ⟨hw, hf⟩ := And.intro hw hf
  have l25_7 := lt_25_7 w
  have l20_5 := lt_20_5 w
  go_enter Try.func23, Try.ntmps23
  go_wp2_with (first | (go_at_call 20; (first | (with_reducible refine (wide_w w _ hw).mono ?_) | fail); rintro e w' ⟨rfl, rfl⟩) | (go_at_call 17; (first | (with_reducible refine (cut_25_7 w _ hw).mono ?_) | (with_reducible refine (cut_20_5 w _ hw).mono ?_) | fail); rintro e w' ⟨rfl, rfl⟩) | fail)
  go_returns
  exact ⟨rfl, (Below.refl _ _)⟩
set_option maxHeartbeats 1000000 in
theorem qw_1 (w f : Nat) (W : World) (hw : w < 4294967296) (hf : f < 8) (g0 : (((f : Nat) : Int) == (0 : Int)) = false) (g1 : (((f : Nat) : Int) == (1 : Int)) = true) (g2 : (((cutN w 25 7 : Nat) : Int) == (0 : Int)) = true)  :
    Calls Try.prog 23 #[.int .u32 w, .int .u32 f] W fun e W' => e = .returned (.tuple #[.int .i64 42, .int .i64 (cutN w 20 5 : Nat)]) ∧ Below W.heap.size W W' := by
  obtain ⟨hw, hf⟩ := And.intro hw hf
  have l25_7 := lt_25_7 w
  have l20_5 := lt_20_5 w
  go_enter Try.func23, Try.ntmps23
  go_wp2_with (first | (go_at_call 17; (first | (with_reducible refine (cut_25_7 w _ hw).mono ?_) | (with_reducible refine (cut_20_5 w _ hw).mono ?_) | fail); rintro e w' ⟨rfl, rfl⟩) | fail)
  go_returns
  exact ⟨rfl, (Below.refl _ _)⟩
set_option maxHeartbeats 1000000 in
theorem qw_5 (w f : Nat) (W : World) (hw : w < 4294967296) (hf : f < 8) (g0 : (((f : Nat) : Int) == (0 : Int)) = false) (g1 : (((f : Nat) : Int) == (1 : Int)) = false) (g2 : (((f : Nat) : Int) == (5 : Int)) = true) (g3 : (((cutN w 25 7 : Nat) : Int) == (0 : Int)) = true)  :
    Calls Try.prog 23 #[.int .u32 w, .int .u32 f] W fun e W' => e = .returned (.tuple #[.int .i64 43, .int .i64 (cutN w 20 5 : Nat)]) ∧ Below W.heap.size W W' := by
  obtain ⟨hw, hf⟩ := And.intro hw hf
  have l25_7 := lt_25_7 w
  have l20_5 := lt_20_5 w
  go_enter Try.func23, Try.ntmps23
  go_wp2_with (first | (go_at_call 17; (first | (with_reducible refine (cut_25_7 w _ hw).mono ?_) | (with_reducible refine (cut_20_5 w _ hw).mono ?_) | fail); rintro e w' ⟨rfl, rfl⟩) | fail)
  go_returns
  exact ⟨rfl, (Below.refl _ _)⟩
set_option maxHeartbeats 1000000 in
theorem qw_5s (w f : Nat) (W : World) (hw : w < 4294967296) (hf : f < 8) (g0 : (((f : Nat) : Int) == (0 : Int)) = false) (g1 : (((f : Nat) : Int) == (1 : Int)) = false) (g2 : (((f : Nat) : Int) == (5 : Int)) = true) (g3 : (((cutN w 25 7 : Nat) : Int) == (0 : Int)) = false) (g4 : (((cutN w 25 7 : Nat) : Int) == (32 : Int)) = true)  :
    Calls Try.prog 23 #[.int .u32 w, .int .u32 f] W fun e W' => e = .returned (.tuple #[.int .i64 44, .int .i64 (cutN w 20 5 : Nat)]) ∧ Below W.heap.size W W' := by
  obtain ⟨hw, hf⟩ := And.intro hw hf
  have l25_7 := lt_25_7 w
  have l20_5 := lt_20_5 w
  go_enter Try.func23, Try.ntmps23
  go_wp2_with (first | (go_at_call 17; (first | (with_reducible refine (cut_25_7 w _ hw).mono ?_) | (with_reducible refine (cut_20_5 w _ hw).mono ?_) | fail); rintro e w' ⟨rfl, rfl⟩) | fail)
  go_returns
  exact ⟨rfl, (Below.refl _ _)⟩
set_option maxHeartbeats 1000000 in
theorem qw_n1 (w f : Nat) (W : World) (hw : w < 4294967296) (hf : f < 8) (g0 : (((f : Nat) : Int) == (0 : Int)) = false) (g1 : (((f : Nat) : Int) == (1 : Int)) = true) (g2 : (((f : Nat) : Int) == (5 : Int)) = false) (g3 : (((cutN w 25 7 : Nat) : Int) == (0 : Int)) = false)  :
    Calls Try.prog 23 #[.int .u32 w, .int .u32 f] W fun e W' => e = .returned (.tuple #[.int .i64 0, .int .i64 0]) ∧ Below W.heap.size W W' := by
  obtain ⟨hw, hf⟩ := And.intro hw hf
  have l25_7 := lt_25_7 w
  have l20_5 := lt_20_5 w
  go_enter Try.func23, Try.ntmps23
  go_wp2_with (first | (go_at_call 17; (first | (with_reducible refine (cut_25_7 w _ hw).mono ?_) | (with_reducible refine (cut_20_5 w _ hw).mono ?_) | fail); rintro e w' ⟨rfl, rfl⟩) | fail)
  go_returns
  exact ⟨rfl, (Below.refl _ _)⟩
set_option maxHeartbeats 1000000 in
theorem qw_n5 (w f : Nat) (W : World) (hw : w < 4294967296) (hf : f < 8) (g0 : (((f : Nat) : Int) == (0 : Int)) = false) (g1 : (((f : Nat) : Int) == (1 : Int)) = false) (g2 : (((f : Nat) : Int) == (5 : Int)) = true) (g3 : (((cutN w 25 7 : Nat) : Int) == (0 : Int)) = false) (g4 : (((cutN w 25 7 : Nat) : Int) == (32 : Int)) = false)  :
    Calls Try.prog 23 #[.int .u32 w, .int .u32 f] W fun e W' => e = .returned (.tuple #[.int .i64 0, .int .i64 0]) ∧ Below W.heap.size W W' := by
  obtain ⟨hw, hf⟩ := And.intro hw hf
  have l25_7 := lt_25_7 w
  have l20_5 := lt_20_5 w
  go_enter Try.func23, Try.ntmps23
  go_wp2_with (first | (go_at_call 17; (first | (with_reducible refine (cut_25_7 w _ hw).mono ?_) | (with_reducible refine (cut_20_5 w _ hw).mono ?_) | fail); rintro e w' ⟨rfl, rfl⟩) | fail)
  go_returns
  exact ⟨rfl, (Below.refl _ _)⟩
set_option maxHeartbeats 1000000 in
theorem qw_n (w f : Nat) (W : World) (hw : w < 4294967296) (hf : f < 8) (g0 : (((f : Nat) : Int) == (0 : Int)) = false) (g1 : (((f : Nat) : Int) == (1 : Int)) = false) (g2 : (((f : Nat) : Int) == (5 : Int)) = false)  :
    Calls Try.prog 23 #[.int .u32 w, .int .u32 f] W fun e W' => e = .returned (.tuple #[.int .i64 0, .int .i64 0]) ∧ Below W.heap.size W W' := by
  obtain ⟨hw, hf⟩ := And.intro hw hf
  have l25_7 := lt_25_7 w
  have l20_5 := lt_20_5 w
  go_enter Try.func23, Try.ntmps23
  go_wp2_with (first | (go_at_call 17; (first | (with_reducible refine (cut_25_7 w _ hw).mono ?_) | (with_reducible refine (cut_20_5 w _ hw).mono ?_) | fail); rintro e w' ⟨rfl, rfl⟩) | fail)
  go_returns
  exact ⟨rfl, (Below.refl _ _)⟩
set_option maxHeartbeats 1000000 in
theorem three_0 (w f : Nat) (W : World) (hw : w < 4294967296) (hf : f < 8) (g0 : (((cutN w 25 7 : Nat) : Int) == (0 : Int)) = true)  :
    Calls Try.prog 24 #[.int .u32 w, .int .u32 f] W fun e W' => e = .returned (.int .i64 (row 5 f)) ∧ Below W.heap.size W W' := by
  obtain ⟨hw, hf⟩ := And.intro hw hf
  have l25_7 := lt_25_7 w
  go_enter Try.func24, Try.ntmps24
  go_wp2_with (first | (go_at_call 17; (first | (with_reducible refine (cut_25_7 w _ hw).mono ?_) | fail); rintro e w' ⟨rfl, rfl⟩) | (go_at_call 19; (with_reducible refine (pick_5 f hf _).mono ?_); rintro e w' ⟨rfl, rfl⟩) | fail)
  go_returns
  exact ⟨rfl, below1 W _⟩
set_option maxHeartbeats 1000000 in
theorem three_1 (w f : Nat) (W : World) (hw : w < 4294967296) (hf : f < 8) (g0 : (((cutN w 25 7 : Nat) : Int) == (0 : Int)) = false) (g1 : (((cutN w 25 7 : Nat) : Int) == (1 : Int)) = true)  :
    Calls Try.prog 24 #[.int .u32 w, .int .u32 f] W fun e W' => e = .returned (.int .i64 (row 6 f)) ∧ Below W.heap.size W W' := by
  obtain ⟨hw, hf⟩ := And.intro hw hf
  have l25_7 := lt_25_7 w
  go_enter Try.func24, Try.ntmps24
  go_wp2_with (first | (go_at_call 17; (first | (with_reducible refine (cut_25_7 w _ hw).mono ?_) | fail); rintro e w' ⟨rfl, rfl⟩) | (go_at_call 19; (with_reducible refine (pick_6 f hf _).mono ?_); rintro e w' ⟨rfl, rfl⟩) | fail)
  go_returns
  exact ⟨rfl, below1 W _⟩
set_option maxHeartbeats 1000000 in
theorem three_32 (w f : Nat) (W : World) (hw : w < 4294967296) (hf : f < 8) (g0 : (((cutN w 25 7 : Nat) : Int) == (0 : Int)) = false) (g1 : (((cutN w 25 7 : Nat) : Int) == (1 : Int)) = false) (g2 : (((cutN w 25 7 : Nat) : Int) == (32 : Int)) = true)  :
    Calls Try.prog 24 #[.int .u32 w, .int .u32 f] W fun e W' => e = .returned (.int .i64 (row 7 f)) ∧ Below W.heap.size W W' := by
  obtain ⟨hw, hf⟩ := And.intro hw hf
  have l25_7 := lt_25_7 w
  go_enter Try.func24, Try.ntmps24
  go_wp2_with (first | (go_at_call 17; (first | (with_reducible refine (cut_25_7 w _ hw).mono ?_) | fail); rintro e w' ⟨rfl, rfl⟩) | (go_at_call 19; (with_reducible refine (pick_7 f hf _).mono ?_); rintro e w' ⟨rfl, rfl⟩) | fail)
  go_returns
  exact ⟨rfl, below1 W _⟩
set_option maxHeartbeats 1000000 in
theorem three_n (w f : Nat) (W : World) (hw : w < 4294967296) (hf : f < 8) (g0 : (((cutN w 25 7 : Nat) : Int) == (0 : Int)) = false) (g1 : (((cutN w 25 7 : Nat) : Int) == (1 : Int)) = false) (g2 : (((cutN w 25 7 : Nat) : Int) == (32 : Int)) = false)  :
    Calls Try.prog 24 #[.int .u32 w, .int .u32 f] W fun e W' => e = .returned (.int .i64 0) ∧ Below W.heap.size W W' := by
  obtain ⟨hw, hf⟩ := And.intro hw hf
  have l25_7 := lt_25_7 w
  go_enter Try.func24, Try.ntmps24
  go_wp2_with (first | (go_at_call 17; (first | (with_reducible refine (cut_25_7 w _ hw).mono ?_) | fail); rintro e w' ⟨rfl, rfl⟩) | fail)
  go_returns
  exact ⟨rfl, (Below.refl _ _)⟩
set_option maxHeartbeats 1000000 in
theorem threeW_0 (w f : Nat) (W : World) (hw : w < 4294967296) (hf : f < 8) (g0 : (((cutN w 25 7 : Nat) : Int) == (0 : Int)) = true)  :
    Calls Try.prog 25 #[.int .u32 w, .int .u32 f] W fun e W' => e = .returned (.int .i64 (row 8 f)) ∧ Below W.heap.size W W' := by
  obtain ⟨hw, hf⟩ := And.intro hw hf
  have l25_7 := lt_25_7 w
  go_enter Try.func25, Try.ntmps25
  go_wp2_with (first | (go_at_call 17; (first | (with_reducible refine (cut_25_7 w _ hw).mono ?_) | fail); rintro e w' ⟨rfl, rfl⟩) | (go_at_call 19; (with_reducible refine (pick_8 f hf _).mono ?_); rintro e w' ⟨rfl, rfl⟩) | fail)
  go_returns
  exact ⟨rfl, below1 W _⟩
set_option maxHeartbeats 1000000 in
theorem threeW_1 (w f : Nat) (W : World) (hw : w < 4294967296) (hf : f < 8) (g0 : (((cutN w 25 7 : Nat) : Int) == (0 : Int)) = false) (g1 : (((cutN w 25 7 : Nat) : Int) == (1 : Int)) = true)  :
    Calls Try.prog 25 #[.int .u32 w, .int .u32 f] W fun e W' => e = .returned (.int .i64 (row 9 f)) ∧ Below W.heap.size W W' := by
  obtain ⟨hw, hf⟩ := And.intro hw hf
  have l25_7 := lt_25_7 w
  go_enter Try.func25, Try.ntmps25
  go_wp2_with (first | (go_at_call 17; (first | (with_reducible refine (cut_25_7 w _ hw).mono ?_) | fail); rintro e w' ⟨rfl, rfl⟩) | (go_at_call 19; (with_reducible refine (pick_9 f hf _).mono ?_); rintro e w' ⟨rfl, rfl⟩) | fail)
  go_returns
  exact ⟨rfl, below1 W _⟩
set_option maxHeartbeats 1000000 in
theorem threeW_32 (w f : Nat) (W : World) (hw : w < 4294967296) (hf : f < 8) (g0 : (((cutN w 25 7 : Nat) : Int) == (0 : Int)) = false) (g1 : (((cutN w 25 7 : Nat) : Int) == (1 : Int)) = false) (g2 : (((cutN w 25 7 : Nat) : Int) == (32 : Int)) = true)  :
    Calls Try.prog 25 #[.int .u32 w, .int .u32 f] W fun e W' => e = .returned (.int .i64 (row 10 f)) ∧ Below W.heap.size W W' := by
  obtain ⟨hw, hf⟩ := And.intro hw hf
  have l25_7 := lt_25_7 w
  go_enter Try.func25, Try.ntmps25
  go_wp2_with (first | (go_at_call 17; (first | (with_reducible refine (cut_25_7 w _ hw).mono ?_) | fail); rintro e w' ⟨rfl, rfl⟩) | (go_at_call 19; (with_reducible refine (pick_10 f hf _).mono ?_); rintro e w' ⟨rfl, rfl⟩) | fail)
  go_returns
  exact ⟨rfl, below1 W _⟩
set_option maxHeartbeats 1000000 in
theorem threeW_n (w f : Nat) (W : World) (hw : w < 4294967296) (hf : f < 8) (g0 : (((cutN w 25 7 : Nat) : Int) == (0 : Int)) = false) (g1 : (((cutN w 25 7 : Nat) : Int) == (1 : Int)) = false) (g2 : (((cutN w 25 7 : Nat) : Int) == (32 : Int)) = false)  :
    Calls Try.prog 25 #[.int .u32 w, .int .u32 f] W fun e W' => e = .returned (.int .i64 0) ∧ Below W.heap.size W W' := by
  obtain ⟨hw, hf⟩ := And.intro hw hf
  have l25_7 := lt_25_7 w
  go_enter Try.func25, Try.ntmps25
  go_wp2_with (first | (go_at_call 17; (first | (with_reducible refine (cut_25_7 w _ hw).mono ?_) | fail); rintro e w' ⟨rfl, rfl⟩) | fail)
  go_returns
  exact ⟨rfl, (Below.refl _ _)⟩
set_option maxHeartbeats 1000000 in
theorem rsys_0 (w f : Nat) (W : World) (hw : w < 4294967296) (hf : f < 8) (g0 : (((w : Nat) : Int) == (115 : Int)) = true) (gz : (((f : Nat) : Int) != (0 : Int)) = false) :
    Calls Try.prog 27 #[.int .u32 w, .int .u32 f] W fun e W' => e = .returned (.tuple #[.int .i64 52, .int .i64 0]) ∧ Below W.heap.size W W' := by
  obtain ⟨hw, hf⟩ := And.intro hw hf
  have l20_12 := lt_20_12 w
  have l25_7 := lt_25_7 w
  have l7_5 := lt_7_5 w
  go_enter Try.func27, Try.ntmps27
  go_wp2_with (first | (go_at_call 17; (first | (with_reducible refine (cut_20_12 w _ hw).mono ?_) | (with_reducible refine (cut_25_7 w _ hw).mono ?_) | (with_reducible refine (cut_7_5 w _ hw).mono ?_) | fail); rintro e w' ⟨rfl, rfl⟩) | fail)
  go_returns
  exact ⟨rfl, (Below.refl _ _)⟩
set_option maxHeartbeats 1000000 in
theorem rsys_1 (w f : Nat) (W : World) (hw : w < 4294967296) (hf : f < 8) (g0 : (((w : Nat) : Int) == (115 : Int)) = false) (g1 : (((w : Nat) : Int) == (1048691 : Int)) = true) (gz : (((f : Nat) : Int) != (0 : Int)) = false) :
    Calls Try.prog 27 #[.int .u32 w, .int .u32 f] W fun e W' => e = .returned (.tuple #[.int .i64 53, .int .i64 0]) ∧ Below W.heap.size W W' := by
  obtain ⟨hw, hf⟩ := And.intro hw hf
  have l20_12 := lt_20_12 w
  have l25_7 := lt_25_7 w
  have l7_5 := lt_7_5 w
  go_enter Try.func27, Try.ntmps27
  go_wp2_with (first | (go_at_call 17; (first | (with_reducible refine (cut_20_12 w _ hw).mono ?_) | (with_reducible refine (cut_25_7 w _ hw).mono ?_) | (with_reducible refine (cut_7_5 w _ hw).mono ?_) | fail); rintro e w' ⟨rfl, rfl⟩) | fail)
  go_returns
  exact ⟨rfl, (Below.refl _ _)⟩
set_option maxHeartbeats 1000000 in
theorem rsys_2 (w f : Nat) (W : World) (hw : w < 4294967296) (hf : f < 8) (g0 : (((w : Nat) : Int) == (115 : Int)) = false) (g1 : (((w : Nat) : Int) == (1048691 : Int)) = false) (g2 : (((w : Nat) : Int) == (807403635 : Int)) = true) (gz : (((f : Nat) : Int) != (0 : Int)) = false) :
    Calls Try.prog 27 #[.int .u32 w, .int .u32 f] W fun e W' => e = .returned (.tuple #[.int .i64 95, .int .i64 0]) ∧ Below W.heap.size W W' := by
  obtain ⟨hw, hf⟩ := And.intro hw hf
  have l20_12 := lt_20_12 w
  have l25_7 := lt_25_7 w
  have l7_5 := lt_7_5 w
  go_enter Try.func27, Try.ntmps27
  go_wp2_with (first | (go_at_call 17; (first | (with_reducible refine (cut_20_12 w _ hw).mono ?_) | (with_reducible refine (cut_25_7 w _ hw).mono ?_) | (with_reducible refine (cut_7_5 w _ hw).mono ?_) | fail); rintro e w' ⟨rfl, rfl⟩) | fail)
  go_returns
  exact ⟨rfl, (Below.refl _ _)⟩
set_option maxHeartbeats 1000000 in
theorem rsys_3 (w f : Nat) (W : World) (hw : w < 4294967296) (hf : f < 8) (g0 : (((w : Nat) : Int) == (115 : Int)) = false) (g1 : (((w : Nat) : Int) == (1048691 : Int)) = false) (g2 : (((w : Nat) : Int) == (807403635 : Int)) = false) (g3 : (((w : Nat) : Int) == (270532723 : Int)) = true) (gz : (((f : Nat) : Int) != (0 : Int)) = false) :
    Calls Try.prog 27 #[.int .u32 w, .int .u32 f] W fun e W' => e = .returned (.tuple #[.int .i64 96, .int .i64 0]) ∧ Below W.heap.size W W' := by
  obtain ⟨hw, hf⟩ := And.intro hw hf
  have l20_12 := lt_20_12 w
  have l25_7 := lt_25_7 w
  have l7_5 := lt_7_5 w
  go_enter Try.func27, Try.ntmps27
  go_wp2_with (first | (go_at_call 17; (first | (with_reducible refine (cut_20_12 w _ hw).mono ?_) | (with_reducible refine (cut_25_7 w _ hw).mono ?_) | (with_reducible refine (cut_7_5 w _ hw).mono ?_) | fail); rintro e w' ⟨rfl, rfl⟩) | fail)
  go_returns
  exact ⟨rfl, (Below.refl _ _)⟩
set_option maxHeartbeats 1000000 in
theorem rsys_4 (w f : Nat) (W : World) (hw : w < 4294967296) (hf : f < 8) (g0 : (((w : Nat) : Int) == (115 : Int)) = false) (g1 : (((w : Nat) : Int) == (1048691 : Int)) = false) (g2 : (((w : Nat) : Int) == (807403635 : Int)) = false) (g3 : (((w : Nat) : Int) == (270532723 : Int)) = false) (g4 : (((w : Nat) : Int) == (273678451 : Int)) = true) (gz : (((f : Nat) : Int) != (0 : Int)) = false) :
    Calls Try.prog 27 #[.int .u32 w, .int .u32 f] W fun e W' => e = .returned (.tuple #[.int .i64 97, .int .i64 0]) ∧ Below W.heap.size W W' := by
  obtain ⟨hw, hf⟩ := And.intro hw hf
  have l20_12 := lt_20_12 w
  have l25_7 := lt_25_7 w
  have l7_5 := lt_7_5 w
  go_enter Try.func27, Try.ntmps27
  go_wp2_with (first | (go_at_call 17; (first | (with_reducible refine (cut_20_12 w _ hw).mono ?_) | (with_reducible refine (cut_25_7 w _ hw).mono ?_) | (with_reducible refine (cut_7_5 w _ hw).mono ?_) | fail); rintro e w' ⟨rfl, rfl⟩) | fail)
  go_returns
  exact ⟨rfl, (Below.refl _ _)⟩
set_option maxHeartbeats 1000000 in
theorem rsys_f (w f : Nat) (W : World) (hw : w < 4294967296) (hf : f < 8) (g0 : (((w : Nat) : Int) == (115 : Int)) = false) (g1 : (((w : Nat) : Int) == (1048691 : Int)) = false) (g2 : (((w : Nat) : Int) == (807403635 : Int)) = false) (g3 : (((w : Nat) : Int) == (270532723 : Int)) = false) (g4 : (((w : Nat) : Int) == (273678451 : Int)) = false) (g5 : (((cutN w 25 7 : Nat) : Int) == (9 : Int)) = true) (g6 : (((cutN w 7 5 : Nat) : Int) == (0 : Int)) = true) (gz : (((f : Nat) : Int) != (0 : Int)) = false) :
    Calls Try.prog 27 #[.int .u32 w, .int .u32 f] W fun e W' => e = .returned (.tuple #[.int .i64 98, .int .i64 0]) ∧ Below W.heap.size W W' := by
  obtain ⟨hw, hf⟩ := And.intro hw hf
  have l20_12 := lt_20_12 w
  have l25_7 := lt_25_7 w
  have l7_5 := lt_7_5 w
  go_enter Try.func27, Try.ntmps27
  go_wp2_with (first | (go_at_call 17; (first | (with_reducible refine (cut_20_12 w _ hw).mono ?_) | (with_reducible refine (cut_25_7 w _ hw).mono ?_) | (with_reducible refine (cut_7_5 w _ hw).mono ?_) | fail); rintro e w' ⟨rfl, rfl⟩) | fail)
  go_returns
  exact ⟨rfl, (Below.refl _ _)⟩
set_option maxHeartbeats 1000000 in
theorem rsys_n1 (w f : Nat) (W : World) (hw : w < 4294967296) (hf : f < 8) (g0 : (((w : Nat) : Int) == (115 : Int)) = false) (g1 : (((w : Nat) : Int) == (1048691 : Int)) = false) (g2 : (((w : Nat) : Int) == (807403635 : Int)) = false) (g3 : (((w : Nat) : Int) == (270532723 : Int)) = false) (g4 : (((w : Nat) : Int) == (273678451 : Int)) = false) (g5 : (((cutN w 25 7 : Nat) : Int) == (9 : Int)) = false) (gz : (((f : Nat) : Int) != (0 : Int)) = false) :
    Calls Try.prog 27 #[.int .u32 w, .int .u32 f] W fun e W' => e = .returned (.tuple #[.int .i64 0, .int .i64 0]) ∧ Below W.heap.size W W' := by
  obtain ⟨hw, hf⟩ := And.intro hw hf
  have l20_12 := lt_20_12 w
  have l25_7 := lt_25_7 w
  have l7_5 := lt_7_5 w
  go_enter Try.func27, Try.ntmps27
  go_wp2_with (first | (go_at_call 17; (first | (with_reducible refine (cut_20_12 w _ hw).mono ?_) | (with_reducible refine (cut_25_7 w _ hw).mono ?_) | (with_reducible refine (cut_7_5 w _ hw).mono ?_) | fail); rintro e w' ⟨rfl, rfl⟩) | fail)
  go_returns
  exact ⟨rfl, (Below.refl _ _)⟩
set_option maxHeartbeats 1000000 in
theorem rsys_n2 (w f : Nat) (W : World) (hw : w < 4294967296) (hf : f < 8) (g0 : (((w : Nat) : Int) == (115 : Int)) = false) (g1 : (((w : Nat) : Int) == (1048691 : Int)) = false) (g2 : (((w : Nat) : Int) == (807403635 : Int)) = false) (g3 : (((w : Nat) : Int) == (270532723 : Int)) = false) (g4 : (((w : Nat) : Int) == (273678451 : Int)) = false) (g5 : (((cutN w 25 7 : Nat) : Int) == (9 : Int)) = true) (g6 : (((cutN w 7 5 : Nat) : Int) == (0 : Int)) = false) (gz : (((f : Nat) : Int) != (0 : Int)) = false) :
    Calls Try.prog 27 #[.int .u32 w, .int .u32 f] W fun e W' => e = .returned (.tuple #[.int .i64 0, .int .i64 0]) ∧ Below W.heap.size W W' := by
  obtain ⟨hw, hf⟩ := And.intro hw hf
  have l20_12 := lt_20_12 w
  have l25_7 := lt_25_7 w
  have l7_5 := lt_7_5 w
  go_enter Try.func27, Try.ntmps27
  go_wp2_with (first | (go_at_call 17; (first | (with_reducible refine (cut_20_12 w _ hw).mono ?_) | (with_reducible refine (cut_25_7 w _ hw).mono ?_) | (with_reducible refine (cut_7_5 w _ hw).mono ?_) | fail); rintro e w' ⟨rfl, rfl⟩) | fail)
  go_returns
  exact ⟨rfl, (Below.refl _ _)⟩
set_option maxHeartbeats 1000000 in
theorem rsys_r (w f : Nat) (W : World) (hw : w < 4294967296) (hf : f < 8)  (gz : (((f : Nat) : Int) != (0 : Int)) = true) :
    Calls Try.prog 27 #[.int .u32 w, .int .u32 f] W fun e W' => e = .returned (.tuple #[.int .i64 (row 11 f), .int .i64 (cutN w 20 12 : Nat)]) ∧ Below W.heap.size W W' := by
  obtain ⟨hw, hf⟩ := And.intro hw hf
  have l20_12 := lt_20_12 w
  have l25_7 := lt_25_7 w
  have l7_5 := lt_7_5 w
  go_enter Try.func27, Try.ntmps27
  go_wp2_with (first | (go_at_call 17; (first | (with_reducible refine (cut_20_12 w _ hw).mono ?_) | (with_reducible refine (cut_25_7 w _ hw).mono ?_) | (with_reducible refine (cut_7_5 w _ hw).mono ?_) | fail); rintro e w' ⟨rfl, rfl⟩) | (go_at_call 19; (with_reducible refine (pick_11 f hf _).mono ?_); rintro e w' ⟨rfl, rfl⟩) | fail)
  go_returns
  exact ⟨rfl, below1 W _⟩
set_option maxHeartbeats 1000000 in
theorem ratom_no (w f : Nat) (W : World) (hw : w < 4294967296) (hf : f < 8)  (g2 : (((f : Nat) : Int) != (2 : Int)) = true) (g3 : (((f : Nat) : Int) != (3 : Int)) = true) :
    Calls Try.prog 26 #[.int .u32 w, .int .u32 f] W fun e W' => e = .returned (.int .i64 0) ∧ Below W.heap.size W W' := by
  obtain ⟨hw, hf⟩ := And.intro hw hf
  have l27_5 := lt_27_5 w
  have l20_5 := lt_20_5 w
  go_enter Try.func26, Try.ntmps26
  go_wp2_with (first | (go_at_call 17; (first | (with_reducible refine (cut_27_5 w _ hw).mono ?_) | (with_reducible refine (cut_20_5 w _ hw).mono ?_) | fail); rintro e w' ⟨rfl, rfl⟩) | fail)
  go_returns
  exact ⟨rfl, (Below.refl _ _)⟩
set_option maxHeartbeats 1000000 in
theorem ratom_0_2 (w f : Nat) (W : World) (hw : w < 4294967296) (hf : f < 8) (g0 : (((cutN w 27 5 : Nat) : Int) == (0 : Int)) = true) (g2 : (((f : Nat) : Int) != (2 : Int)) = false) (g3 : (((f : Nat) : Int) == (3 : Int)) = false) :
    Calls Try.prog 26 #[.int .u32 w, .int .u32 f] W fun e W' => e = .returned (.int .i64 76) ∧ Below W.heap.size W W' := by
  obtain ⟨hw, hf⟩ := And.intro hw hf
  have l27_5 := lt_27_5 w
  have l20_5 := lt_20_5 w
  go_enter Try.func26, Try.ntmps26
  go_wp2_with (first | (go_at_call 17; (first | (with_reducible refine (cut_27_5 w _ hw).mono ?_) | (with_reducible refine (cut_20_5 w _ hw).mono ?_) | fail); rintro e w' ⟨rfl, rfl⟩) | fail)
  go_returns
  exact ⟨rfl, (Below.refl _ _)⟩
set_option maxHeartbeats 1000000 in
theorem ratom_0_3 (w f : Nat) (W : World) (hw : w < 4294967296) (hf : f < 8) (g0 : (((cutN w 27 5 : Nat) : Int) == (0 : Int)) = true) (g2 : (((f : Nat) : Int) != (2 : Int)) = true) (g3 : (((f : Nat) : Int) != (3 : Int)) = false) (g4 : (((f : Nat) : Int) == (3 : Int)) = true) :
    Calls Try.prog 26 #[.int .u32 w, .int .u32 f] W fun e W' => e = .returned (.int .i64 87) ∧ Below W.heap.size W W' := by
  obtain ⟨hw, hf⟩ := And.intro hw hf
  have l27_5 := lt_27_5 w
  have l20_5 := lt_20_5 w
  go_enter Try.func26, Try.ntmps26
  go_wp2_with (first | (go_at_call 17; (first | (with_reducible refine (cut_27_5 w _ hw).mono ?_) | (with_reducible refine (cut_20_5 w _ hw).mono ?_) | fail); rintro e w' ⟨rfl, rfl⟩) | fail)
  go_returns
  exact ⟨rfl, (Below.refl _ _)⟩
set_option maxHeartbeats 1000000 in
theorem ratom_1_2 (w f : Nat) (W : World) (hw : w < 4294967296) (hf : f < 8) (g0 : (((cutN w 27 5 : Nat) : Int) == (0 : Int)) = false) (g1 : (((cutN w 27 5 : Nat) : Int) == (1 : Int)) = true) (g2 : (((f : Nat) : Int) != (2 : Int)) = false) (g3 : (((f : Nat) : Int) == (3 : Int)) = false) :
    Calls Try.prog 26 #[.int .u32 w, .int .u32 f] W fun e W' => e = .returned (.int .i64 75) ∧ Below W.heap.size W W' := by
  obtain ⟨hw, hf⟩ := And.intro hw hf
  have l27_5 := lt_27_5 w
  have l20_5 := lt_20_5 w
  go_enter Try.func26, Try.ntmps26
  go_wp2_with (first | (go_at_call 17; (first | (with_reducible refine (cut_27_5 w _ hw).mono ?_) | (with_reducible refine (cut_20_5 w _ hw).mono ?_) | fail); rintro e w' ⟨rfl, rfl⟩) | fail)
  go_returns
  exact ⟨rfl, (Below.refl _ _)⟩
set_option maxHeartbeats 1000000 in
theorem ratom_1_3 (w f : Nat) (W : World) (hw : w < 4294967296) (hf : f < 8) (g0 : (((cutN w 27 5 : Nat) : Int) == (0 : Int)) = false) (g1 : (((cutN w 27 5 : Nat) : Int) == (1 : Int)) = true) (g2 : (((f : Nat) : Int) != (2 : Int)) = true) (g3 : (((f : Nat) : Int) != (3 : Int)) = false) (g4 : (((f : Nat) : Int) == (3 : Int)) = true) :
    Calls Try.prog 26 #[.int .u32 w, .int .u32 f] W fun e W' => e = .returned (.int .i64 86) ∧ Below W.heap.size W W' := by
  obtain ⟨hw, hf⟩ := And.intro hw hf
  have l27_5 := lt_27_5 w
  have l20_5 := lt_20_5 w
  go_enter Try.func26, Try.ntmps26
  go_wp2_with (first | (go_at_call 17; (first | (with_reducible refine (cut_27_5 w _ hw).mono ?_) | (with_reducible refine (cut_20_5 w _ hw).mono ?_) | fail); rintro e w' ⟨rfl, rfl⟩) | fail)
  go_returns
  exact ⟨rfl, (Below.refl _ _)⟩
set_option maxHeartbeats 1000000 in
theorem ratom_2_2 (w f : Nat) (W : World) (hw : w < 4294967296) (hf : f < 8) (g0 : (((cutN w 27 5 : Nat) : Int) == (0 : Int)) = false) (g1 : (((cutN w 27 5 : Nat) : Int) == (1 : Int)) = false) (g2 : (((cutN w 27 5 : Nat) : Int) == (2 : Int)) = true) (g2 : (((f : Nat) : Int) != (2 : Int)) = false) (g3 : (((f : Nat) : Int) == (3 : Int)) = false) (z : (((cutN w 20 5 : Nat) : Int) != (0 : Int)) = false) :
    Calls Try.prog 26 #[.int .u32 w, .int .u32 f] W fun e W' => e = .returned (.int .i64 73) ∧ Below W.heap.size W W' := by
  obtain ⟨hw, hf⟩ := And.intro hw hf
  have l27_5 := lt_27_5 w
  have l20_5 := lt_20_5 w
  go_enter Try.func26, Try.ntmps26
  go_wp2_with (first | (go_at_call 17; (first | (with_reducible refine (cut_27_5 w _ hw).mono ?_) | (with_reducible refine (cut_20_5 w _ hw).mono ?_) | fail); rintro e w' ⟨rfl, rfl⟩) | fail)
  go_returns
  exact ⟨rfl, (Below.refl _ _)⟩
set_option maxHeartbeats 1000000 in
theorem ratom_2n_2 (w f : Nat) (W : World) (hw : w < 4294967296) (hf : f < 8) (g0 : (((cutN w 27 5 : Nat) : Int) == (0 : Int)) = false) (g1 : (((cutN w 27 5 : Nat) : Int) == (1 : Int)) = false) (g2 : (((cutN w 27 5 : Nat) : Int) == (2 : Int)) = true) (g2 : (((f : Nat) : Int) != (2 : Int)) = false) (_ : (((f : Nat) : Int) == (3 : Int)) = false) (z : (((cutN w 20 5 : Nat) : Int) != (0 : Int)) = true) :
    Calls Try.prog 26 #[.int .u32 w, .int .u32 f] W fun e W' => e = .returned (.int .i64 0) ∧ Below W.heap.size W W' := by
  obtain ⟨hw, hf⟩ := And.intro hw hf
  have l27_5 := lt_27_5 w
  have l20_5 := lt_20_5 w
  go_enter Try.func26, Try.ntmps26
  go_wp2_with (first | (go_at_call 17; (first | (with_reducible refine (cut_27_5 w _ hw).mono ?_) | (with_reducible refine (cut_20_5 w _ hw).mono ?_) | fail); rintro e w' ⟨rfl, rfl⟩) | fail)
  go_returns
  exact ⟨rfl, (Below.refl _ _)⟩
set_option maxHeartbeats 1000000 in
theorem ratom_2_3 (w f : Nat) (W : World) (hw : w < 4294967296) (hf : f < 8) (g0 : (((cutN w 27 5 : Nat) : Int) == (0 : Int)) = false) (g1 : (((cutN w 27 5 : Nat) : Int) == (1 : Int)) = false) (g2 : (((cutN w 27 5 : Nat) : Int) == (2 : Int)) = true) (g2 : (((f : Nat) : Int) != (2 : Int)) = true) (g3 : (((f : Nat) : Int) != (3 : Int)) = false) (g4 : (((f : Nat) : Int) == (3 : Int)) = true) (z : (((cutN w 20 5 : Nat) : Int) != (0 : Int)) = false) :
    Calls Try.prog 26 #[.int .u32 w, .int .u32 f] W fun e W' => e = .returned (.int .i64 84) ∧ Below W.heap.size W W' := by
  obtain ⟨hw, hf⟩ := And.intro hw hf
  have l27_5 := lt_27_5 w
  have l20_5 := lt_20_5 w
  go_enter Try.func26, Try.ntmps26
  go_wp2_with (first | (go_at_call 17; (first | (with_reducible refine (cut_27_5 w _ hw).mono ?_) | (with_reducible refine (cut_20_5 w _ hw).mono ?_) | fail); rintro e w' ⟨rfl, rfl⟩) | fail)
  go_returns
  exact ⟨rfl, (Below.refl _ _)⟩
set_option maxHeartbeats 1000000 in
theorem ratom_2n_3 (w f : Nat) (W : World) (hw : w < 4294967296) (hf : f < 8) (g0 : (((cutN w 27 5 : Nat) : Int) == (0 : Int)) = false) (g1 : (((cutN w 27 5 : Nat) : Int) == (1 : Int)) = false) (g2 : (((cutN w 27 5 : Nat) : Int) == (2 : Int)) = true) (g2 : (((f : Nat) : Int) != (2 : Int)) = true) (g3 : (((f : Nat) : Int) != (3 : Int)) = false) (_ : (((f : Nat) : Int) == (3 : Int)) = true) (z : (((cutN w 20 5 : Nat) : Int) != (0 : Int)) = true) :
    Calls Try.prog 26 #[.int .u32 w, .int .u32 f] W fun e W' => e = .returned (.int .i64 0) ∧ Below W.heap.size W W' := by
  obtain ⟨hw, hf⟩ := And.intro hw hf
  have l27_5 := lt_27_5 w
  have l20_5 := lt_20_5 w
  go_enter Try.func26, Try.ntmps26
  go_wp2_with (first | (go_at_call 17; (first | (with_reducible refine (cut_27_5 w _ hw).mono ?_) | (with_reducible refine (cut_20_5 w _ hw).mono ?_) | fail); rintro e w' ⟨rfl, rfl⟩) | fail)
  go_returns
  exact ⟨rfl, (Below.refl _ _)⟩
set_option maxHeartbeats 1000000 in
theorem ratom_3_2 (w f : Nat) (W : World) (hw : w < 4294967296) (hf : f < 8) (g0 : (((cutN w 27 5 : Nat) : Int) == (0 : Int)) = false) (g1 : (((cutN w 27 5 : Nat) : Int) == (1 : Int)) = false) (g2 : (((cutN w 27 5 : Nat) : Int) == (2 : Int)) = false) (g3 : (((cutN w 27 5 : Nat) : Int) == (3 : Int)) = true) (g2 : (((f : Nat) : Int) != (2 : Int)) = false) (g3 : (((f : Nat) : Int) == (3 : Int)) = false) :
    Calls Try.prog 26 #[.int .u32 w, .int .u32 f] W fun e W' => e = .returned (.int .i64 74) ∧ Below W.heap.size W W' := by
  obtain ⟨hw, hf⟩ := And.intro hw hf
  have l27_5 := lt_27_5 w
  have l20_5 := lt_20_5 w
  go_enter Try.func26, Try.ntmps26
  go_wp2_with (first | (go_at_call 17; (first | (with_reducible refine (cut_27_5 w _ hw).mono ?_) | (with_reducible refine (cut_20_5 w _ hw).mono ?_) | fail); rintro e w' ⟨rfl, rfl⟩) | fail)
  go_returns
  exact ⟨rfl, (Below.refl _ _)⟩
set_option maxHeartbeats 1000000 in
theorem ratom_3_3 (w f : Nat) (W : World) (hw : w < 4294967296) (hf : f < 8) (g0 : (((cutN w 27 5 : Nat) : Int) == (0 : Int)) = false) (g1 : (((cutN w 27 5 : Nat) : Int) == (1 : Int)) = false) (g2 : (((cutN w 27 5 : Nat) : Int) == (2 : Int)) = false) (g3 : (((cutN w 27 5 : Nat) : Int) == (3 : Int)) = true) (g2 : (((f : Nat) : Int) != (2 : Int)) = true) (g3 : (((f : Nat) : Int) != (3 : Int)) = false) (g4 : (((f : Nat) : Int) == (3 : Int)) = true) :
    Calls Try.prog 26 #[.int .u32 w, .int .u32 f] W fun e W' => e = .returned (.int .i64 85) ∧ Below W.heap.size W W' := by
  obtain ⟨hw, hf⟩ := And.intro hw hf
  have l27_5 := lt_27_5 w
  have l20_5 := lt_20_5 w
  go_enter Try.func26, Try.ntmps26
  go_wp2_with (first | (go_at_call 17; (first | (with_reducible refine (cut_27_5 w _ hw).mono ?_) | (with_reducible refine (cut_20_5 w _ hw).mono ?_) | fail); rintro e w' ⟨rfl, rfl⟩) | fail)
  go_returns
  exact ⟨rfl, (Below.refl _ _)⟩
set_option maxHeartbeats 1000000 in
theorem ratom_4_2 (w f : Nat) (W : World) (hw : w < 4294967296) (hf : f < 8) (g0 : (((cutN w 27 5 : Nat) : Int) == (0 : Int)) = false) (g1 : (((cutN w 27 5 : Nat) : Int) == (1 : Int)) = false) (g2 : (((cutN w 27 5 : Nat) : Int) == (2 : Int)) = false) (g3 : (((cutN w 27 5 : Nat) : Int) == (3 : Int)) = false) (g4 : (((cutN w 27 5 : Nat) : Int) == (4 : Int)) = true) (g2 : (((f : Nat) : Int) != (2 : Int)) = false) (g3 : (((f : Nat) : Int) == (3 : Int)) = false) :
    Calls Try.prog 26 #[.int .u32 w, .int .u32 f] W fun e W' => e = .returned (.int .i64 77) ∧ Below W.heap.size W W' := by
  obtain ⟨hw, hf⟩ := And.intro hw hf
  have l27_5 := lt_27_5 w
  have l20_5 := lt_20_5 w
  go_enter Try.func26, Try.ntmps26
  go_wp2_with (first | (go_at_call 17; (first | (with_reducible refine (cut_27_5 w _ hw).mono ?_) | (with_reducible refine (cut_20_5 w _ hw).mono ?_) | fail); rintro e w' ⟨rfl, rfl⟩) | fail)
  go_returns
  exact ⟨rfl, (Below.refl _ _)⟩
set_option maxHeartbeats 1000000 in
theorem ratom_4_3 (w f : Nat) (W : World) (hw : w < 4294967296) (hf : f < 8) (g0 : (((cutN w 27 5 : Nat) : Int) == (0 : Int)) = false) (g1 : (((cutN w 27 5 : Nat) : Int) == (1 : Int)) = false) (g2 : (((cutN w 27 5 : Nat) : Int) == (2 : Int)) = false) (g3 : (((cutN w 27 5 : Nat) : Int) == (3 : Int)) = false) (g4 : (((cutN w 27 5 : Nat) : Int) == (4 : Int)) = true) (g2 : (((f : Nat) : Int) != (2 : Int)) = true) (g3 : (((f : Nat) : Int) != (3 : Int)) = false) (g4 : (((f : Nat) : Int) == (3 : Int)) = true) :
    Calls Try.prog 26 #[.int .u32 w, .int .u32 f] W fun e W' => e = .returned (.int .i64 88) ∧ Below W.heap.size W W' := by
  obtain ⟨hw, hf⟩ := And.intro hw hf
  have l27_5 := lt_27_5 w
  have l20_5 := lt_20_5 w
  go_enter Try.func26, Try.ntmps26
  go_wp2_with (first | (go_at_call 17; (first | (with_reducible refine (cut_27_5 w _ hw).mono ?_) | (with_reducible refine (cut_20_5 w _ hw).mono ?_) | fail); rintro e w' ⟨rfl, rfl⟩) | fail)
  go_returns
  exact ⟨rfl, (Below.refl _ _)⟩
set_option maxHeartbeats 1000000 in
theorem ratom_8_2 (w f : Nat) (W : World) (hw : w < 4294967296) (hf : f < 8) (g0 : (((cutN w 27 5 : Nat) : Int) == (0 : Int)) = false) (g1 : (((cutN w 27 5 : Nat) : Int) == (1 : Int)) = false) (g2 : (((cutN w 27 5 : Nat) : Int) == (2 : Int)) = false) (g3 : (((cutN w 27 5 : Nat) : Int) == (3 : Int)) = false) (g4 : (((cutN w 27 5 : Nat) : Int) == (4 : Int)) = false) (g5 : (((cutN w 27 5 : Nat) : Int) == (8 : Int)) = true) (g2 : (((f : Nat) : Int) != (2 : Int)) = false) (g3 : (((f : Nat) : Int) == (3 : Int)) = false) :
    Calls Try.prog 26 #[.int .u32 w, .int .u32 f] W fun e W' => e = .returned (.int .i64 79) ∧ Below W.heap.size W W' := by
  obtain ⟨hw, hf⟩ := And.intro hw hf
  have l27_5 := lt_27_5 w
  have l20_5 := lt_20_5 w
  go_enter Try.func26, Try.ntmps26
  go_wp2_with (first | (go_at_call 17; (first | (with_reducible refine (cut_27_5 w _ hw).mono ?_) | (with_reducible refine (cut_20_5 w _ hw).mono ?_) | fail); rintro e w' ⟨rfl, rfl⟩) | fail)
  go_returns
  exact ⟨rfl, (Below.refl _ _)⟩
set_option maxHeartbeats 1000000 in
theorem ratom_8_3 (w f : Nat) (W : World) (hw : w < 4294967296) (hf : f < 8) (g0 : (((cutN w 27 5 : Nat) : Int) == (0 : Int)) = false) (g1 : (((cutN w 27 5 : Nat) : Int) == (1 : Int)) = false) (g2 : (((cutN w 27 5 : Nat) : Int) == (2 : Int)) = false) (g3 : (((cutN w 27 5 : Nat) : Int) == (3 : Int)) = false) (g4 : (((cutN w 27 5 : Nat) : Int) == (4 : Int)) = false) (g5 : (((cutN w 27 5 : Nat) : Int) == (8 : Int)) = true) (g2 : (((f : Nat) : Int) != (2 : Int)) = true) (g3 : (((f : Nat) : Int) != (3 : Int)) = false) (g4 : (((f : Nat) : Int) == (3 : Int)) = true) :
    Calls Try.prog 26 #[.int .u32 w, .int .u32 f] W fun e W' => e = .returned (.int .i64 90) ∧ Below W.heap.size W W' := by
  obtain ⟨hw, hf⟩ := And.intro hw hf
  have l27_5 := lt_27_5 w
  have l20_5 := lt_20_5 w
  go_enter Try.func26, Try.ntmps26
  go_wp2_with (first | (go_at_call 17; (first | (with_reducible refine (cut_27_5 w _ hw).mono ?_) | (with_reducible refine (cut_20_5 w _ hw).mono ?_) | fail); rintro e w' ⟨rfl, rfl⟩) | fail)
  go_returns
  exact ⟨rfl, (Below.refl _ _)⟩
set_option maxHeartbeats 1000000 in
theorem ratom_12_2 (w f : Nat) (W : World) (hw : w < 4294967296) (hf : f < 8) (g0 : (((cutN w 27 5 : Nat) : Int) == (0 : Int)) = false) (g1 : (((cutN w 27 5 : Nat) : Int) == (1 : Int)) = false) (g2 : (((cutN w 27 5 : Nat) : Int) == (2 : Int)) = false) (g3 : (((cutN w 27 5 : Nat) : Int) == (3 : Int)) = false) (g4 : (((cutN w 27 5 : Nat) : Int) == (4 : Int)) = false) (g5 : (((cutN w 27 5 : Nat) : Int) == (8 : Int)) = false) (g6 : (((cutN w 27 5 : Nat) : Int) == (12 : Int)) = true) (g2 : (((f : Nat) : Int) != (2 : Int)) = false) (g3 : (((f : Nat) : Int) == (3 : Int)) = false) :
    Calls Try.prog 26 #[.int .u32 w, .int .u32 f] W fun e W' => e = .returned (.int .i64 78) ∧ Below W.heap.size W W' := by
  obtain ⟨hw, hf⟩ := And.intro hw hf
  have l27_5 := lt_27_5 w
  have l20_5 := lt_20_5 w
  go_enter Try.func26, Try.ntmps26
  go_wp2_with (first | (go_at_call 17; (first | (with_reducible refine (cut_27_5 w _ hw).mono ?_) | (with_reducible refine (cut_20_5 w _ hw).mono ?_) | fail); rintro e w' ⟨rfl, rfl⟩) | fail)
  go_returns
  exact ⟨rfl, (Below.refl _ _)⟩
set_option maxHeartbeats 1000000 in
theorem ratom_12_3 (w f : Nat) (W : World) (hw : w < 4294967296) (hf : f < 8) (g0 : (((cutN w 27 5 : Nat) : Int) == (0 : Int)) = false) (g1 : (((cutN w 27 5 : Nat) : Int) == (1 : Int)) = false) (g2 : (((cutN w 27 5 : Nat) : Int) == (2 : Int)) = false) (g3 : (((cutN w 27 5 : Nat) : Int) == (3 : Int)) = false) (g4 : (((cutN w 27 5 : Nat) : Int) == (4 : Int)) = false) (g5 : (((cutN w 27 5 : Nat) : Int) == (8 : Int)) = false) (g6 : (((cutN w 27 5 : Nat) : Int) == (12 : Int)) = true) (g2 : (((f : Nat) : Int) != (2 : Int)) = true) (g3 : (((f : Nat) : Int) != (3 : Int)) = false) (g4 : (((f : Nat) : Int) == (3 : Int)) = true) :
    Calls Try.prog 26 #[.int .u32 w, .int .u32 f] W fun e W' => e = .returned (.int .i64 89) ∧ Below W.heap.size W W' := by
  obtain ⟨hw, hf⟩ := And.intro hw hf
  have l27_5 := lt_27_5 w
  have l20_5 := lt_20_5 w
  go_enter Try.func26, Try.ntmps26
  go_wp2_with (first | (go_at_call 17; (first | (with_reducible refine (cut_27_5 w _ hw).mono ?_) | (with_reducible refine (cut_20_5 w _ hw).mono ?_) | fail); rintro e w' ⟨rfl, rfl⟩) | fail)
  go_returns
  exact ⟨rfl, (Below.refl _ _)⟩
set_option maxHeartbeats 1000000 in
theorem ratom_16_2 (w f : Nat) (W : World) (hw : w < 4294967296) (hf : f < 8) (g0 : (((cutN w 27 5 : Nat) : Int) == (0 : Int)) = false) (g1 : (((cutN w 27 5 : Nat) : Int) == (1 : Int)) = false) (g2 : (((cutN w 27 5 : Nat) : Int) == (2 : Int)) = false) (g3 : (((cutN w 27 5 : Nat) : Int) == (3 : Int)) = false) (g4 : (((cutN w 27 5 : Nat) : Int) == (4 : Int)) = false) (g5 : (((cutN w 27 5 : Nat) : Int) == (8 : Int)) = false) (g6 : (((cutN w 27 5 : Nat) : Int) == (12 : Int)) = false) (g7 : (((cutN w 27 5 : Nat) : Int) == (16 : Int)) = true) (g2 : (((f : Nat) : Int) != (2 : Int)) = false) (g3 : (((f : Nat) : Int) == (3 : Int)) = false) :
    Calls Try.prog 26 #[.int .u32 w, .int .u32 f] W fun e W' => e = .returned (.int .i64 80) ∧ Below W.heap.size W W' := by
  obtain ⟨hw, hf⟩ := And.intro hw hf
  have l27_5 := lt_27_5 w
  have l20_5 := lt_20_5 w
  go_enter Try.func26, Try.ntmps26
  go_wp2_with (first | (go_at_call 17; (first | (with_reducible refine (cut_27_5 w _ hw).mono ?_) | (with_reducible refine (cut_20_5 w _ hw).mono ?_) | fail); rintro e w' ⟨rfl, rfl⟩) | fail)
  go_returns
  exact ⟨rfl, (Below.refl _ _)⟩
set_option maxHeartbeats 1000000 in
theorem ratom_16_3 (w f : Nat) (W : World) (hw : w < 4294967296) (hf : f < 8) (g0 : (((cutN w 27 5 : Nat) : Int) == (0 : Int)) = false) (g1 : (((cutN w 27 5 : Nat) : Int) == (1 : Int)) = false) (g2 : (((cutN w 27 5 : Nat) : Int) == (2 : Int)) = false) (g3 : (((cutN w 27 5 : Nat) : Int) == (3 : Int)) = false) (g4 : (((cutN w 27 5 : Nat) : Int) == (4 : Int)) = false) (g5 : (((cutN w 27 5 : Nat) : Int) == (8 : Int)) = false) (g6 : (((cutN w 27 5 : Nat) : Int) == (12 : Int)) = false) (g7 : (((cutN w 27 5 : Nat) : Int) == (16 : Int)) = true) (g2 : (((f : Nat) : Int) != (2 : Int)) = true) (g3 : (((f : Nat) : Int) != (3 : Int)) = false) (g4 : (((f : Nat) : Int) == (3 : Int)) = true) :
    Calls Try.prog 26 #[.int .u32 w, .int .u32 f] W fun e W' => e = .returned (.int .i64 91) ∧ Below W.heap.size W W' := by
  obtain ⟨hw, hf⟩ := And.intro hw hf
  have l27_5 := lt_27_5 w
  have l20_5 := lt_20_5 w
  go_enter Try.func26, Try.ntmps26
  go_wp2_with (first | (go_at_call 17; (first | (with_reducible refine (cut_27_5 w _ hw).mono ?_) | (with_reducible refine (cut_20_5 w _ hw).mono ?_) | fail); rintro e w' ⟨rfl, rfl⟩) | fail)
  go_returns
  exact ⟨rfl, (Below.refl _ _)⟩
set_option maxHeartbeats 1000000 in
theorem ratom_20_2 (w f : Nat) (W : World) (hw : w < 4294967296) (hf : f < 8) (g0 : (((cutN w 27 5 : Nat) : Int) == (0 : Int)) = false) (g1 : (((cutN w 27 5 : Nat) : Int) == (1 : Int)) = false) (g2 : (((cutN w 27 5 : Nat) : Int) == (2 : Int)) = false) (g3 : (((cutN w 27 5 : Nat) : Int) == (3 : Int)) = false) (g4 : (((cutN w 27 5 : Nat) : Int) == (4 : Int)) = false) (g5 : (((cutN w 27 5 : Nat) : Int) == (8 : Int)) = false) (g6 : (((cutN w 27 5 : Nat) : Int) == (12 : Int)) = false) (g7 : (((cutN w 27 5 : Nat) : Int) == (16 : Int)) = false) (g8 : (((cutN w 27 5 : Nat) : Int) == (20 : Int)) = true) (g2 : (((f : Nat) : Int) != (2 : Int)) = false) (g3 : (((f : Nat) : Int) == (3 : Int)) = false) :
    Calls Try.prog 26 #[.int .u32 w, .int .u32 f] W fun e W' => e = .returned (.int .i64 81) ∧ Below W.heap.size W W' := by
  obtain ⟨hw, hf⟩ := And.intro hw hf
  have l27_5 := lt_27_5 w
  have l20_5 := lt_20_5 w
  go_enter Try.func26, Try.ntmps26
  go_wp2_with (first | (go_at_call 17; (first | (with_reducible refine (cut_27_5 w _ hw).mono ?_) | (with_reducible refine (cut_20_5 w _ hw).mono ?_) | fail); rintro e w' ⟨rfl, rfl⟩) | fail)
  go_returns
  exact ⟨rfl, (Below.refl _ _)⟩
set_option maxHeartbeats 1000000 in
theorem ratom_20_3 (w f : Nat) (W : World) (hw : w < 4294967296) (hf : f < 8) (g0 : (((cutN w 27 5 : Nat) : Int) == (0 : Int)) = false) (g1 : (((cutN w 27 5 : Nat) : Int) == (1 : Int)) = false) (g2 : (((cutN w 27 5 : Nat) : Int) == (2 : Int)) = false) (g3 : (((cutN w 27 5 : Nat) : Int) == (3 : Int)) = false) (g4 : (((cutN w 27 5 : Nat) : Int) == (4 : Int)) = false) (g5 : (((cutN w 27 5 : Nat) : Int) == (8 : Int)) = false) (g6 : (((cutN w 27 5 : Nat) : Int) == (12 : Int)) = false) (g7 : (((cutN w 27 5 : Nat) : Int) == (16 : Int)) = false) (g8 : (((cutN w 27 5 : Nat) : Int) == (20 : Int)) = true) (g2 : (((f : Nat) : Int) != (2 : Int)) = true) (g3 : (((f : Nat) : Int) != (3 : Int)) = false) (g4 : (((f : Nat) : Int) == (3 : Int)) = true) :
    Calls Try.prog 26 #[.int .u32 w, .int .u32 f] W fun e W' => e = .returned (.int .i64 92) ∧ Below W.heap.size W W' := by
  obtain ⟨hw, hf⟩ := And.intro hw hf
  have l27_5 := lt_27_5 w
  have l20_5 := lt_20_5 w
  go_enter Try.func26, Try.ntmps26
  go_wp2_with (first | (go_at_call 17; (first | (with_reducible refine (cut_27_5 w _ hw).mono ?_) | (with_reducible refine (cut_20_5 w _ hw).mono ?_) | fail); rintro e w' ⟨rfl, rfl⟩) | fail)
  go_returns
  exact ⟨rfl, (Below.refl _ _)⟩
set_option maxHeartbeats 1000000 in
theorem ratom_24_2 (w f : Nat) (W : World) (hw : w < 4294967296) (hf : f < 8) (g0 : (((cutN w 27 5 : Nat) : Int) == (0 : Int)) = false) (g1 : (((cutN w 27 5 : Nat) : Int) == (1 : Int)) = false) (g2 : (((cutN w 27 5 : Nat) : Int) == (2 : Int)) = false) (g3 : (((cutN w 27 5 : Nat) : Int) == (3 : Int)) = false) (g4 : (((cutN w 27 5 : Nat) : Int) == (4 : Int)) = false) (g5 : (((cutN w 27 5 : Nat) : Int) == (8 : Int)) = false) (g6 : (((cutN w 27 5 : Nat) : Int) == (12 : Int)) = false) (g7 : (((cutN w 27 5 : Nat) : Int) == (16 : Int)) = false) (g8 : (((cutN w 27 5 : Nat) : Int) == (20 : Int)) = false) (g9 : (((cutN w 27 5 : Nat) : Int) == (24 : Int)) = true) (g2 : (((f : Nat) : Int) != (2 : Int)) = false) (g3 : (((f : Nat) : Int) == (3 : Int)) = false) :
    Calls Try.prog 26 #[.int .u32 w, .int .u32 f] W fun e W' => e = .returned (.int .i64 82) ∧ Below W.heap.size W W' := by
  obtain ⟨hw, hf⟩ := And.intro hw hf
  have l27_5 := lt_27_5 w
  have l20_5 := lt_20_5 w
  go_enter Try.func26, Try.ntmps26
  go_wp2_with (first | (go_at_call 17; (first | (with_reducible refine (cut_27_5 w _ hw).mono ?_) | (with_reducible refine (cut_20_5 w _ hw).mono ?_) | fail); rintro e w' ⟨rfl, rfl⟩) | fail)
  go_returns
  exact ⟨rfl, (Below.refl _ _)⟩
set_option maxHeartbeats 1000000 in
theorem ratom_24_3 (w f : Nat) (W : World) (hw : w < 4294967296) (hf : f < 8) (g0 : (((cutN w 27 5 : Nat) : Int) == (0 : Int)) = false) (g1 : (((cutN w 27 5 : Nat) : Int) == (1 : Int)) = false) (g2 : (((cutN w 27 5 : Nat) : Int) == (2 : Int)) = false) (g3 : (((cutN w 27 5 : Nat) : Int) == (3 : Int)) = false) (g4 : (((cutN w 27 5 : Nat) : Int) == (4 : Int)) = false) (g5 : (((cutN w 27 5 : Nat) : Int) == (8 : Int)) = false) (g6 : (((cutN w 27 5 : Nat) : Int) == (12 : Int)) = false) (g7 : (((cutN w 27 5 : Nat) : Int) == (16 : Int)) = false) (g8 : (((cutN w 27 5 : Nat) : Int) == (20 : Int)) = false) (g9 : (((cutN w 27 5 : Nat) : Int) == (24 : Int)) = true) (g2 : (((f : Nat) : Int) != (2 : Int)) = true) (g3 : (((f : Nat) : Int) != (3 : Int)) = false) (g4 : (((f : Nat) : Int) == (3 : Int)) = true) :
    Calls Try.prog 26 #[.int .u32 w, .int .u32 f] W fun e W' => e = .returned (.int .i64 93) ∧ Below W.heap.size W W' := by
  obtain ⟨hw, hf⟩ := And.intro hw hf
  have l27_5 := lt_27_5 w
  have l20_5 := lt_20_5 w
  go_enter Try.func26, Try.ntmps26
  go_wp2_with (first | (go_at_call 17; (first | (with_reducible refine (cut_27_5 w _ hw).mono ?_) | (with_reducible refine (cut_20_5 w _ hw).mono ?_) | fail); rintro e w' ⟨rfl, rfl⟩) | fail)
  go_returns
  exact ⟨rfl, (Below.refl _ _)⟩
set_option maxHeartbeats 1000000 in
theorem ratom_28_2 (w f : Nat) (W : World) (hw : w < 4294967296) (hf : f < 8) (g0 : (((cutN w 27 5 : Nat) : Int) == (0 : Int)) = false) (g1 : (((cutN w 27 5 : Nat) : Int) == (1 : Int)) = false) (g2 : (((cutN w 27 5 : Nat) : Int) == (2 : Int)) = false) (g3 : (((cutN w 27 5 : Nat) : Int) == (3 : Int)) = false) (g4 : (((cutN w 27 5 : Nat) : Int) == (4 : Int)) = false) (g5 : (((cutN w 27 5 : Nat) : Int) == (8 : Int)) = false) (g6 : (((cutN w 27 5 : Nat) : Int) == (12 : Int)) = false) (g7 : (((cutN w 27 5 : Nat) : Int) == (16 : Int)) = false) (g8 : (((cutN w 27 5 : Nat) : Int) == (20 : Int)) = false) (g9 : (((cutN w 27 5 : Nat) : Int) == (24 : Int)) = false) (g10 : (((cutN w 27 5 : Nat) : Int) == (28 : Int)) = true) (g2 : (((f : Nat) : Int) != (2 : Int)) = false) (g3 : (((f : Nat) : Int) == (3 : Int)) = false) :
    Calls Try.prog 26 #[.int .u32 w, .int .u32 f] W fun e W' => e = .returned (.int .i64 83) ∧ Below W.heap.size W W' := by
  obtain ⟨hw, hf⟩ := And.intro hw hf
  have l27_5 := lt_27_5 w
  have l20_5 := lt_20_5 w
  go_enter Try.func26, Try.ntmps26
  go_wp2_with (first | (go_at_call 17; (first | (with_reducible refine (cut_27_5 w _ hw).mono ?_) | (with_reducible refine (cut_20_5 w _ hw).mono ?_) | fail); rintro e w' ⟨rfl, rfl⟩) | fail)
  go_returns
  exact ⟨rfl, (Below.refl _ _)⟩
set_option maxHeartbeats 1000000 in
theorem ratom_28_3 (w f : Nat) (W : World) (hw : w < 4294967296) (hf : f < 8) (g0 : (((cutN w 27 5 : Nat) : Int) == (0 : Int)) = false) (g1 : (((cutN w 27 5 : Nat) : Int) == (1 : Int)) = false) (g2 : (((cutN w 27 5 : Nat) : Int) == (2 : Int)) = false) (g3 : (((cutN w 27 5 : Nat) : Int) == (3 : Int)) = false) (g4 : (((cutN w 27 5 : Nat) : Int) == (4 : Int)) = false) (g5 : (((cutN w 27 5 : Nat) : Int) == (8 : Int)) = false) (g6 : (((cutN w 27 5 : Nat) : Int) == (12 : Int)) = false) (g7 : (((cutN w 27 5 : Nat) : Int) == (16 : Int)) = false) (g8 : (((cutN w 27 5 : Nat) : Int) == (20 : Int)) = false) (g9 : (((cutN w 27 5 : Nat) : Int) == (24 : Int)) = false) (g10 : (((cutN w 27 5 : Nat) : Int) == (28 : Int)) = true) (g2 : (((f : Nat) : Int) != (2 : Int)) = true) (g3 : (((f : Nat) : Int) != (3 : Int)) = false) (g4 : (((f : Nat) : Int) == (3 : Int)) = true) :
    Calls Try.prog 26 #[.int .u32 w, .int .u32 f] W fun e W' => e = .returned (.int .i64 94) ∧ Below W.heap.size W W' := by
  obtain ⟨hw, hf⟩ := And.intro hw hf
  have l27_5 := lt_27_5 w
  have l20_5 := lt_20_5 w
  go_enter Try.func26, Try.ntmps26
  go_wp2_with (first | (go_at_call 17; (first | (with_reducible refine (cut_27_5 w _ hw).mono ?_) | (with_reducible refine (cut_20_5 w _ hw).mono ?_) | fail); rintro e w' ⟨rfl, rfl⟩) | fail)
  go_returns
  exact ⟨rfl, (Below.refl _ _)⟩
set_option maxHeartbeats 1000000 in
theorem ratom_n_2 (w f : Nat) (W : World) (hw : w < 4294967296) (hf : f < 8) (g0 : (((cutN w 27 5 : Nat) : Int) == (0 : Int)) = false) (g1 : (((cutN w 27 5 : Nat) : Int) == (1 : Int)) = false) (g2 : (((cutN w 27 5 : Nat) : Int) == (2 : Int)) = false) (_ : (((cutN w 27 5 : Nat) : Int) == (3 : Int)) = false) (g4 : (((cutN w 27 5 : Nat) : Int) == (4 : Int)) = false) (g5 : (((cutN w 27 5 : Nat) : Int) == (8 : Int)) = false) (g6 : (((cutN w 27 5 : Nat) : Int) == (12 : Int)) = false) (g7 : (((cutN w 27 5 : Nat) : Int) == (16 : Int)) = false) (g8 : (((cutN w 27 5 : Nat) : Int) == (20 : Int)) = false) (g9 : (((cutN w 27 5 : Nat) : Int) == (24 : Int)) = false) (g10 : (((cutN w 27 5 : Nat) : Int) == (28 : Int)) = false) (g2 : (((f : Nat) : Int) != (2 : Int)) = false) (_ : (((f : Nat) : Int) == (3 : Int)) = false) :
    Calls Try.prog 26 #[.int .u32 w, .int .u32 f] W fun e W' => e = .returned (.int .i64 0) ∧ Below W.heap.size W W' := by
  obtain ⟨hw, hf⟩ := And.intro hw hf
  have l27_5 := lt_27_5 w
  have l20_5 := lt_20_5 w
  go_enter Try.func26, Try.ntmps26
  go_wp2_with (first | (go_at_call 17; (first | (with_reducible refine (cut_27_5 w _ hw).mono ?_) | (with_reducible refine (cut_20_5 w _ hw).mono ?_) | fail); rintro e w' ⟨rfl, rfl⟩) | fail)
  go_returns
  exact ⟨rfl, (Below.refl _ _)⟩
set_option maxHeartbeats 1000000 in
theorem ratom_n_3 (w f : Nat) (W : World) (hw : w < 4294967296) (hf : f < 8) (g0 : (((cutN w 27 5 : Nat) : Int) == (0 : Int)) = false) (g1 : (((cutN w 27 5 : Nat) : Int) == (1 : Int)) = false) (g2 : (((cutN w 27 5 : Nat) : Int) == (2 : Int)) = false) (g3 : (((cutN w 27 5 : Nat) : Int) == (3 : Int)) = false) (_ : (((cutN w 27 5 : Nat) : Int) == (4 : Int)) = false) (g5 : (((cutN w 27 5 : Nat) : Int) == (8 : Int)) = false) (g6 : (((cutN w 27 5 : Nat) : Int) == (12 : Int)) = false) (g7 : (((cutN w 27 5 : Nat) : Int) == (16 : Int)) = false) (g8 : (((cutN w 27 5 : Nat) : Int) == (20 : Int)) = false) (g9 : (((cutN w 27 5 : Nat) : Int) == (24 : Int)) = false) (g10 : (((cutN w 27 5 : Nat) : Int) == (28 : Int)) = false) (g2 : (((f : Nat) : Int) != (2 : Int)) = true) (g3 : (((f : Nat) : Int) != (3 : Int)) = false) (_ : (((f : Nat) : Int) == (3 : Int)) = true) :
    Calls Try.prog 26 #[.int .u32 w, .int .u32 f] W fun e W' => e = .returned (.int .i64 0) ∧ Below W.heap.size W W' := by
  obtain ⟨hw, hf⟩ := And.intro hw hf
  have l27_5 := lt_27_5 w
  have l20_5 := lt_20_5 w
  go_enter Try.func26, Try.ntmps26
  go_wp2_with (first | (go_at_call 17; (first | (with_reducible refine (cut_27_5 w _ hw).mono ?_) | (with_reducible refine (cut_20_5 w _ hw).mono ?_) | fail); rintro e w' ⟨rfl, rfl⟩) | fail)
  go_returns
  exact ⟨rfl, (Below.refl _ _)⟩
end Go.Proofs.Ytdodbfpahmkpbaa
