/- known, may and Read of the reference. -/
import Derived.Test.YthchakfffenoiaaA
namespace Go.Proofs.Ythchakfffenoiaa
open Go.RowKit Go.Deep Go.Joins
set_option maxHeartbeats 1000000 in
theorem known_100 (c : Reg) (l k : Int) (W : World) : Calls Try.prog 24 #[regV c, .int .i64 256, .int .u64 l, .int .u64 k] W fun e W' => e = .returned (.tuple #[.int .u64 (bits .and .u64 c.s0 786722), .bool true]) ∧ W.alloc (boxO c) = W' := by
  go_enter Try.func24, Try.ntmps24
  go_wp2
  all_goals go_ret2
  all_goals exact ⟨rfl, rfl⟩
set_option maxHeartbeats 1000000 in
theorem known_104 (c : Reg) (l k : Int) (W : World) : Calls Try.prog 24 #[regV c, .int .i64 260, .int .u64 l, .int .u64 k] W fun e W' => e = .returned (.tuple #[.int .u64 (bits .and .u64 c.s3 c.s2), .bool true]) ∧ W.alloc (boxO c) = W' := by
  go_enter Try.func24, Try.ntmps24
  go_wp2
  all_goals go_ret2
  all_goals exact ⟨rfl, rfl⟩
set_option maxHeartbeats 1000000 in
theorem known_105 (c : Reg) (l k : Int) (W : World) : Calls Try.prog 24 #[regV c, .int .i64 261, .int .u64 l, .int .u64 k] W fun e W' => e = .returned (.tuple #[.int .u64 c.s10, .bool true]) ∧ W.alloc (boxO c) = W' := by
  go_enter Try.func24, Try.ntmps24
  go_wp2
  all_goals go_ret2
  all_goals exact ⟨rfl, rfl⟩
set_option maxHeartbeats 1000000 in
theorem known_140 (c : Reg) (l k : Int) (W : World) : Calls Try.prog 24 #[regV c, .int .i64 320, .int .u64 l, .int .u64 k] W fun e W' => e = .returned (.tuple #[.int .u64 c.s11, .bool true]) ∧ W.alloc (boxO c) = W' := by
  go_enter Try.func24, Try.ntmps24
  go_wp2
  all_goals go_ret2
  all_goals exact ⟨rfl, rfl⟩
set_option maxHeartbeats 1000000 in
theorem known_141 (c : Reg) (l k : Int) (W : World) : Calls Try.prog 24 #[regV c, .int .i64 321, .int .u64 l, .int .u64 k] W fun e W' => e = .returned (.tuple #[.int .u64 c.s12, .bool true]) ∧ W.alloc (boxO c) = W' := by
  go_enter Try.func24, Try.ntmps24
  go_wp2
  all_goals go_ret2
  all_goals exact ⟨rfl, rfl⟩
set_option maxHeartbeats 1000000 in
theorem known_142 (c : Reg) (l k : Int) (W : World) : Calls Try.prog 24 #[regV c, .int .i64 322, .int .u64 l, .int .u64 k] W fun e W' => e = .returned (.tuple #[.int .u64 c.s13, .bool true]) ∧ W.alloc (boxO c) = W' := by
  go_enter Try.func24, Try.ntmps24
  go_wp2
  all_goals go_ret2
  all_goals exact ⟨rfl, rfl⟩
set_option maxHeartbeats 1000000 in
theorem known_143 (c : Reg) (l k : Int) (W : World) : Calls Try.prog 24 #[regV c, .int .i64 323, .int .u64 l, .int .u64 k] W fun e W' => e = .returned (.tuple #[.int .u64 c.s14, .bool true]) ∧ W.alloc (boxO c) = W' := by
  go_enter Try.func24, Try.ntmps24
  go_wp2
  all_goals go_ret2
  all_goals exact ⟨rfl, rfl⟩
set_option maxHeartbeats 1000000 in
theorem known_144 (c : Reg) (l k : Int) (W : World) : Calls Try.prog 24 #[regV c, .int .i64 324, .int .u64 l, .int .u64 k] W fun e W' => e = .returned (.tuple #[.int .u64 (bits .and .u64 (rsV c.s4 l) c.s2), .bool true]) ∧ W.alloc (boxO c) = W' := by
  go_enter Try.func24, Try.ntmps24
  go_wp2
  all_goals go_ret2
  all_goals exact ⟨rfl, rfl⟩
set_option maxHeartbeats 1000000 in
theorem known_180 (c : Reg) (l k : Int) (W : World) : Calls Try.prog 24 #[regV c, .int .i64 384, .int .u64 l, .int .u64 k] W fun e W' => e = .returned (.tuple #[.int .u64 c.s15, .bool true]) ∧ W.alloc (boxO c) = W' := by
  go_enter Try.func24, Try.ntmps24
  go_wp2
  all_goals go_ret2
  all_goals exact ⟨rfl, rfl⟩
set_option maxHeartbeats 1000000 in
theorem known_300 (c : Reg) (l k : Int) (W : World) : Calls Try.prog 24 #[regV c, .int .i64 768, .int .u64 l, .int .u64 k] W fun e W' => e = .returned (.tuple #[.int .u64 c.s0, .bool true]) ∧ W.alloc (boxO c) = W' := by
  go_enter Try.func24, Try.ntmps24
  go_wp2
  all_goals go_ret2
  all_goals exact ⟨rfl, rfl⟩
set_option maxHeartbeats 1000000 in
theorem known_301 (c : Reg) (l k : Int) (W : World) : Calls Try.prog 24 #[regV c, .int .i64 769, .int .u64 l, .int .u64 k] W fun e W' => e = .returned (.tuple #[.int .u64 9223372036856090885, .bool true]) ∧ W.alloc (boxO c) = W' := by
  go_enter Try.func24, Try.ntmps24
  go_wp2
  all_goals go_ret2
  all_goals exact ⟨rfl, rfl⟩
set_option maxHeartbeats 1000000 in
theorem known_302 (c : Reg) (l k : Int) (W : World) : Calls Try.prog 24 #[regV c, .int .i64 770, .int .u64 l, .int .u64 k] W fun e W' => e = .returned (.tuple #[.int .u64 c.s1, .bool true]) ∧ W.alloc (boxO c) = W' := by
  go_enter Try.func24, Try.ntmps24
  go_wp2
  all_goals go_ret2
  all_goals exact ⟨rfl, rfl⟩
set_option maxHeartbeats 1000000 in
theorem known_303 (c : Reg) (l k : Int) (W : World) : Calls Try.prog 24 #[regV c, .int .i64 771, .int .u64 l, .int .u64 k] W fun e W' => e = .returned (.tuple #[.int .u64 c.s2, .bool true]) ∧ W.alloc (boxO c) = W' := by
  go_enter Try.func24, Try.ntmps24
  go_wp2
  all_goals go_ret2
  all_goals exact ⟨rfl, rfl⟩
set_option maxHeartbeats 1000000 in
theorem known_304 (c : Reg) (l k : Int) (W : World) : Calls Try.prog 24 #[regV c, .int .i64 772, .int .u64 l, .int .u64 k] W fun e W' => e = .returned (.tuple #[.int .u64 c.s3, .bool true]) ∧ W.alloc (boxO c) = W' := by
  go_enter Try.func24, Try.ntmps24
  go_wp2
  all_goals go_ret2
  all_goals exact ⟨rfl, rfl⟩
set_option maxHeartbeats 1000000 in
theorem known_305 (c : Reg) (l k : Int) (W : World) : Calls Try.prog 24 #[regV c, .int .i64 773, .int .u64 l, .int .u64 k] W fun e W' => e = .returned (.tuple #[.int .u64 c.s5, .bool true]) ∧ W.alloc (boxO c) = W' := by
  go_enter Try.func24, Try.ntmps24
  go_wp2
  all_goals go_ret2
  all_goals exact ⟨rfl, rfl⟩
set_option maxHeartbeats 1000000 in
theorem known_340 (c : Reg) (l k : Int) (W : World) : Calls Try.prog 24 #[regV c, .int .i64 832, .int .u64 l, .int .u64 k] W fun e W' => e = .returned (.tuple #[.int .u64 c.s6, .bool true]) ∧ W.alloc (boxO c) = W' := by
  go_enter Try.func24, Try.ntmps24
  go_wp2
  all_goals go_ret2
  all_goals exact ⟨rfl, rfl⟩
set_option maxHeartbeats 1000000 in
theorem known_341 (c : Reg) (l k : Int) (W : World) : Calls Try.prog 24 #[regV c, .int .i64 833, .int .u64 l, .int .u64 k] W fun e W' => e = .returned (.tuple #[.int .u64 c.s7, .bool true]) ∧ W.alloc (boxO c) = W' := by
  go_enter Try.func24, Try.ntmps24
  go_wp2
  all_goals go_ret2
  all_goals exact ⟨rfl, rfl⟩
set_option maxHeartbeats 1000000 in
theorem known_342 (c : Reg) (l k : Int) (W : World) : Calls Try.prog 24 #[regV c, .int .i64 834, .int .u64 l, .int .u64 k] W fun e W' => e = .returned (.tuple #[.int .u64 c.s8, .bool true]) ∧ W.alloc (boxO c) = W' := by
  go_enter Try.func24, Try.ntmps24
  go_wp2
  all_goals go_ret2
  all_goals exact ⟨rfl, rfl⟩
set_option maxHeartbeats 1000000 in
theorem known_343 (c : Reg) (l k : Int) (W : World) : Calls Try.prog 24 #[regV c, .int .i64 835, .int .u64 l, .int .u64 k] W fun e W' => e = .returned (.tuple #[.int .u64 c.s9, .bool true]) ∧ W.alloc (boxO c) = W' := by
  go_enter Try.func24, Try.ntmps24
  go_wp2
  all_goals go_ret2
  all_goals exact ⟨rfl, rfl⟩
set_option maxHeartbeats 1000000 in
theorem known_344 (c : Reg) (l k : Int) (W : World) : Calls Try.prog 24 #[regV c, .int .i64 836, .int .u64 l, .int .u64 k] W fun e W' => e = .returned (.tuple #[.int .u64 (rsV c.s4 l), .bool true]) ∧ W.alloc (boxO c) = W' := by
  go_enter Try.func24, Try.ntmps24
  go_wp2
  all_goals go_ret2
  all_goals exact ⟨rfl, rfl⟩
set_option maxHeartbeats 1000000 in
theorem known_b00 (c : Reg) (l k : Int) (W : World) : Calls Try.prog 24 #[regV c, .int .i64 2816, .int .u64 l, .int .u64 k] W fun e W' => e = .returned (.tuple #[.int .u64 k, .bool true]) ∧ W.alloc (boxO c) = W' := by
  go_enter Try.func24, Try.ntmps24
  go_wp2
  all_goals go_ret2
  all_goals exact ⟨rfl, rfl⟩
set_option maxHeartbeats 1000000 in
theorem known_b02 (c : Reg) (l k : Int) (W : World) : Calls Try.prog 24 #[regV c, .int .i64 2818, .int .u64 l, .int .u64 k] W fun e W' => e = .returned (.tuple #[.int .u64 k, .bool true]) ∧ W.alloc (boxO c) = W' := by
  go_enter Try.func24, Try.ntmps24
  go_wp2
  all_goals go_ret2
  all_goals exact ⟨rfl, rfl⟩
set_option maxHeartbeats 1000000 in
theorem known_c00 (c : Reg) (l k : Int) (W : World) : Calls Try.prog 24 #[regV c, .int .i64 3072, .int .u64 l, .int .u64 k] W fun e W' => e = .returned (.tuple #[.int .u64 k, .bool true]) ∧ W.alloc (boxO c) = W' := by
  go_enter Try.func24, Try.ntmps24
  go_wp2
  all_goals go_ret2
  all_goals exact ⟨rfl, rfl⟩
set_option maxHeartbeats 1000000 in
theorem known_c01 (c : Reg) (l k : Int) (W : World) : Calls Try.prog 24 #[regV c, .int .i64 3073, .int .u64 l, .int .u64 k] W fun e W' => e = .returned (.tuple #[.int .u64 k, .bool true]) ∧ W.alloc (boxO c) = W' := by
  go_enter Try.func24, Try.ntmps24
  go_wp2
  all_goals go_ret2
  all_goals exact ⟨rfl, rfl⟩
set_option maxHeartbeats 1000000 in
theorem known_c02 (c : Reg) (l k : Int) (W : World) : Calls Try.prog 24 #[regV c, .int .i64 3074, .int .u64 l, .int .u64 k] W fun e W' => e = .returned (.tuple #[.int .u64 k, .bool true]) ∧ W.alloc (boxO c) = W' := by
  go_enter Try.func24, Try.ntmps24
  go_wp2
  all_goals go_ret2
  all_goals exact ⟨rfl, rfl⟩
set_option maxHeartbeats 1000000 in
theorem known_f11 (c : Reg) (l k : Int) (W : World) : Calls Try.prog 24 #[regV c, .int .i64 3857, .int .u64 l, .int .u64 k] W fun e W' => e = .returned (.tuple #[.int .u64 0, .bool true]) ∧ W.alloc (boxO c) = W' := by
  go_enter Try.func24, Try.ntmps24
  go_wp2
  all_goals go_ret2
  all_goals exact ⟨rfl, rfl⟩
set_option maxHeartbeats 1000000 in
theorem known_f12 (c : Reg) (l k : Int) (W : World) : Calls Try.prog 24 #[regV c, .int .i64 3858, .int .u64 l, .int .u64 k] W fun e W' => e = .returned (.tuple #[.int .u64 0, .bool true]) ∧ W.alloc (boxO c) = W' := by
  go_enter Try.func24, Try.ntmps24
  go_wp2
  all_goals go_ret2
  all_goals exact ⟨rfl, rfl⟩
set_option maxHeartbeats 1000000 in
theorem known_f13 (c : Reg) (l k : Int) (W : World) : Calls Try.prog 24 #[regV c, .int .i64 3859, .int .u64 l, .int .u64 k] W fun e W' => e = .returned (.tuple #[.int .u64 0, .bool true]) ∧ W.alloc (boxO c) = W' := by
  go_enter Try.func24, Try.ntmps24
  go_wp2
  all_goals go_ret2
  all_goals exact ⟨rfl, rfl⟩
set_option maxHeartbeats 1000000 in
theorem known_f14 (c : Reg) (l k : Int) (W : World) : Calls Try.prog 24 #[regV c, .int .i64 3860, .int .u64 l, .int .u64 k] W fun e W' => e = .returned (.tuple #[.int .u64 0, .bool true]) ∧ W.alloc (boxO c) = W' := by
  go_enter Try.func24, Try.ntmps24
  go_wp2
  all_goals go_ret2
  all_goals exact ⟨rfl, rfl⟩
set_option maxHeartbeats 1000000 in
theorem known_none (c : Reg) (n l k : Int) (h100 : (n == 256) = false) (h104 : (n == 260) = false) (h105 : (n == 261) = false) (h140 : (n == 320) = false) (h141 : (n == 321) = false) (h142 : (n == 322) = false) (h143 : (n == 323) = false) (h144 : (n == 324) = false) (h180 : (n == 384) = false) (h300 : (n == 768) = false) (h301 : (n == 769) = false) (h302 : (n == 770) = false) (h303 : (n == 771) = false) (h304 : (n == 772) = false) (h305 : (n == 773) = false) (h340 : (n == 832) = false) (h341 : (n == 833) = false) (h342 : (n == 834) = false) (h343 : (n == 835) = false) (h344 : (n == 836) = false) (hb00 : (n == 2816) = false) (hb02 : (n == 2818) = false) (hc00 : (n == 3072) = false) (hc01 : (n == 3073) = false) (hc02 : (n == 3074) = false) (hf11 : (n == 3857) = false) (hf12 : (n == 3858) = false) (hf13 : (n == 3859) = false) (hf14 : (n == 3860) = false) (W : World) : Calls Try.prog 24 #[regV c, .int .i64 n, .int .u64 l, .int .u64 k] W fun e W' => e = .returned (.tuple #[.int .u64 0, .bool false]) ∧ W.alloc (boxO c) = W' := by
  go_enter Try.func24, Try.ntmps24
  go_wp2
  all_goals go_ret2
  all_goals exact ⟨rfl, rfl⟩
set_option maxHeartbeats 1000000 in
theorem rmay_yes (m n : Int) (b : Bool) (h0 : 0 ≤ n) (h1 : n ≤ 4095) (hm : decide (leastV n ≤ m) = true) (ho : (onceV n != 3) = b) (W : World) : Calls Try.prog 23 #[.int .i64 m, .int .i64 n] W fun e W' => e = .returned (.tuple #[.bool true, .bool b]) ∧ W = W' := by
  subst ho
  have hq : decide (m < bits .and .i64 (n / 256) 3) = false := decide_eq_false (by have := of_decide_eq_true hm; unfold leastV at this; omega)
  clear hm
  go_enter Try.func23, Try.ntmps23
  go_wp2
  go_ret2
  exact ⟨rfl, rfl⟩
set_option maxHeartbeats 1000000 in
theorem rmay_no (m n : Int) (h : n < 0 ∨ 4095 < n ∨ decide (leastV n ≤ m) = false) (W : World) : Calls Try.prog 23 #[.int .i64 m, .int .i64 n] W fun e W' => e = .returned (.tuple #[.bool false, .bool false]) ∧ W = W' := by
  by_cases h0 : n < 0
  · clear h
    go_enter Try.func23, Try.ntmps23
    go_wp2
    go_ret2
    exact ⟨rfl, rfl⟩
  · by_cases h1 : 4095 < n
    · clear h
      go_enter Try.func23, Try.ntmps23
      go_wp2
      go_ret2
      exact ⟨rfl, rfl⟩
    · have hq : decide (m < bits .and .i64 (n / 256) 3) = true := decide_eq_true (by
        rcases h with h | h | h
        · exact absurd h h0
        · exact absurd h h1
        · have := of_decide_eq_false h
          unfold leastV at this
          omega)
      clear h
      go_enter Try.func23, Try.ntmps23
      go_wp2
      go_ret2
      exact ⟨rfl, rfl⟩
set_option maxHeartbeats 1000000 in
theorem rread_no (c : Reg) (m n l k : Int) (h : n < 0 ∨ 4095 < n ∨ decide (leastV n ≤ m) = false) (W : World) : Calls Try.prog 12 #[regV c, .int .i64 m, .int .i64 n, .int .u64 l, .int .u64 k] W fun e W' => e = .returned (.tuple #[.int .u64 0, .bool false]) ∧ Below W.heap.size W W' := by
  have hh := Lib.hid h
  clear h
  go_enter Try.func12, Try.ntmps12
  go_wp2_with (first | (go_at_call 23; (with_reducible refine (rmay_no m n hh.out _).mono ?_); rintro e w' ⟨rfl, rfl⟩) | fail)
  go_ret2
  exact ⟨rfl, by repeat (first | with_reducible exact Below.refl _ _ | with_reducible refine Below.drew ?_ | with_reducible refine Below.alloc ?_ (by first | exact Nat.le_refl _ | simp | (simp; omega)) _ | with_reducible refine Below.setCell ?_ (by first | exact Nat.le_refl _ | simp | (simp; omega)) _)⟩
set_option maxHeartbeats 1000000 in
theorem rread_of (c : Reg) (m n l k x : Int) (b : Bool) (h0 : 0 ≤ n) (h1 : n ≤ 4095) (hm : decide (leastV n ≤ m) = true) (hK : RowKit.Hid (∀ W, Calls Try.prog 24 #[regV c, .int .i64 n, .int .u64 l, .int .u64 k] W fun e W' => e = .returned (.tuple #[.int .u64 x, .bool b]) ∧ W.alloc (boxO c) = W')) (W : World) : Calls Try.prog 12 #[regV c, .int .i64 m, .int .i64 n, .int .u64 l, .int .u64 k] W fun e W' => e = .returned (.tuple #[.int .u64 x, .bool b]) ∧ Below W.heap.size W W' := by
  go_enter Try.func12, Try.ntmps12
  go_wp2_with (first | (go_at_call 23; (with_reducible refine (rmay_yes m n _ h0 h1 hm rfl _).mono ?_); rintro e w' ⟨rfl, rfl⟩) | (go_at_call 24; (with_reducible refine (hK.out _).mono ?_); rintro e w' ⟨rfl, rfl⟩) | fail)
  go_ret2
  exact ⟨rfl, by repeat (first | with_reducible exact Below.refl _ _ | with_reducible refine Below.drew ?_ | with_reducible refine Below.alloc ?_ (by first | exact Nat.le_refl _ | simp | (simp; omega)) _ | with_reducible refine Below.setCell ?_ (by first | exact Nat.le_refl _ | simp | (simp; omega)) _)⟩

end Go.Proofs.Ythchakfffenoiaa
