/- Read of the program. -/
import Derived.Test.YthchakfffenoiaaA
namespace Go.Proofs.Ythchakfffenoiaa
open Go.RowKit Go.Deep Go.Joins
set_option maxHeartbeats 1000000 in
theorem read_no (c : Reg) (m n l k : Int) (hm : decide (leastV n ≤ m) = false) (W : World) : Calls Try.prog 11 #[regV c, .int .i64 m, .int .i64 n, .int .u64 l, .int .u64 k] W fun e W' => e = .returned (.tuple #[.int .u64 0, .bool false]) ∧ Below W.heap.size W W' := by
  go_enter Try.func11, Try.ntmps11
  go_wp2_with (first | (go_at_call 20; (with_reducible refine (may_any m n false hm _).mono ?_); rintro e w' ⟨rfl, rfl⟩) | fail)
  go_ret2
  exact ⟨rfl, by repeat (first | with_reducible exact Below.refl _ _ | with_reducible refine Below.drew ?_ | with_reducible refine Below.alloc ?_ (by first | exact Nat.le_refl _ | simp | (simp; omega)) _ | with_reducible refine Below.setCell ?_ (by first | exact Nat.le_refl _ | simp | (simp; omega)) _)⟩
set_option maxHeartbeats 1000000 in
theorem read_none (c : Reg) (m n l k : Int) (hm : decide (leastV n ≤ m) = true) (h100 : (n == 256) = false) (h104 : (n == 260) = false) (h105 : (n == 261) = false) (h140 : (n == 320) = false) (h141 : (n == 321) = false) (h142 : (n == 322) = false) (h143 : (n == 323) = false) (h144 : (n == 324) = false) (h180 : (n == 384) = false) (h300 : (n == 768) = false) (h301 : (n == 769) = false) (h302 : (n == 770) = false) (h303 : (n == 771) = false) (h304 : (n == 772) = false) (h305 : (n == 773) = false) (h340 : (n == 832) = false) (h341 : (n == 833) = false) (h342 : (n == 834) = false) (h343 : (n == 835) = false) (h344 : (n == 836) = false) (hb00 : (n == 2816) = false) (hb02 : (n == 2818) = false) (hc00 : (n == 3072) = false) (hc01 : (n == 3073) = false) (hc02 : (n == 3074) = false) (hf11 : (n == 3857) = false) (hf12 : (n == 3858) = false) (hf13 : (n == 3859) = false) (hf14 : (n == 3860) = false) (W : World) : Calls Try.prog 11 #[regV c, .int .i64 m, .int .i64 n, .int .u64 l, .int .u64 k] W fun e W' => e = .returned (.tuple #[.int .u64 0, .bool false]) ∧ Below W.heap.size W W' := by
  go_enter Try.func11, Try.ntmps11
  go_wp2_with (first | (go_at_call 20; (with_reducible refine (may_any m n true hm _).mono ?_); rintro e w' ⟨rfl, rfl⟩) | (go_at_call 21; (with_reducible refine (field_none _ n h300 h302 h303 h304 h305 h340 h341 h342 h343 h105 h140 h141 h142 h143 h180 _).mono ?_); rintro e w' ⟨rfl, rfl⟩) | fail)
  go_ret2
  exact ⟨rfl, by repeat (first | with_reducible exact Below.refl _ _ | with_reducible refine Below.drew ?_ | with_reducible refine Below.alloc ?_ (by first | exact Nat.le_refl _ | simp | (simp; omega)) _ | with_reducible refine Below.setCell ?_ (by first | exact Nat.le_refl _ | simp | (simp; omega)) _)⟩
set_option maxHeartbeats 1000000 in
theorem read_100 (c : Reg) (m l k : Int) (hm : decide (leastV 256 ≤ m) = true) (W : World) : Calls Try.prog 11 #[regV c, .int .i64 m, .int .i64 256, .int .u64 l, .int .u64 k] W fun e W' => e = .returned (.tuple #[.int .u64 (bits .and .u64 c.s0 786722), .bool true]) ∧ Below W.heap.size W W' := by
  go_enter Try.func11, Try.ntmps11
  go_wp2_with (first | (go_at_call 20; (with_reducible refine (may_any m 256 true hm _).mono ?_); rintro e w' ⟨rfl, rfl⟩) | (go_at_call 21; (with_reducible refine (field_100 _ _).mono ?_); rintro e w' ⟨rfl, rfl⟩) | fail)
  all_goals go_ret2
  all_goals exact ⟨rfl, by repeat (first | with_reducible exact Below.refl _ _ | with_reducible refine Below.drew ?_ | with_reducible refine Below.alloc ?_ (by first | exact Nat.le_refl _ | simp | (simp; omega)) _ | with_reducible refine Below.setCell ?_ (by first | exact Nat.le_refl _ | simp | (simp; omega)) _)⟩
set_option maxHeartbeats 1000000 in
theorem read_104 (c : Reg) (m l k : Int) (hm : decide (leastV 260 ≤ m) = true) (W : World) : Calls Try.prog 11 #[regV c, .int .i64 m, .int .i64 260, .int .u64 l, .int .u64 k] W fun e W' => e = .returned (.tuple #[.int .u64 (bits .and .u64 c.s3 c.s2), .bool true]) ∧ Below W.heap.size W W' := by
  go_enter Try.func11, Try.ntmps11
  go_wp2_with (first | (go_at_call 20; (with_reducible refine (may_any m 260 true hm _).mono ?_); rintro e w' ⟨rfl, rfl⟩) | (go_at_call 21; (with_reducible refine (field_104 _ _).mono ?_); rintro e w' ⟨rfl, rfl⟩) | fail)
  all_goals go_ret2
  all_goals exact ⟨rfl, by repeat (first | with_reducible exact Below.refl _ _ | with_reducible refine Below.drew ?_ | with_reducible refine Below.alloc ?_ (by first | exact Nat.le_refl _ | simp | (simp; omega)) _ | with_reducible refine Below.setCell ?_ (by first | exact Nat.le_refl _ | simp | (simp; omega)) _)⟩
set_option maxHeartbeats 1000000 in
theorem read_105 (c : Reg) (m l k : Int) (hm : decide (leastV 261 ≤ m) = true) (W : World) : Calls Try.prog 11 #[regV c, .int .i64 m, .int .i64 261, .int .u64 l, .int .u64 k] W fun e W' => e = .returned (.tuple #[.int .u64 c.s10, .bool true]) ∧ Below W.heap.size W W' := by
  go_enter Try.func11, Try.ntmps11
  go_wp2_with (first | (go_at_call 20; (with_reducible refine (may_any m 261 true hm _).mono ?_); rintro e w' ⟨rfl, rfl⟩) | (go_at_call 21; (with_reducible refine (field_105 _ _).mono ?_); rintro e w' ⟨rfl, rfl⟩) | fail)
  all_goals go_ret2
  all_goals exact ⟨rfl, by repeat (first | with_reducible exact Below.refl _ _ | with_reducible refine Below.drew ?_ | with_reducible refine Below.alloc ?_ (by first | exact Nat.le_refl _ | simp | (simp; omega)) _ | with_reducible refine Below.setCell ?_ (by first | exact Nat.le_refl _ | simp | (simp; omega)) _)⟩
set_option maxHeartbeats 1000000 in
theorem read_140 (c : Reg) (m l k : Int) (hm : decide (leastV 320 ≤ m) = true) (W : World) : Calls Try.prog 11 #[regV c, .int .i64 m, .int .i64 320, .int .u64 l, .int .u64 k] W fun e W' => e = .returned (.tuple #[.int .u64 c.s11, .bool true]) ∧ Below W.heap.size W W' := by
  go_enter Try.func11, Try.ntmps11
  go_wp2_with (first | (go_at_call 20; (with_reducible refine (may_any m 320 true hm _).mono ?_); rintro e w' ⟨rfl, rfl⟩) | (go_at_call 21; (with_reducible refine (field_140 _ _).mono ?_); rintro e w' ⟨rfl, rfl⟩) | fail)
  all_goals go_ret2
  all_goals exact ⟨rfl, by repeat (first | with_reducible exact Below.refl _ _ | with_reducible refine Below.drew ?_ | with_reducible refine Below.alloc ?_ (by first | exact Nat.le_refl _ | simp | (simp; omega)) _ | with_reducible refine Below.setCell ?_ (by first | exact Nat.le_refl _ | simp | (simp; omega)) _)⟩
set_option maxHeartbeats 1000000 in
theorem read_141 (c : Reg) (m l k : Int) (hm : decide (leastV 321 ≤ m) = true) (W : World) : Calls Try.prog 11 #[regV c, .int .i64 m, .int .i64 321, .int .u64 l, .int .u64 k] W fun e W' => e = .returned (.tuple #[.int .u64 c.s12, .bool true]) ∧ Below W.heap.size W W' := by
  go_enter Try.func11, Try.ntmps11
  go_wp2_with (first | (go_at_call 20; (with_reducible refine (may_any m 321 true hm _).mono ?_); rintro e w' ⟨rfl, rfl⟩) | (go_at_call 21; (with_reducible refine (field_141 _ _).mono ?_); rintro e w' ⟨rfl, rfl⟩) | fail)
  all_goals go_ret2
  all_goals exact ⟨rfl, by repeat (first | with_reducible exact Below.refl _ _ | with_reducible refine Below.drew ?_ | with_reducible refine Below.alloc ?_ (by first | exact Nat.le_refl _ | simp | (simp; omega)) _ | with_reducible refine Below.setCell ?_ (by first | exact Nat.le_refl _ | simp | (simp; omega)) _)⟩
set_option maxHeartbeats 1000000 in
theorem read_142 (c : Reg) (m l k : Int) (hm : decide (leastV 322 ≤ m) = true) (W : World) : Calls Try.prog 11 #[regV c, .int .i64 m, .int .i64 322, .int .u64 l, .int .u64 k] W fun e W' => e = .returned (.tuple #[.int .u64 c.s13, .bool true]) ∧ Below W.heap.size W W' := by
  go_enter Try.func11, Try.ntmps11
  go_wp2_with (first | (go_at_call 20; (with_reducible refine (may_any m 322 true hm _).mono ?_); rintro e w' ⟨rfl, rfl⟩) | (go_at_call 21; (with_reducible refine (field_142 _ _).mono ?_); rintro e w' ⟨rfl, rfl⟩) | fail)
  all_goals go_ret2
  all_goals exact ⟨rfl, by repeat (first | with_reducible exact Below.refl _ _ | with_reducible refine Below.drew ?_ | with_reducible refine Below.alloc ?_ (by first | exact Nat.le_refl _ | simp | (simp; omega)) _ | with_reducible refine Below.setCell ?_ (by first | exact Nat.le_refl _ | simp | (simp; omega)) _)⟩
set_option maxHeartbeats 1000000 in
theorem read_143 (c : Reg) (m l k : Int) (hm : decide (leastV 323 ≤ m) = true) (W : World) : Calls Try.prog 11 #[regV c, .int .i64 m, .int .i64 323, .int .u64 l, .int .u64 k] W fun e W' => e = .returned (.tuple #[.int .u64 c.s14, .bool true]) ∧ Below W.heap.size W W' := by
  go_enter Try.func11, Try.ntmps11
  go_wp2_with (first | (go_at_call 20; (with_reducible refine (may_any m 323 true hm _).mono ?_); rintro e w' ⟨rfl, rfl⟩) | (go_at_call 21; (with_reducible refine (field_143 _ _).mono ?_); rintro e w' ⟨rfl, rfl⟩) | fail)
  all_goals go_ret2
  all_goals exact ⟨rfl, by repeat (first | with_reducible exact Below.refl _ _ | with_reducible refine Below.drew ?_ | with_reducible refine Below.alloc ?_ (by first | exact Nat.le_refl _ | simp | (simp; omega)) _ | with_reducible refine Below.setCell ?_ (by first | exact Nat.le_refl _ | simp | (simp; omega)) _)⟩
set_option maxHeartbeats 1000000 in
theorem read_144 (c : Reg) (m l k : Int) (hm : decide (leastV 324 ≤ m) = true) (W : World) : Calls Try.prog 11 #[regV c, .int .i64 m, .int .i64 324, .int .u64 l, .int .u64 k] W fun e W' => e = .returned (.tuple #[.int .u64 (bits .and .u64 (rsV c.s4 l) c.s2), .bool true]) ∧ Below W.heap.size W W' := by
  go_enter Try.func11, Try.ntmps11
  go_wp2_with (first | (go_at_call 20; (with_reducible refine (may_any m 324 true hm _).mono ?_); rintro e w' ⟨rfl, rfl⟩) | (go_at_call 21; (with_reducible refine (field_144 _ _).mono ?_); rintro e w' ⟨rfl, rfl⟩) | fail)
  go_region_with (first | (go_at_call 22; (with_reducible refine (raised_any c l _).mono ?_); rintro e w' ⟨rfl, rfl⟩) | fail)
  all_goals go_wp2
  all_goals go_ret2
  all_goals exact ⟨rfl, by repeat (first | with_reducible exact Below.refl _ _ | with_reducible refine Below.drew ?_ | with_reducible refine Below.alloc ?_ (by first | exact Nat.le_refl _ | simp | (simp; omega)) _ | with_reducible refine Below.setCell ?_ (by first | exact Nat.le_refl _ | simp | (simp; omega)) _)⟩
set_option maxHeartbeats 1000000 in
theorem read_180 (c : Reg) (m l k : Int) (hm : decide (leastV 384 ≤ m) = true) (W : World) : Calls Try.prog 11 #[regV c, .int .i64 m, .int .i64 384, .int .u64 l, .int .u64 k] W fun e W' => e = .returned (.tuple #[.int .u64 c.s15, .bool true]) ∧ Below W.heap.size W W' := by
  go_enter Try.func11, Try.ntmps11
  go_wp2_with (first | (go_at_call 20; (with_reducible refine (may_any m 384 true hm _).mono ?_); rintro e w' ⟨rfl, rfl⟩) | (go_at_call 21; (with_reducible refine (field_180 _ _).mono ?_); rintro e w' ⟨rfl, rfl⟩) | fail)
  all_goals go_ret2
  all_goals exact ⟨rfl, by repeat (first | with_reducible exact Below.refl _ _ | with_reducible refine Below.drew ?_ | with_reducible refine Below.alloc ?_ (by first | exact Nat.le_refl _ | simp | (simp; omega)) _ | with_reducible refine Below.setCell ?_ (by first | exact Nat.le_refl _ | simp | (simp; omega)) _)⟩
set_option maxHeartbeats 1000000 in
theorem read_300 (c : Reg) (m l k : Int) (hm : decide (leastV 768 ≤ m) = true) (W : World) : Calls Try.prog 11 #[regV c, .int .i64 m, .int .i64 768, .int .u64 l, .int .u64 k] W fun e W' => e = .returned (.tuple #[.int .u64 c.s0, .bool true]) ∧ Below W.heap.size W W' := by
  go_enter Try.func11, Try.ntmps11
  go_wp2_with (first | (go_at_call 20; (with_reducible refine (may_any m 768 true hm _).mono ?_); rintro e w' ⟨rfl, rfl⟩) | (go_at_call 21; (with_reducible refine (field_300 _ _).mono ?_); rintro e w' ⟨rfl, rfl⟩) | fail)
  all_goals go_ret2
  all_goals exact ⟨rfl, by repeat (first | with_reducible exact Below.refl _ _ | with_reducible refine Below.drew ?_ | with_reducible refine Below.alloc ?_ (by first | exact Nat.le_refl _ | simp | (simp; omega)) _ | with_reducible refine Below.setCell ?_ (by first | exact Nat.le_refl _ | simp | (simp; omega)) _)⟩
set_option maxHeartbeats 1000000 in
theorem read_301 (c : Reg) (m l k : Int) (hm : decide (leastV 769 ≤ m) = true) (W : World) : Calls Try.prog 11 #[regV c, .int .i64 m, .int .i64 769, .int .u64 l, .int .u64 k] W fun e W' => e = .returned (.tuple #[.int .u64 9223372036856090885, .bool true]) ∧ Below W.heap.size W W' := by
  go_enter Try.func11, Try.ntmps11
  go_wp2_with (first | (go_at_call 20; (with_reducible refine (may_any m 769 true hm _).mono ?_); rintro e w' ⟨rfl, rfl⟩) | (go_at_call 21; (with_reducible refine (field_301 _ _).mono ?_); rintro e w' ⟨rfl, rfl⟩) | fail)
  all_goals go_ret2
  all_goals exact ⟨rfl, by repeat (first | with_reducible exact Below.refl _ _ | with_reducible refine Below.drew ?_ | with_reducible refine Below.alloc ?_ (by first | exact Nat.le_refl _ | simp | (simp; omega)) _ | with_reducible refine Below.setCell ?_ (by first | exact Nat.le_refl _ | simp | (simp; omega)) _)⟩
set_option maxHeartbeats 1000000 in
theorem read_302 (c : Reg) (m l k : Int) (hm : decide (leastV 770 ≤ m) = true) (W : World) : Calls Try.prog 11 #[regV c, .int .i64 m, .int .i64 770, .int .u64 l, .int .u64 k] W fun e W' => e = .returned (.tuple #[.int .u64 c.s1, .bool true]) ∧ Below W.heap.size W W' := by
  go_enter Try.func11, Try.ntmps11
  go_wp2_with (first | (go_at_call 20; (with_reducible refine (may_any m 770 true hm _).mono ?_); rintro e w' ⟨rfl, rfl⟩) | (go_at_call 21; (with_reducible refine (field_302 _ _).mono ?_); rintro e w' ⟨rfl, rfl⟩) | fail)
  all_goals go_ret2
  all_goals exact ⟨rfl, by repeat (first | with_reducible exact Below.refl _ _ | with_reducible refine Below.drew ?_ | with_reducible refine Below.alloc ?_ (by first | exact Nat.le_refl _ | simp | (simp; omega)) _ | with_reducible refine Below.setCell ?_ (by first | exact Nat.le_refl _ | simp | (simp; omega)) _)⟩
set_option maxHeartbeats 1000000 in
theorem read_303 (c : Reg) (m l k : Int) (hm : decide (leastV 771 ≤ m) = true) (W : World) : Calls Try.prog 11 #[regV c, .int .i64 m, .int .i64 771, .int .u64 l, .int .u64 k] W fun e W' => e = .returned (.tuple #[.int .u64 c.s2, .bool true]) ∧ Below W.heap.size W W' := by
  go_enter Try.func11, Try.ntmps11
  go_wp2_with (first | (go_at_call 20; (with_reducible refine (may_any m 771 true hm _).mono ?_); rintro e w' ⟨rfl, rfl⟩) | (go_at_call 21; (with_reducible refine (field_303 _ _).mono ?_); rintro e w' ⟨rfl, rfl⟩) | fail)
  all_goals go_ret2
  all_goals exact ⟨rfl, by repeat (first | with_reducible exact Below.refl _ _ | with_reducible refine Below.drew ?_ | with_reducible refine Below.alloc ?_ (by first | exact Nat.le_refl _ | simp | (simp; omega)) _ | with_reducible refine Below.setCell ?_ (by first | exact Nat.le_refl _ | simp | (simp; omega)) _)⟩
set_option maxHeartbeats 1000000 in
theorem read_304 (c : Reg) (m l k : Int) (hm : decide (leastV 772 ≤ m) = true) (W : World) : Calls Try.prog 11 #[regV c, .int .i64 m, .int .i64 772, .int .u64 l, .int .u64 k] W fun e W' => e = .returned (.tuple #[.int .u64 c.s3, .bool true]) ∧ Below W.heap.size W W' := by
  go_enter Try.func11, Try.ntmps11
  go_wp2_with (first | (go_at_call 20; (with_reducible refine (may_any m 772 true hm _).mono ?_); rintro e w' ⟨rfl, rfl⟩) | (go_at_call 21; (with_reducible refine (field_304 _ _).mono ?_); rintro e w' ⟨rfl, rfl⟩) | fail)
  all_goals go_ret2
  all_goals exact ⟨rfl, by repeat (first | with_reducible exact Below.refl _ _ | with_reducible refine Below.drew ?_ | with_reducible refine Below.alloc ?_ (by first | exact Nat.le_refl _ | simp | (simp; omega)) _ | with_reducible refine Below.setCell ?_ (by first | exact Nat.le_refl _ | simp | (simp; omega)) _)⟩
set_option maxHeartbeats 1000000 in
theorem read_305 (c : Reg) (m l k : Int) (hm : decide (leastV 773 ≤ m) = true) (W : World) : Calls Try.prog 11 #[regV c, .int .i64 m, .int .i64 773, .int .u64 l, .int .u64 k] W fun e W' => e = .returned (.tuple #[.int .u64 c.s5, .bool true]) ∧ Below W.heap.size W W' := by
  go_enter Try.func11, Try.ntmps11
  go_wp2_with (first | (go_at_call 20; (with_reducible refine (may_any m 773 true hm _).mono ?_); rintro e w' ⟨rfl, rfl⟩) | (go_at_call 21; (with_reducible refine (field_305 _ _).mono ?_); rintro e w' ⟨rfl, rfl⟩) | fail)
  all_goals go_ret2
  all_goals exact ⟨rfl, by repeat (first | with_reducible exact Below.refl _ _ | with_reducible refine Below.drew ?_ | with_reducible refine Below.alloc ?_ (by first | exact Nat.le_refl _ | simp | (simp; omega)) _ | with_reducible refine Below.setCell ?_ (by first | exact Nat.le_refl _ | simp | (simp; omega)) _)⟩
set_option maxHeartbeats 1000000 in
theorem read_340 (c : Reg) (m l k : Int) (hm : decide (leastV 832 ≤ m) = true) (W : World) : Calls Try.prog 11 #[regV c, .int .i64 m, .int .i64 832, .int .u64 l, .int .u64 k] W fun e W' => e = .returned (.tuple #[.int .u64 c.s6, .bool true]) ∧ Below W.heap.size W W' := by
  go_enter Try.func11, Try.ntmps11
  go_wp2_with (first | (go_at_call 20; (with_reducible refine (may_any m 832 true hm _).mono ?_); rintro e w' ⟨rfl, rfl⟩) | (go_at_call 21; (with_reducible refine (field_340 _ _).mono ?_); rintro e w' ⟨rfl, rfl⟩) | fail)
  all_goals go_ret2
  all_goals exact ⟨rfl, by repeat (first | with_reducible exact Below.refl _ _ | with_reducible refine Below.drew ?_ | with_reducible refine Below.alloc ?_ (by first | exact Nat.le_refl _ | simp | (simp; omega)) _ | with_reducible refine Below.setCell ?_ (by first | exact Nat.le_refl _ | simp | (simp; omega)) _)⟩
set_option maxHeartbeats 1000000 in
theorem read_341 (c : Reg) (m l k : Int) (hm : decide (leastV 833 ≤ m) = true) (W : World) : Calls Try.prog 11 #[regV c, .int .i64 m, .int .i64 833, .int .u64 l, .int .u64 k] W fun e W' => e = .returned (.tuple #[.int .u64 c.s7, .bool true]) ∧ Below W.heap.size W W' := by
  go_enter Try.func11, Try.ntmps11
  go_wp2_with (first | (go_at_call 20; (with_reducible refine (may_any m 833 true hm _).mono ?_); rintro e w' ⟨rfl, rfl⟩) | (go_at_call 21; (with_reducible refine (field_341 _ _).mono ?_); rintro e w' ⟨rfl, rfl⟩) | fail)
  all_goals go_ret2
  all_goals exact ⟨rfl, by repeat (first | with_reducible exact Below.refl _ _ | with_reducible refine Below.drew ?_ | with_reducible refine Below.alloc ?_ (by first | exact Nat.le_refl _ | simp | (simp; omega)) _ | with_reducible refine Below.setCell ?_ (by first | exact Nat.le_refl _ | simp | (simp; omega)) _)⟩
set_option maxHeartbeats 1000000 in
theorem read_342 (c : Reg) (m l k : Int) (hm : decide (leastV 834 ≤ m) = true) (W : World) : Calls Try.prog 11 #[regV c, .int .i64 m, .int .i64 834, .int .u64 l, .int .u64 k] W fun e W' => e = .returned (.tuple #[.int .u64 c.s8, .bool true]) ∧ Below W.heap.size W W' := by
  go_enter Try.func11, Try.ntmps11
  go_wp2_with (first | (go_at_call 20; (with_reducible refine (may_any m 834 true hm _).mono ?_); rintro e w' ⟨rfl, rfl⟩) | (go_at_call 21; (with_reducible refine (field_342 _ _).mono ?_); rintro e w' ⟨rfl, rfl⟩) | fail)
  all_goals go_ret2
  all_goals exact ⟨rfl, by repeat (first | with_reducible exact Below.refl _ _ | with_reducible refine Below.drew ?_ | with_reducible refine Below.alloc ?_ (by first | exact Nat.le_refl _ | simp | (simp; omega)) _ | with_reducible refine Below.setCell ?_ (by first | exact Nat.le_refl _ | simp | (simp; omega)) _)⟩
set_option maxHeartbeats 1000000 in
theorem read_343 (c : Reg) (m l k : Int) (hm : decide (leastV 835 ≤ m) = true) (W : World) : Calls Try.prog 11 #[regV c, .int .i64 m, .int .i64 835, .int .u64 l, .int .u64 k] W fun e W' => e = .returned (.tuple #[.int .u64 c.s9, .bool true]) ∧ Below W.heap.size W W' := by
  go_enter Try.func11, Try.ntmps11
  go_wp2_with (first | (go_at_call 20; (with_reducible refine (may_any m 835 true hm _).mono ?_); rintro e w' ⟨rfl, rfl⟩) | (go_at_call 21; (with_reducible refine (field_343 _ _).mono ?_); rintro e w' ⟨rfl, rfl⟩) | fail)
  all_goals go_ret2
  all_goals exact ⟨rfl, by repeat (first | with_reducible exact Below.refl _ _ | with_reducible refine Below.drew ?_ | with_reducible refine Below.alloc ?_ (by first | exact Nat.le_refl _ | simp | (simp; omega)) _ | with_reducible refine Below.setCell ?_ (by first | exact Nat.le_refl _ | simp | (simp; omega)) _)⟩
set_option maxHeartbeats 1000000 in
theorem read_344 (c : Reg) (m l k : Int) (hm : decide (leastV 836 ≤ m) = true) (W : World) : Calls Try.prog 11 #[regV c, .int .i64 m, .int .i64 836, .int .u64 l, .int .u64 k] W fun e W' => e = .returned (.tuple #[.int .u64 (rsV c.s4 l), .bool true]) ∧ Below W.heap.size W W' := by
  go_enter Try.func11, Try.ntmps11
  go_wp2_with (first | (go_at_call 20; (with_reducible refine (may_any m 836 true hm _).mono ?_); rintro e w' ⟨rfl, rfl⟩) | (go_at_call 21; (with_reducible refine (field_344 _ _).mono ?_); rintro e w' ⟨rfl, rfl⟩) | (go_at_call 22; (with_reducible refine (raised_any c l _).mono ?_); rintro e w' ⟨rfl, rfl⟩) | fail)
  all_goals go_ret2
  all_goals exact ⟨rfl, by repeat (first | with_reducible exact Below.refl _ _ | with_reducible refine Below.drew ?_ | with_reducible refine Below.alloc ?_ (by first | exact Nat.le_refl _ | simp | (simp; omega)) _ | with_reducible refine Below.setCell ?_ (by first | exact Nat.le_refl _ | simp | (simp; omega)) _)⟩
set_option maxHeartbeats 1000000 in
theorem read_b00 (c : Reg) (m l k : Int) (hm : decide (leastV 2816 ≤ m) = true) (W : World) : Calls Try.prog 11 #[regV c, .int .i64 m, .int .i64 2816, .int .u64 l, .int .u64 k] W fun e W' => e = .returned (.tuple #[.int .u64 k, .bool true]) ∧ Below W.heap.size W W' := by
  go_enter Try.func11, Try.ntmps11
  go_wp2_with (first | (go_at_call 20; (with_reducible refine (may_any m 2816 true hm _).mono ?_); rintro e w' ⟨rfl, rfl⟩) | (go_at_call 21; (with_reducible refine (field_b00 _ _).mono ?_); rintro e w' ⟨rfl, rfl⟩) | fail)
  all_goals go_ret2
  all_goals exact ⟨rfl, by repeat (first | with_reducible exact Below.refl _ _ | with_reducible refine Below.drew ?_ | with_reducible refine Below.alloc ?_ (by first | exact Nat.le_refl _ | simp | (simp; omega)) _ | with_reducible refine Below.setCell ?_ (by first | exact Nat.le_refl _ | simp | (simp; omega)) _)⟩
set_option maxHeartbeats 1000000 in
theorem read_b02 (c : Reg) (m l k : Int) (hm : decide (leastV 2818 ≤ m) = true) (W : World) : Calls Try.prog 11 #[regV c, .int .i64 m, .int .i64 2818, .int .u64 l, .int .u64 k] W fun e W' => e = .returned (.tuple #[.int .u64 k, .bool true]) ∧ Below W.heap.size W W' := by
  go_enter Try.func11, Try.ntmps11
  go_wp2_with (first | (go_at_call 20; (with_reducible refine (may_any m 2818 true hm _).mono ?_); rintro e w' ⟨rfl, rfl⟩) | (go_at_call 21; (with_reducible refine (field_b02 _ _).mono ?_); rintro e w' ⟨rfl, rfl⟩) | fail)
  all_goals go_ret2
  all_goals exact ⟨rfl, by repeat (first | with_reducible exact Below.refl _ _ | with_reducible refine Below.drew ?_ | with_reducible refine Below.alloc ?_ (by first | exact Nat.le_refl _ | simp | (simp; omega)) _ | with_reducible refine Below.setCell ?_ (by first | exact Nat.le_refl _ | simp | (simp; omega)) _)⟩
set_option maxHeartbeats 1000000 in
theorem read_c00 (c : Reg) (m l k : Int) (hm : decide (leastV 3072 ≤ m) = true) (W : World) : Calls Try.prog 11 #[regV c, .int .i64 m, .int .i64 3072, .int .u64 l, .int .u64 k] W fun e W' => e = .returned (.tuple #[.int .u64 k, .bool true]) ∧ Below W.heap.size W W' := by
  go_enter Try.func11, Try.ntmps11
  go_wp2_with (first | (go_at_call 20; (with_reducible refine (may_any m 3072 true hm _).mono ?_); rintro e w' ⟨rfl, rfl⟩) | (go_at_call 21; (with_reducible refine (field_c00 _ _).mono ?_); rintro e w' ⟨rfl, rfl⟩) | fail)
  all_goals go_ret2
  all_goals exact ⟨rfl, by repeat (first | with_reducible exact Below.refl _ _ | with_reducible refine Below.drew ?_ | with_reducible refine Below.alloc ?_ (by first | exact Nat.le_refl _ | simp | (simp; omega)) _ | with_reducible refine Below.setCell ?_ (by first | exact Nat.le_refl _ | simp | (simp; omega)) _)⟩
set_option maxHeartbeats 1000000 in
theorem read_c01 (c : Reg) (m l k : Int) (hm : decide (leastV 3073 ≤ m) = true) (W : World) : Calls Try.prog 11 #[regV c, .int .i64 m, .int .i64 3073, .int .u64 l, .int .u64 k] W fun e W' => e = .returned (.tuple #[.int .u64 k, .bool true]) ∧ Below W.heap.size W W' := by
  go_enter Try.func11, Try.ntmps11
  go_wp2_with (first | (go_at_call 20; (with_reducible refine (may_any m 3073 true hm _).mono ?_); rintro e w' ⟨rfl, rfl⟩) | (go_at_call 21; (with_reducible refine (field_c01 _ _).mono ?_); rintro e w' ⟨rfl, rfl⟩) | fail)
  all_goals go_ret2
  all_goals exact ⟨rfl, by repeat (first | with_reducible exact Below.refl _ _ | with_reducible refine Below.drew ?_ | with_reducible refine Below.alloc ?_ (by first | exact Nat.le_refl _ | simp | (simp; omega)) _ | with_reducible refine Below.setCell ?_ (by first | exact Nat.le_refl _ | simp | (simp; omega)) _)⟩
set_option maxHeartbeats 1000000 in
theorem read_c02 (c : Reg) (m l k : Int) (hm : decide (leastV 3074 ≤ m) = true) (W : World) : Calls Try.prog 11 #[regV c, .int .i64 m, .int .i64 3074, .int .u64 l, .int .u64 k] W fun e W' => e = .returned (.tuple #[.int .u64 k, .bool true]) ∧ Below W.heap.size W W' := by
  go_enter Try.func11, Try.ntmps11
  go_wp2_with (first | (go_at_call 20; (with_reducible refine (may_any m 3074 true hm _).mono ?_); rintro e w' ⟨rfl, rfl⟩) | (go_at_call 21; (with_reducible refine (field_c02 _ _).mono ?_); rintro e w' ⟨rfl, rfl⟩) | fail)
  all_goals go_ret2
  all_goals exact ⟨rfl, by repeat (first | with_reducible exact Below.refl _ _ | with_reducible refine Below.drew ?_ | with_reducible refine Below.alloc ?_ (by first | exact Nat.le_refl _ | simp | (simp; omega)) _ | with_reducible refine Below.setCell ?_ (by first | exact Nat.le_refl _ | simp | (simp; omega)) _)⟩
set_option maxHeartbeats 1000000 in
theorem read_f11 (c : Reg) (m l k : Int) (hm : decide (leastV 3857 ≤ m) = true) (W : World) : Calls Try.prog 11 #[regV c, .int .i64 m, .int .i64 3857, .int .u64 l, .int .u64 k] W fun e W' => e = .returned (.tuple #[.int .u64 0, .bool true]) ∧ Below W.heap.size W W' := by
  go_enter Try.func11, Try.ntmps11
  go_wp2_with (first | (go_at_call 20; (with_reducible refine (may_any m 3857 true hm _).mono ?_); rintro e w' ⟨rfl, rfl⟩) | (go_at_call 21; (with_reducible refine (field_f11 _ _).mono ?_); rintro e w' ⟨rfl, rfl⟩) | fail)
  all_goals go_ret2
  all_goals exact ⟨rfl, by repeat (first | with_reducible exact Below.refl _ _ | with_reducible refine Below.drew ?_ | with_reducible refine Below.alloc ?_ (by first | exact Nat.le_refl _ | simp | (simp; omega)) _ | with_reducible refine Below.setCell ?_ (by first | exact Nat.le_refl _ | simp | (simp; omega)) _)⟩
set_option maxHeartbeats 1000000 in
theorem read_f12 (c : Reg) (m l k : Int) (hm : decide (leastV 3858 ≤ m) = true) (W : World) : Calls Try.prog 11 #[regV c, .int .i64 m, .int .i64 3858, .int .u64 l, .int .u64 k] W fun e W' => e = .returned (.tuple #[.int .u64 0, .bool true]) ∧ Below W.heap.size W W' := by
  go_enter Try.func11, Try.ntmps11
  go_wp2_with (first | (go_at_call 20; (with_reducible refine (may_any m 3858 true hm _).mono ?_); rintro e w' ⟨rfl, rfl⟩) | (go_at_call 21; (with_reducible refine (field_f12 _ _).mono ?_); rintro e w' ⟨rfl, rfl⟩) | fail)
  all_goals go_ret2
  all_goals exact ⟨rfl, by repeat (first | with_reducible exact Below.refl _ _ | with_reducible refine Below.drew ?_ | with_reducible refine Below.alloc ?_ (by first | exact Nat.le_refl _ | simp | (simp; omega)) _ | with_reducible refine Below.setCell ?_ (by first | exact Nat.le_refl _ | simp | (simp; omega)) _)⟩
set_option maxHeartbeats 1000000 in
theorem read_f13 (c : Reg) (m l k : Int) (hm : decide (leastV 3859 ≤ m) = true) (W : World) : Calls Try.prog 11 #[regV c, .int .i64 m, .int .i64 3859, .int .u64 l, .int .u64 k] W fun e W' => e = .returned (.tuple #[.int .u64 0, .bool true]) ∧ Below W.heap.size W W' := by
  go_enter Try.func11, Try.ntmps11
  go_wp2_with (first | (go_at_call 20; (with_reducible refine (may_any m 3859 true hm _).mono ?_); rintro e w' ⟨rfl, rfl⟩) | (go_at_call 21; (with_reducible refine (field_f13 _ _).mono ?_); rintro e w' ⟨rfl, rfl⟩) | fail)
  all_goals go_ret2
  all_goals exact ⟨rfl, by repeat (first | with_reducible exact Below.refl _ _ | with_reducible refine Below.drew ?_ | with_reducible refine Below.alloc ?_ (by first | exact Nat.le_refl _ | simp | (simp; omega)) _ | with_reducible refine Below.setCell ?_ (by first | exact Nat.le_refl _ | simp | (simp; omega)) _)⟩
set_option maxHeartbeats 1000000 in
theorem read_f14 (c : Reg) (m l k : Int) (hm : decide (leastV 3860 ≤ m) = true) (W : World) : Calls Try.prog 11 #[regV c, .int .i64 m, .int .i64 3860, .int .u64 l, .int .u64 k] W fun e W' => e = .returned (.tuple #[.int .u64 0, .bool true]) ∧ Below W.heap.size W W' := by
  go_enter Try.func11, Try.ntmps11
  go_wp2_with (first | (go_at_call 20; (with_reducible refine (may_any m 3860 true hm _).mono ?_); rintro e w' ⟨rfl, rfl⟩) | (go_at_call 21; (with_reducible refine (field_f14 _ _).mono ?_); rintro e w' ⟨rfl, rfl⟩) | fail)
  all_goals go_ret2
  all_goals exact ⟨rfl, by repeat (first | with_reducible exact Below.refl _ _ | with_reducible refine Below.drew ?_ | with_reducible refine Below.alloc ?_ (by first | exact Nat.le_refl _ | simp | (simp; omega)) _ | with_reducible refine Below.setCell ?_ (by first | exact Nat.le_refl _ | simp | (simp; omega)) _)⟩

end Go.Proofs.Ythchakfffenoiaa
