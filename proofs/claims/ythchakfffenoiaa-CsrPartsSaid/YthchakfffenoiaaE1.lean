/- Write of the reference, part 1. -/
import Derived.Test.YthchakfffenoiaaS
import Derived.Test.YthchakfffenoiaaC
namespace Go.Proofs.Ythchakfffenoiaa
open Go.RowKit Go.Deep Go.Joins
set_option maxRecDepth 100000 in
set_option maxHeartbeats 1000000 in
theorem rwrite_100 (c : Reg) (m v : Int) (hm : decide (leastV 256 ≤ m) = true) (W : World) : Calls Try.prog 14 #[regV c, .int .i64 m, .int .i64 256, .int .u64 v] W fun e W' => e = .returned (.tuple #[.agg #[.int .u64 (mxV c.s0 v 786722), .int .u64 c.s1, .int .u64 c.s2, .int .u64 c.s3, .int .u64 c.s4, .int .u64 c.s5, .int .u64 c.s6, .int .u64 c.s7, .int .u64 c.s8, .int .u64 c.s9, .int .u64 c.s10, .int .u64 c.s11, .int .u64 c.s12, .int .u64 c.s13, .int .u64 c.s14, .int .u64 c.s15], .bool true]) ∧ Below W.heap.size W W' := by
  go_enter Try.func14, Try.ntmps14
  go_upto_region 47 with (first | (go_at_call 23; (with_reducible refine (rmay_yes m 256 true (by decide) (by decide) hm (by decide) _).mono ?_); rintro e w' ⟨rfl, rfl⟩) | (go_at_call 24; (with_reducible refine (known_100 c 0 0 _).mono ?_); rintro e w' ⟨rfl, rfl⟩) | fail)
  refine wp_region_lit ?_
  refine wpList_load_run rfl 24 (.tmp 4) rfl _ (regV (⟨(mxV c.s0 v 786722), c.s1, c.s2, c.s3, c.s4, c.s5, c.s6, c.s7, c.s8, c.s9, c.s10, c.s11, c.s12, c.s13, c.s14, c.s15⟩ : Reg)) rfl (load_at _ _ (⟨(mxV c.s0 v 786722), c.s1, c.s2, c.s3, c.s4, c.s5, c.s6, c.s7, c.s8, c.s9, c.s10, c.s11, c.s12, c.s13, c.s14, c.s15⟩ : Reg) (heap3a W _ _ _)) ?_
  refine wpList_store_run rfl 24 (.tmp 8) (.tmp 146) rfl _ (regV (⟨(mxV c.s0 v 786722), c.s1, c.s2, c.s3, c.s4, c.s5, c.s6, c.s7, c.s8, c.s9, c.s10, c.s11, c.s12, c.s13, c.s14, c.s15⟩ : Reg)) rfl rfl (store_at _ _ _ (⟨(mxV c.s0 v 786722), c.s1, c.s2, c.s3, c.s4, c.s5, c.s6, c.s7, c.s8, c.s9, c.s10, c.s11, c.s12, c.s13, c.s14, c.s15⟩ : Reg) (heap3b W _ _ _) rfl) ?_
  go_wp2
  refine bodyPost_ret (v := .tuple #[.agg #[.int .u64 (mxV c.s0 v 786722), .int .u64 c.s1, .int .u64 c.s2, .int .u64 c.s3, .int .u64 c.s4, .int .u64 c.s5, .int .u64 c.s6, .int .u64 c.s7, .int .u64 c.s8, .int .u64 c.s9, .int .u64 c.s10, .int .u64 c.s11, .int .u64 c.s12, .int .u64 c.s13, .int .u64 c.s14, .int .u64 c.s15], .bool true]) (by rw [results_cell_tmp Try.results14]; simp [asAddr, Result.andThen, result_at _ _ _ (⟨(mxV c.s0 v 786722), c.s1, c.s2, c.s3, c.s4, c.s5, c.s6, c.s7, c.s8, c.s9, c.s10, c.s11, c.s12, c.s13, c.s14, c.s15⟩ : Reg) (heap3b W _ _ _)]) rfl ?_
  exact ⟨rfl, below3 W _ _ _ _⟩
set_option maxRecDepth 100000 in
set_option maxHeartbeats 1000000 in
theorem rwrite_141 (c : Reg) (m v : Int) (hm : decide (leastV 321 ≤ m) = true) (W : World) : Calls Try.prog 14 #[regV c, .int .i64 m, .int .i64 321, .int .u64 v] W fun e W' => e = .returned (.tuple #[.agg #[.int .u64 c.s0, .int .u64 c.s1, .int .u64 c.s2, .int .u64 c.s3, .int .u64 c.s4, .int .u64 c.s5, .int .u64 c.s6, .int .u64 c.s7, .int .u64 c.s8, .int .u64 c.s9, .int .u64 c.s10, .int .u64 c.s11, .int .u64 (bits .andNot .u64 v 1), .int .u64 c.s13, .int .u64 c.s14, .int .u64 c.s15], .bool true]) ∧ Below W.heap.size W W' := by
  go_enter Try.func14, Try.ntmps14
  go_upto_region 47 with (first | (go_at_call 23; (with_reducible refine (rmay_yes m 321 true (by decide) (by decide) hm (by decide) _).mono ?_); rintro e w' ⟨rfl, rfl⟩) | (go_at_call 24; (with_reducible refine (known_141 c 0 0 _).mono ?_); rintro e w' ⟨rfl, rfl⟩) | fail)
  refine wp_region_lit ?_
  refine wpList_load_run rfl 24 (.tmp 4) rfl _ (regV (⟨c.s0, c.s1, c.s2, c.s3, c.s4, c.s5, c.s6, c.s7, c.s8, c.s9, c.s10, c.s11, (bits .andNot .u64 v 1), c.s13, c.s14, c.s15⟩ : Reg)) rfl (load_at _ _ (⟨c.s0, c.s1, c.s2, c.s3, c.s4, c.s5, c.s6, c.s7, c.s8, c.s9, c.s10, c.s11, (bits .andNot .u64 v 1), c.s13, c.s14, c.s15⟩ : Reg) (heap3a W _ _ _)) ?_
  refine wpList_store_run rfl 24 (.tmp 8) (.tmp 146) rfl _ (regV (⟨c.s0, c.s1, c.s2, c.s3, c.s4, c.s5, c.s6, c.s7, c.s8, c.s9, c.s10, c.s11, (bits .andNot .u64 v 1), c.s13, c.s14, c.s15⟩ : Reg)) rfl rfl (store_at _ _ _ (⟨c.s0, c.s1, c.s2, c.s3, c.s4, c.s5, c.s6, c.s7, c.s8, c.s9, c.s10, c.s11, (bits .andNot .u64 v 1), c.s13, c.s14, c.s15⟩ : Reg) (heap3b W _ _ _) rfl) ?_
  go_wp2
  refine bodyPost_ret (v := .tuple #[.agg #[.int .u64 c.s0, .int .u64 c.s1, .int .u64 c.s2, .int .u64 c.s3, .int .u64 c.s4, .int .u64 c.s5, .int .u64 c.s6, .int .u64 c.s7, .int .u64 c.s8, .int .u64 c.s9, .int .u64 c.s10, .int .u64 c.s11, .int .u64 (bits .andNot .u64 v 1), .int .u64 c.s13, .int .u64 c.s14, .int .u64 c.s15], .bool true]) (by rw [results_cell_tmp Try.results14]; simp [asAddr, Result.andThen, result_at _ _ _ (⟨c.s0, c.s1, c.s2, c.s3, c.s4, c.s5, c.s6, c.s7, c.s8, c.s9, c.s10, c.s11, (bits .andNot .u64 v 1), c.s13, c.s14, c.s15⟩ : Reg) (heap3b W _ _ _)]) rfl ?_
  exact ⟨rfl, below3 W _ _ _ _⟩
set_option maxRecDepth 100000 in
set_option maxHeartbeats 1000000 in
theorem rwrite_180 (c : Reg) (m v : Int) (hm : decide (leastV 384 ≤ m) = true) (W : World) : Calls Try.prog 14 #[regV c, .int .i64 m, .int .i64 384, .int .u64 v] W fun e W' => e = .returned (.tuple #[.agg #[.int .u64 c.s0, .int .u64 c.s1, .int .u64 c.s2, .int .u64 c.s3, .int .u64 c.s4, .int .u64 c.s5, .int .u64 c.s6, .int .u64 c.s7, .int .u64 c.s8, .int .u64 c.s9, .int .u64 c.s10, .int .u64 c.s11, .int .u64 c.s12, .int .u64 c.s13, .int .u64 c.s14, .int .u64 (spV c.s15 v)], .bool true]) ∧ Below W.heap.size W W' := by
  go_enter Try.func14, Try.ntmps14
  go_upto_region 47 with (first | (go_at_call 23; (with_reducible refine (rmay_yes m 384 true (by decide) (by decide) hm (by decide) _).mono ?_); rintro e w' ⟨rfl, rfl⟩) | (go_at_call 24; (with_reducible refine (known_180 c 0 0 _).mono ?_); rintro e w' ⟨rfl, rfl⟩) | (go_at_call 19; (with_reducible refine (satp_any _ _ _).mono ?_); rintro e w' ⟨rfl, rfl⟩) | fail)
  refine wp_region_lit ?_
  refine wpList_load_run rfl 24 (.tmp 4) rfl _ (regV (⟨c.s0, c.s1, c.s2, c.s3, c.s4, c.s5, c.s6, c.s7, c.s8, c.s9, c.s10, c.s11, c.s12, c.s13, c.s14, (spV c.s15 v)⟩ : Reg)) rfl (load_at _ _ (⟨c.s0, c.s1, c.s2, c.s3, c.s4, c.s5, c.s6, c.s7, c.s8, c.s9, c.s10, c.s11, c.s12, c.s13, c.s14, (spV c.s15 v)⟩ : Reg) (heap3a W _ _ _)) ?_
  refine wpList_store_run rfl 24 (.tmp 8) (.tmp 146) rfl _ (regV (⟨c.s0, c.s1, c.s2, c.s3, c.s4, c.s5, c.s6, c.s7, c.s8, c.s9, c.s10, c.s11, c.s12, c.s13, c.s14, (spV c.s15 v)⟩ : Reg)) rfl rfl (store_at _ _ _ (⟨c.s0, c.s1, c.s2, c.s3, c.s4, c.s5, c.s6, c.s7, c.s8, c.s9, c.s10, c.s11, c.s12, c.s13, c.s14, (spV c.s15 v)⟩ : Reg) (heap3b W _ _ _) rfl) ?_
  go_wp2
  refine bodyPost_ret (v := .tuple #[.agg #[.int .u64 c.s0, .int .u64 c.s1, .int .u64 c.s2, .int .u64 c.s3, .int .u64 c.s4, .int .u64 c.s5, .int .u64 c.s6, .int .u64 c.s7, .int .u64 c.s8, .int .u64 c.s9, .int .u64 c.s10, .int .u64 c.s11, .int .u64 c.s12, .int .u64 c.s13, .int .u64 c.s14, .int .u64 (spV c.s15 v)], .bool true]) (by rw [results_cell_tmp Try.results14]; simp [asAddr, Result.andThen, result_at _ _ _ (⟨c.s0, c.s1, c.s2, c.s3, c.s4, c.s5, c.s6, c.s7, c.s8, c.s9, c.s10, c.s11, c.s12, c.s13, c.s14, (spV c.s15 v)⟩ : Reg) (heap3b W _ _ _)]) rfl ?_
  exact ⟨rfl, below3 W _ _ _ _⟩
set_option maxRecDepth 100000 in
set_option maxHeartbeats 1000000 in
theorem rwrite_303 (c : Reg) (m v : Int) (hm : decide (leastV 771 ≤ m) = true) (W : World) : Calls Try.prog 14 #[regV c, .int .i64 m, .int .i64 771, .int .u64 v] W fun e W' => e = .returned (.tuple #[.agg #[.int .u64 c.s0, .int .u64 c.s1, .int .u64 (bits .and .u64 v 546), .int .u64 c.s3, .int .u64 c.s4, .int .u64 c.s5, .int .u64 c.s6, .int .u64 c.s7, .int .u64 c.s8, .int .u64 c.s9, .int .u64 c.s10, .int .u64 c.s11, .int .u64 c.s12, .int .u64 c.s13, .int .u64 c.s14, .int .u64 c.s15], .bool true]) ∧ Below W.heap.size W W' := by
  go_enter Try.func14, Try.ntmps14
  go_upto_region 47 with (first | (go_at_call 23; (with_reducible refine (rmay_yes m 771 true (by decide) (by decide) hm (by decide) _).mono ?_); rintro e w' ⟨rfl, rfl⟩) | (go_at_call 24; (with_reducible refine (known_303 c 0 0 _).mono ?_); rintro e w' ⟨rfl, rfl⟩) | fail)
  refine wp_region_lit ?_
  refine wpList_load_run rfl 24 (.tmp 4) rfl _ (regV (⟨c.s0, c.s1, (bits .and .u64 v 546), c.s3, c.s4, c.s5, c.s6, c.s7, c.s8, c.s9, c.s10, c.s11, c.s12, c.s13, c.s14, c.s15⟩ : Reg)) rfl (load_at _ _ (⟨c.s0, c.s1, (bits .and .u64 v 546), c.s3, c.s4, c.s5, c.s6, c.s7, c.s8, c.s9, c.s10, c.s11, c.s12, c.s13, c.s14, c.s15⟩ : Reg) (heap3a W _ _ _)) ?_
  refine wpList_store_run rfl 24 (.tmp 8) (.tmp 146) rfl _ (regV (⟨c.s0, c.s1, (bits .and .u64 v 546), c.s3, c.s4, c.s5, c.s6, c.s7, c.s8, c.s9, c.s10, c.s11, c.s12, c.s13, c.s14, c.s15⟩ : Reg)) rfl rfl (store_at _ _ _ (⟨c.s0, c.s1, (bits .and .u64 v 546), c.s3, c.s4, c.s5, c.s6, c.s7, c.s8, c.s9, c.s10, c.s11, c.s12, c.s13, c.s14, c.s15⟩ : Reg) (heap3b W _ _ _) rfl) ?_
  go_wp2
  refine bodyPost_ret (v := .tuple #[.agg #[.int .u64 c.s0, .int .u64 c.s1, .int .u64 (bits .and .u64 v 546), .int .u64 c.s3, .int .u64 c.s4, .int .u64 c.s5, .int .u64 c.s6, .int .u64 c.s7, .int .u64 c.s8, .int .u64 c.s9, .int .u64 c.s10, .int .u64 c.s11, .int .u64 c.s12, .int .u64 c.s13, .int .u64 c.s14, .int .u64 c.s15], .bool true]) (by rw [results_cell_tmp Try.results14]; simp [asAddr, Result.andThen, result_at _ _ _ (⟨c.s0, c.s1, (bits .and .u64 v 546), c.s3, c.s4, c.s5, c.s6, c.s7, c.s8, c.s9, c.s10, c.s11, c.s12, c.s13, c.s14, c.s15⟩ : Reg) (heap3b W _ _ _)]) rfl ?_
  exact ⟨rfl, below3 W _ _ _ _⟩
set_option maxRecDepth 100000 in
set_option maxHeartbeats 1000000 in
theorem rwrite_341 (c : Reg) (m v : Int) (hm : decide (leastV 833 ≤ m) = true) (W : World) : Calls Try.prog 14 #[regV c, .int .i64 m, .int .i64 833, .int .u64 v] W fun e W' => e = .returned (.tuple #[.agg #[.int .u64 c.s0, .int .u64 c.s1, .int .u64 c.s2, .int .u64 c.s3, .int .u64 c.s4, .int .u64 c.s5, .int .u64 c.s6, .int .u64 (bits .andNot .u64 v 1), .int .u64 c.s8, .int .u64 c.s9, .int .u64 c.s10, .int .u64 c.s11, .int .u64 c.s12, .int .u64 c.s13, .int .u64 c.s14, .int .u64 c.s15], .bool true]) ∧ Below W.heap.size W W' := by
  go_enter Try.func14, Try.ntmps14
  go_upto_region 47 with (first | (go_at_call 23; (with_reducible refine (rmay_yes m 833 true (by decide) (by decide) hm (by decide) _).mono ?_); rintro e w' ⟨rfl, rfl⟩) | (go_at_call 24; (with_reducible refine (known_341 c 0 0 _).mono ?_); rintro e w' ⟨rfl, rfl⟩) | fail)
  refine wp_region_lit ?_
  refine wpList_load_run rfl 24 (.tmp 4) rfl _ (regV (⟨c.s0, c.s1, c.s2, c.s3, c.s4, c.s5, c.s6, (bits .andNot .u64 v 1), c.s8, c.s9, c.s10, c.s11, c.s12, c.s13, c.s14, c.s15⟩ : Reg)) rfl (load_at _ _ (⟨c.s0, c.s1, c.s2, c.s3, c.s4, c.s5, c.s6, (bits .andNot .u64 v 1), c.s8, c.s9, c.s10, c.s11, c.s12, c.s13, c.s14, c.s15⟩ : Reg) (heap3a W _ _ _)) ?_
  refine wpList_store_run rfl 24 (.tmp 8) (.tmp 146) rfl _ (regV (⟨c.s0, c.s1, c.s2, c.s3, c.s4, c.s5, c.s6, (bits .andNot .u64 v 1), c.s8, c.s9, c.s10, c.s11, c.s12, c.s13, c.s14, c.s15⟩ : Reg)) rfl rfl (store_at _ _ _ (⟨c.s0, c.s1, c.s2, c.s3, c.s4, c.s5, c.s6, (bits .andNot .u64 v 1), c.s8, c.s9, c.s10, c.s11, c.s12, c.s13, c.s14, c.s15⟩ : Reg) (heap3b W _ _ _) rfl) ?_
  go_wp2
  refine bodyPost_ret (v := .tuple #[.agg #[.int .u64 c.s0, .int .u64 c.s1, .int .u64 c.s2, .int .u64 c.s3, .int .u64 c.s4, .int .u64 c.s5, .int .u64 c.s6, .int .u64 (bits .andNot .u64 v 1), .int .u64 c.s8, .int .u64 c.s9, .int .u64 c.s10, .int .u64 c.s11, .int .u64 c.s12, .int .u64 c.s13, .int .u64 c.s14, .int .u64 c.s15], .bool true]) (by rw [results_cell_tmp Try.results14]; simp [asAddr, Result.andThen, result_at _ _ _ (⟨c.s0, c.s1, c.s2, c.s3, c.s4, c.s5, c.s6, (bits .andNot .u64 v 1), c.s8, c.s9, c.s10, c.s11, c.s12, c.s13, c.s14, c.s15⟩ : Reg) (heap3b W _ _ _)]) rfl ?_
  exact ⟨rfl, below3 W _ _ _ _⟩
set_option maxRecDepth 100000 in
set_option maxHeartbeats 1000000 in
theorem rwrite_b00 (c : Reg) (m v : Int) (hm : decide (leastV 2816 ≤ m) = true) (W : World) : Calls Try.prog 14 #[regV c, .int .i64 m, .int .i64 2816, .int .u64 v] W fun e W' => e = .returned (.tuple #[.agg #[.int .u64 c.s0, .int .u64 c.s1, .int .u64 c.s2, .int .u64 c.s3, .int .u64 c.s4, .int .u64 c.s5, .int .u64 c.s6, .int .u64 c.s7, .int .u64 c.s8, .int .u64 c.s9, .int .u64 c.s10, .int .u64 c.s11, .int .u64 c.s12, .int .u64 c.s13, .int .u64 c.s14, .int .u64 c.s15], .bool true]) ∧ Below W.heap.size W W' := by
  go_enter Try.func14, Try.ntmps14
  go_upto_region 47 with (first | (go_at_call 23; (with_reducible refine (rmay_yes m 2816 true (by decide) (by decide) hm (by decide) _).mono ?_); rintro e w' ⟨rfl, rfl⟩) | (go_at_call 24; (with_reducible refine (known_b00 c 0 0 _).mono ?_); rintro e w' ⟨rfl, rfl⟩) | fail)
  refine wp_region_lit ?_
  refine wpList_load_run rfl 24 (.tmp 4) rfl _ (regV c) rfl (load_at _ _ c (heap3a W _ _ _)) ?_
  refine wpList_store_run rfl 24 (.tmp 8) (.tmp 146) rfl _ (regV c) rfl rfl (store_at _ _ _ c (heap3b W _ _ _) rfl) ?_
  go_wp2
  refine bodyPost_ret (v := .tuple #[.agg #[.int .u64 c.s0, .int .u64 c.s1, .int .u64 c.s2, .int .u64 c.s3, .int .u64 c.s4, .int .u64 c.s5, .int .u64 c.s6, .int .u64 c.s7, .int .u64 c.s8, .int .u64 c.s9, .int .u64 c.s10, .int .u64 c.s11, .int .u64 c.s12, .int .u64 c.s13, .int .u64 c.s14, .int .u64 c.s15], .bool true]) (by rw [results_cell_tmp Try.results14]; simp [asAddr, Result.andThen, result_at _ _ _ c (heap3b W _ _ _)]) rfl ?_
  exact ⟨rfl, below3 W _ _ _ _⟩
set_option maxRecDepth 100000 in
set_option maxHeartbeats 1000000 in
theorem rwrite_none (c : Reg) (m n v : Int) (h0 : 0 ≤ n) (h1 : n ≤ 4095) (hm : decide (leastV n ≤ m) = true) (ho : (onceV n != 3) = true) (h100 : (n == 256) = false) (h104 : (n == 260) = false) (h105 : (n == 261) = false) (h140 : (n == 320) = false) (h141 : (n == 321) = false) (h142 : (n == 322) = false) (h143 : (n == 323) = false) (h144 : (n == 324) = false) (h180 : (n == 384) = false) (h300 : (n == 768) = false) (h301 : (n == 769) = false) (h302 : (n == 770) = false) (h303 : (n == 771) = false) (h304 : (n == 772) = false) (h305 : (n == 773) = false) (h340 : (n == 832) = false) (h341 : (n == 833) = false) (h342 : (n == 834) = false) (h343 : (n == 835) = false) (h344 : (n == 836) = false) (hb00 : (n == 2816) = false) (hb02 : (n == 2818) = false) (hc00 : (n == 3072) = false) (hc01 : (n == 3073) = false) (hc02 : (n == 3074) = false) (hf11 : (n == 3857) = false) (hf12 : (n == 3858) = false) (hf13 : (n == 3859) = false) (hf14 : (n == 3860) = false) (W : World) : Calls Try.prog 14 #[regV c, .int .i64 m, .int .i64 n, .int .u64 v] W fun e W' => e = .returned (.tuple #[.agg #[.int .u64 c.s0, .int .u64 c.s1, .int .u64 c.s2, .int .u64 c.s3, .int .u64 c.s4, .int .u64 c.s5, .int .u64 c.s6, .int .u64 c.s7, .int .u64 c.s8, .int .u64 c.s9, .int .u64 c.s10, .int .u64 c.s11, .int .u64 c.s12, .int .u64 c.s13, .int .u64 c.s14, .int .u64 c.s15], .bool false]) ∧ Below W.heap.size W W' := by
  go_enter Try.func14, Try.ntmps14
  go_upto_region 6 with (first | (go_at_call 23; (with_reducible refine (rmay_yes m n true h0 h1 hm ho _).mono ?_); rintro e w' ⟨rfl, rfl⟩) | (go_at_call 24; (with_reducible refine (known_none c n 0 0 h100 h104 h105 h140 h141 h142 h143 h144 h180 h300 h301 h302 h303 h304 h305 h340 h341 h342 h343 h344 hb00 hb02 hc00 hc01 hc02 hf11 hf12 hf13 hf14 _).mono ?_); rintro e w' ⟨rfl, rfl⟩) | fail)
  refine wp_region_lit ?_
  refine wpList_load_run rfl 24 (.tmp 4) rfl _ (regV c) rfl (load_at _ _ c (heap3a W _ _ _)) ?_
  refine wpList_store_run rfl 24 (.tmp 8) (.tmp 32) rfl _ (regV c) rfl rfl (store_at _ _ _ c (heap3b W _ _ _) rfl) ?_
  go_wp2
  refine bodyPost_ret (v := .tuple #[.agg #[.int .u64 c.s0, .int .u64 c.s1, .int .u64 c.s2, .int .u64 c.s3, .int .u64 c.s4, .int .u64 c.s5, .int .u64 c.s6, .int .u64 c.s7, .int .u64 c.s8, .int .u64 c.s9, .int .u64 c.s10, .int .u64 c.s11, .int .u64 c.s12, .int .u64 c.s13, .int .u64 c.s14, .int .u64 c.s15], .bool false]) (by rw [results_cell_tmp Try.results14]; simp [asAddr, Result.andThen, result_at _ _ _ c (heap3b W _ _ _)]) rfl ?_
  exact ⟨rfl, below3 W _ _ _ _⟩

end Go.Proofs.Ythchakfffenoiaa
