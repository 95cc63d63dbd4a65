/- Write of the reference, part 2. -/
import Derived.Test.YthchakfffenoiaaS
import Derived.Test.YthchakfffenoiaaC
namespace Go.Proofs.Ythchakfffenoiaa
open Go.RowKit Go.Deep Go.Joins
set_option maxRecDepth 100000 in
set_option maxHeartbeats 1000000 in
theorem rwrite_104 (c : Reg) (m v : Int) (hm : decide (leastV 260 ≤ m) = true) (W : World) : Calls Try.prog 14 #[regV c, .int .i64 m, .int .i64 260, .int .u64 v] W fun e W' => e = .returned (.tuple #[.agg #[.int .u64 c.s0, .int .u64 c.s1, .int .u64 c.s2, .int .u64 (mxV c.s3 v c.s2), .int .u64 c.s4, .int .u64 c.s5, .int .u64 c.s6, .int .u64 c.s7, .int .u64 c.s8, .int .u64 c.s9, .int .u64 c.s10, .int .u64 c.s11, .int .u64 c.s12, .int .u64 c.s13, .int .u64 c.s14, .int .u64 c.s15], .bool true]) ∧ Below W.heap.size W W' := by
  go_enter Try.func14, Try.ntmps14
  go_upto_region 47 with (first | (go_at_call 23; (with_reducible refine (rmay_yes m 260 true (by decide) (by decide) hm (by decide) _).mono ?_); rintro e w' ⟨rfl, rfl⟩) | (go_at_call 24; (with_reducible refine (known_104 c 0 0 _).mono ?_); rintro e w' ⟨rfl, rfl⟩) | fail)
  refine wp_region_lit ?_
  refine wpList_load_run rfl 24 (.tmp 4) rfl _ (regV (⟨c.s0, c.s1, c.s2, (mxV c.s3 v c.s2), c.s4, c.s5, c.s6, c.s7, c.s8, c.s9, c.s10, c.s11, c.s12, c.s13, c.s14, c.s15⟩ : Reg)) rfl (load_at _ _ (⟨c.s0, c.s1, c.s2, (mxV c.s3 v c.s2), c.s4, c.s5, c.s6, c.s7, c.s8, c.s9, c.s10, c.s11, c.s12, c.s13, c.s14, c.s15⟩ : Reg) (heap3a W _ _ _)) ?_
  refine wpList_store_run rfl 24 (.tmp 8) (.tmp 146) rfl _ (regV (⟨c.s0, c.s1, c.s2, (mxV c.s3 v c.s2), c.s4, c.s5, c.s6, c.s7, c.s8, c.s9, c.s10, c.s11, c.s12, c.s13, c.s14, c.s15⟩ : Reg)) rfl rfl (store_at _ _ _ (⟨c.s0, c.s1, c.s2, (mxV c.s3 v c.s2), c.s4, c.s5, c.s6, c.s7, c.s8, c.s9, c.s10, c.s11, c.s12, c.s13, c.s14, c.s15⟩ : Reg) (heap3b W _ _ _) rfl) ?_
  go_wp2
  refine bodyPost_ret (v := .tuple #[.agg #[.int .u64 c.s0, .int .u64 c.s1, .int .u64 c.s2, .int .u64 (mxV c.s3 v c.s2), .int .u64 c.s4, .int .u64 c.s5, .int .u64 c.s6, .int .u64 c.s7, .int .u64 c.s8, .int .u64 c.s9, .int .u64 c.s10, .int .u64 c.s11, .int .u64 c.s12, .int .u64 c.s13, .int .u64 c.s14, .int .u64 c.s15], .bool true]) (by rw [results_cell_tmp Try.results14]; simp [asAddr, Result.andThen, result_at _ _ _ (⟨c.s0, c.s1, c.s2, (mxV c.s3 v c.s2), c.s4, c.s5, c.s6, c.s7, c.s8, c.s9, c.s10, c.s11, c.s12, c.s13, c.s14, c.s15⟩ : Reg) (heap3b W _ _ _)]) rfl ?_
  exact ⟨rfl, below3 W _ _ _ _⟩
set_option maxRecDepth 100000 in
set_option maxHeartbeats 1000000 in
theorem rwrite_142 (c : Reg) (m v : Int) (hm : decide (leastV 322 ≤ m) = true) (W : World) : Calls Try.prog 14 #[regV c, .int .i64 m, .int .i64 322, .int .u64 v] W fun e W' => e = .returned (.tuple #[.agg #[.int .u64 c.s0, .int .u64 c.s1, .int .u64 c.s2, .int .u64 c.s3, .int .u64 c.s4, .int .u64 c.s5, .int .u64 c.s6, .int .u64 c.s7, .int .u64 c.s8, .int .u64 c.s9, .int .u64 c.s10, .int .u64 c.s11, .int .u64 c.s12, .int .u64 v, .int .u64 c.s14, .int .u64 c.s15], .bool true]) ∧ Below W.heap.size W W' := by
  go_enter Try.func14, Try.ntmps14
  go_upto_region 47 with (first | (go_at_call 23; (with_reducible refine (rmay_yes m 322 true (by decide) (by decide) hm (by decide) _).mono ?_); rintro e w' ⟨rfl, rfl⟩) | (go_at_call 24; (with_reducible refine (known_142 c 0 0 _).mono ?_); rintro e w' ⟨rfl, rfl⟩) | fail)
  refine wp_region_lit ?_
  refine wpList_load_run rfl 24 (.tmp 4) rfl _ (regV (⟨c.s0, c.s1, c.s2, c.s3, c.s4, c.s5, c.s6, c.s7, c.s8, c.s9, c.s10, c.s11, c.s12, v, c.s14, c.s15⟩ : Reg)) rfl (load_at _ _ (⟨c.s0, c.s1, c.s2, c.s3, c.s4, c.s5, c.s6, c.s7, c.s8, c.s9, c.s10, c.s11, c.s12, v, c.s14, c.s15⟩ : Reg) (heap3a W _ _ _)) ?_
  refine wpList_store_run rfl 24 (.tmp 8) (.tmp 146) rfl _ (regV (⟨c.s0, c.s1, c.s2, c.s3, c.s4, c.s5, c.s6, c.s7, c.s8, c.s9, c.s10, c.s11, c.s12, v, c.s14, c.s15⟩ : Reg)) rfl rfl (store_at _ _ _ (⟨c.s0, c.s1, c.s2, c.s3, c.s4, c.s5, c.s6, c.s7, c.s8, c.s9, c.s10, c.s11, c.s12, v, c.s14, c.s15⟩ : Reg) (heap3b W _ _ _) rfl) ?_
  go_wp2
  refine bodyPost_ret (v := .tuple #[.agg #[.int .u64 c.s0, .int .u64 c.s1, .int .u64 c.s2, .int .u64 c.s3, .int .u64 c.s4, .int .u64 c.s5, .int .u64 c.s6, .int .u64 c.s7, .int .u64 c.s8, .int .u64 c.s9, .int .u64 c.s10, .int .u64 c.s11, .int .u64 c.s12, .int .u64 v, .int .u64 c.s14, .int .u64 c.s15], .bool true]) (by rw [results_cell_tmp Try.results14]; simp [asAddr, Result.andThen, result_at _ _ _ (⟨c.s0, c.s1, c.s2, c.s3, c.s4, c.s5, c.s6, c.s7, c.s8, c.s9, c.s10, c.s11, c.s12, v, c.s14, c.s15⟩ : Reg) (heap3b W _ _ _)]) rfl ?_
  exact ⟨rfl, below3 W _ _ _ _⟩
set_option maxRecDepth 100000 in
set_option maxHeartbeats 1000000 in
theorem rwrite_300 (c : Reg) (m v : Int) (hm : decide (leastV 768 ≤ m) = true) (W : World) : Calls Try.prog 14 #[regV c, .int .i64 m, .int .i64 768, .int .u64 v] W fun e W' => e = .returned (.tuple #[.agg #[.int .u64 (stV v), .int .u64 c.s1, .int .u64 c.s2, .int .u64 c.s3, .int .u64 c.s4, .int .u64 c.s5, .int .u64 c.s6, .int .u64 c.s7, .int .u64 c.s8, .int .u64 c.s9, .int .u64 c.s10, .int .u64 c.s11, .int .u64 c.s12, .int .u64 c.s13, .int .u64 c.s14, .int .u64 c.s15], .bool true]) ∧ Below W.heap.size W W' := by
  go_enter Try.func14, Try.ntmps14
  go_upto_region 47 with (first | (go_at_call 23; (with_reducible refine (rmay_yes m 768 true (by decide) (by decide) hm (by decide) _).mono ?_); rintro e w' ⟨rfl, rfl⟩) | (go_at_call 24; (with_reducible refine (known_300 c 0 0 _).mono ?_); rintro e w' ⟨rfl, rfl⟩) | (go_at_call 18; (with_reducible refine (rstatus_any _ _).mono ?_); rintro e w' ⟨rfl, rfl⟩) | fail)
  refine wp_region_lit ?_
  refine wpList_load_run rfl 24 (.tmp 4) rfl _ (regV (⟨(stV v), c.s1, c.s2, c.s3, c.s4, c.s5, c.s6, c.s7, c.s8, c.s9, c.s10, c.s11, c.s12, c.s13, c.s14, c.s15⟩ : Reg)) rfl (load_at _ _ (⟨(stV v), c.s1, c.s2, c.s3, c.s4, c.s5, c.s6, c.s7, c.s8, c.s9, c.s10, c.s11, c.s12, c.s13, c.s14, c.s15⟩ : Reg) (heap3a W _ _ _)) ?_
  refine wpList_store_run rfl 24 (.tmp 8) (.tmp 146) rfl _ (regV (⟨(stV v), c.s1, c.s2, c.s3, c.s4, c.s5, c.s6, c.s7, c.s8, c.s9, c.s10, c.s11, c.s12, c.s13, c.s14, c.s15⟩ : Reg)) rfl rfl (store_at _ _ _ (⟨(stV v), c.s1, c.s2, c.s3, c.s4, c.s5, c.s6, c.s7, c.s8, c.s9, c.s10, c.s11, c.s12, c.s13, c.s14, c.s15⟩ : Reg) (heap3b W _ _ _) rfl) ?_
  go_wp2
  refine bodyPost_ret (v := .tuple #[.agg #[.int .u64 (stV v), .int .u64 c.s1, .int .u64 c.s2, .int .u64 c.s3, .int .u64 c.s4, .int .u64 c.s5, .int .u64 c.s6, .int .u64 c.s7, .int .u64 c.s8, .int .u64 c.s9, .int .u64 c.s10, .int .u64 c.s11, .int .u64 c.s12, .int .u64 c.s13, .int .u64 c.s14, .int .u64 c.s15], .bool true]) (by rw [results_cell_tmp Try.results14]; simp [asAddr, Result.andThen, result_at _ _ _ (⟨(stV v), c.s1, c.s2, c.s3, c.s4, c.s5, c.s6, c.s7, c.s8, c.s9, c.s10, c.s11, c.s12, c.s13, c.s14, c.s15⟩ : Reg) (heap3b W _ _ _)]) rfl ?_
  exact ⟨rfl, below3 W _ _ _ _⟩
set_option maxRecDepth 100000 in
set_option maxHeartbeats 1000000 in
theorem rwrite_304 (c : Reg) (m v : Int) (hm : decide (leastV 772 ≤ m) = true) (W : World) : Calls Try.prog 14 #[regV c, .int .i64 m, .int .i64 772, .int .u64 v] W fun e W' => e = .returned (.tuple #[.agg #[.int .u64 c.s0, .int .u64 c.s1, .int .u64 c.s2, .int .u64 (bits .and .u64 v 2730), .int .u64 c.s4, .int .u64 c.s5, .int .u64 c.s6, .int .u64 c.s7, .int .u64 c.s8, .int .u64 c.s9, .int .u64 c.s10, .int .u64 c.s11, .int .u64 c.s12, .int .u64 c.s13, .int .u64 c.s14, .int .u64 c.s15], .bool true]) ∧ Below W.heap.size W W' := by
  go_enter Try.func14, Try.ntmps14
  go_upto_region 47 with (first | (go_at_call 23; (with_reducible refine (rmay_yes m 772 true (by decide) (by decide) hm (by decide) _).mono ?_); rintro e w' ⟨rfl, rfl⟩) | (go_at_call 24; (with_reducible refine (known_304 c 0 0 _).mono ?_); rintro e w' ⟨rfl, rfl⟩) | fail)
  refine wp_region_lit ?_
  refine wpList_load_run rfl 24 (.tmp 4) rfl _ (regV (⟨c.s0, c.s1, c.s2, (bits .and .u64 v 2730), c.s4, c.s5, c.s6, c.s7, c.s8, c.s9, c.s10, c.s11, c.s12, c.s13, c.s14, c.s15⟩ : Reg)) rfl (load_at _ _ (⟨c.s0, c.s1, c.s2, (bits .and .u64 v 2730), c.s4, c.s5, c.s6, c.s7, c.s8, c.s9, c.s10, c.s11, c.s12, c.s13, c.s14, c.s15⟩ : Reg) (heap3a W _ _ _)) ?_
  refine wpList_store_run rfl 24 (.tmp 8) (.tmp 146) rfl _ (regV (⟨c.s0, c.s1, c.s2, (bits .and .u64 v 2730), c.s4, c.s5, c.s6, c.s7, c.s8, c.s9, c.s10, c.s11, c.s12, c.s13, c.s14, c.s15⟩ : Reg)) rfl rfl (store_at _ _ _ (⟨c.s0, c.s1, c.s2, (bits .and .u64 v 2730), c.s4, c.s5, c.s6, c.s7, c.s8, c.s9, c.s10, c.s11, c.s12, c.s13, c.s14, c.s15⟩ : Reg) (heap3b W _ _ _) rfl) ?_
  go_wp2
  refine bodyPost_ret (v := .tuple #[.agg #[.int .u64 c.s0, .int .u64 c.s1, .int .u64 c.s2, .int .u64 (bits .and .u64 v 2730), .int .u64 c.s4, .int .u64 c.s5, .int .u64 c.s6, .int .u64 c.s7, .int .u64 c.s8, .int .u64 c.s9, .int .u64 c.s10, .int .u64 c.s11, .int .u64 c.s12, .int .u64 c.s13, .int .u64 c.s14, .int .u64 c.s15], .bool true]) (by rw [results_cell_tmp Try.results14]; simp [asAddr, Result.andThen, result_at _ _ _ (⟨c.s0, c.s1, c.s2, (bits .and .u64 v 2730), c.s4, c.s5, c.s6, c.s7, c.s8, c.s9, c.s10, c.s11, c.s12, c.s13, c.s14, c.s15⟩ : Reg) (heap3b W _ _ _)]) rfl ?_
  exact ⟨rfl, below3 W _ _ _ _⟩
set_option maxRecDepth 100000 in
set_option maxHeartbeats 1000000 in
theorem rwrite_342 (c : Reg) (m v : Int) (hm : decide (leastV 834 ≤ m) = true) (W : World) : Calls Try.prog 14 #[regV c, .int .i64 m, .int .i64 834, .int .u64 v] W fun e W' => e = .returned (.tuple #[.agg #[.int .u64 c.s0, .int .u64 c.s1, .int .u64 c.s2, .int .u64 c.s3, .int .u64 c.s4, .int .u64 c.s5, .int .u64 c.s6, .int .u64 c.s7, .int .u64 v, .int .u64 c.s9, .int .u64 c.s10, .int .u64 c.s11, .int .u64 c.s12, .int .u64 c.s13, .int .u64 c.s14, .int .u64 c.s15], .bool true]) ∧ Below W.heap.size W W' := by
  go_enter Try.func14, Try.ntmps14
  go_upto_region 47 with (first | (go_at_call 23; (with_reducible refine (rmay_yes m 834 true (by decide) (by decide) hm (by decide) _).mono ?_); rintro e w' ⟨rfl, rfl⟩) | (go_at_call 24; (with_reducible refine (known_342 c 0 0 _).mono ?_); rintro e w' ⟨rfl, rfl⟩) | fail)
  refine wp_region_lit ?_
  refine wpList_load_run rfl 24 (.tmp 4) rfl _ (regV (⟨c.s0, c.s1, c.s2, c.s3, c.s4, c.s5, c.s6, c.s7, v, c.s9, c.s10, c.s11, c.s12, c.s13, c.s14, c.s15⟩ : Reg)) rfl (load_at _ _ (⟨c.s0, c.s1, c.s2, c.s3, c.s4, c.s5, c.s6, c.s7, v, c.s9, c.s10, c.s11, c.s12, c.s13, c.s14, c.s15⟩ : Reg) (heap3a W _ _ _)) ?_
  refine wpList_store_run rfl 24 (.tmp 8) (.tmp 146) rfl _ (regV (⟨c.s0, c.s1, c.s2, c.s3, c.s4, c.s5, c.s6, c.s7, v, c.s9, c.s10, c.s11, c.s12, c.s13, c.s14, c.s15⟩ : Reg)) rfl rfl (store_at _ _ _ (⟨c.s0, c.s1, c.s2, c.s3, c.s4, c.s5, c.s6, c.s7, v, c.s9, c.s10, c.s11, c.s12, c.s13, c.s14, c.s15⟩ : Reg) (heap3b W _ _ _) rfl) ?_
  go_wp2
  refine bodyPost_ret (v := .tuple #[.agg #[.int .u64 c.s0, .int .u64 c.s1, .int .u64 c.s2, .int .u64 c.s3, .int .u64 c.s4, .int .u64 c.s5, .int .u64 c.s6, .int .u64 c.s7, .int .u64 v, .int .u64 c.s9, .int .u64 c.s10, .int .u64 c.s11, .int .u64 c.s12, .int .u64 c.s13, .int .u64 c.s14, .int .u64 c.s15], .bool true]) (by rw [results_cell_tmp Try.results14]; simp [asAddr, Result.andThen, result_at _ _ _ (⟨c.s0, c.s1, c.s2, c.s3, c.s4, c.s5, c.s6, c.s7, v, c.s9, c.s10, c.s11, c.s12, c.s13, c.s14, c.s15⟩ : Reg) (heap3b W _ _ _)]) rfl ?_
  exact ⟨rfl, below3 W _ _ _ _⟩
set_option maxRecDepth 100000 in
set_option maxHeartbeats 1000000 in
theorem rwrite_b02 (c : Reg) (m v : Int) (hm : decide (leastV 2818 ≤ m) = true) (W : World) : Calls Try.prog 14 #[regV c, .int .i64 m, .int .i64 2818, .int .u64 v] W fun e W' => e = .returned (.tuple #[.agg #[.int .u64 c.s0, .int .u64 c.s1, .int .u64 c.s2, .int .u64 c.s3, .int .u64 c.s4, .int .u64 c.s5, .int .u64 c.s6, .int .u64 c.s7, .int .u64 c.s8, .int .u64 c.s9, .int .u64 c.s10, .int .u64 c.s11, .int .u64 c.s12, .int .u64 c.s13, .int .u64 c.s14, .int .u64 c.s15], .bool true]) ∧ Below W.heap.size W W' := by
  go_enter Try.func14, Try.ntmps14
  go_upto_region 47 with (first | (go_at_call 23; (with_reducible refine (rmay_yes m 2818 true (by decide) (by decide) hm (by decide) _).mono ?_); rintro e w' ⟨rfl, rfl⟩) | (go_at_call 24; (with_reducible refine (known_b02 c 0 0 _).mono ?_); rintro e w' ⟨rfl, rfl⟩) | fail)
  refine wp_region_lit ?_
  refine wpList_load_run rfl 24 (.tmp 4) rfl _ (regV c) rfl (load_at _ _ c (heap3a W _ _ _)) ?_
  refine wpList_store_run rfl 24 (.tmp 8) (.tmp 146) rfl _ (regV c) rfl rfl (store_at _ _ _ c (heap3b W _ _ _) rfl) ?_
  go_wp2
  refine bodyPost_ret (v := .tuple #[.agg #[.int .u64 c.s0, .int .u64 c.s1, .int .u64 c.s2, .int .u64 c.s3, .int .u64 c.s4, .int .u64 c.s5, .int .u64 c.s6, .int .u64 c.s7, .int .u64 c.s8, .int .u64 c.s9, .int .u64 c.s10, .int .u64 c.s11, .int .u64 c.s12, .int .u64 c.s13, .int .u64 c.s14, .int .u64 c.s15], .bool true]) (by rw [results_cell_tmp Try.results14]; simp [asAddr, Result.andThen, result_at _ _ _ c (heap3b W _ _ _)]) rfl ?_
  exact ⟨rfl, below3 W _ _ _ _⟩

end Go.Proofs.Ythchakfffenoiaa
