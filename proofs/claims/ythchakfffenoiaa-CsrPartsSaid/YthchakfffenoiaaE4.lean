/- Write of the reference, part 4. -/
import Derived.Test.YthchakfffenoiaaS
import Derived.Test.YthchakfffenoiaaC
namespace Go.Proofs.Ythchakfffenoiaa
open Go.RowKit Go.Deep Go.Joins
set_option maxRecDepth 100000 in
set_option maxHeartbeats 1000000 in
theorem rwrite_140 (c : Reg) (m v : Int) (hm : decide (leastV 320 ≤ m) = true) (W : World) : Calls Try.prog 14 #[regV c, .int .i64 m, .int .i64 320, .int .u64 v] W fun e W' => e = .returned (.tuple #[.agg #[.int .u64 c.s0, .int .u64 c.s1, .int .u64 c.s2, .int .u64 c.s3, .int .u64 c.s4, .int .u64 c.s5, .int .u64 c.s6, .int .u64 c.s7, .int .u64 c.s8, .int .u64 c.s9, .int .u64 c.s10, .int .u64 v, .int .u64 c.s12, .int .u64 c.s13, .int .u64 c.s14, .int .u64 c.s15], .bool true]) ∧ Below W.heap.size W W' := by
  go_enter Try.func14, Try.ntmps14
  go_upto_region 47 with (first | (go_at_call 23; (with_reducible refine (rmay_yes m 320 true (by decide) (by decide) hm (by decide) _).mono ?_); rintro e w' ⟨rfl, rfl⟩) | (go_at_call 24; (with_reducible refine (known_140 c 0 0 _).mono ?_); rintro e w' ⟨rfl, rfl⟩) | fail)
  refine wp_region_lit ?_
  refine wpList_load_run rfl 24 (.tmp 4) rfl _ (regV (⟨c.s0, c.s1, c.s2, c.s3, c.s4, c.s5, c.s6, c.s7, c.s8, c.s9, c.s10, v, c.s12, c.s13, c.s14, c.s15⟩ : Reg)) rfl (load_at _ _ (⟨c.s0, c.s1, c.s2, c.s3, c.s4, c.s5, c.s6, c.s7, c.s8, c.s9, c.s10, v, c.s12, c.s13, c.s14, c.s15⟩ : Reg) (heap3a W _ _ _)) ?_
  refine wpList_store_run rfl 24 (.tmp 8) (.tmp 146) rfl _ (regV (⟨c.s0, c.s1, c.s2, c.s3, c.s4, c.s5, c.s6, c.s7, c.s8, c.s9, c.s10, v, c.s12, c.s13, c.s14, c.s15⟩ : Reg)) rfl rfl (store_at _ _ _ (⟨c.s0, c.s1, c.s2, c.s3, c.s4, c.s5, c.s6, c.s7, c.s8, c.s9, c.s10, v, c.s12, c.s13, c.s14, c.s15⟩ : Reg) (heap3b W _ _ _) rfl) ?_
  go_wp2
  refine bodyPost_ret (v := .tuple #[.agg #[.int .u64 c.s0, .int .u64 c.s1, .int .u64 c.s2, .int .u64 c.s3, .int .u64 c.s4, .int .u64 c.s5, .int .u64 c.s6, .int .u64 c.s7, .int .u64 c.s8, .int .u64 c.s9, .int .u64 c.s10, .int .u64 v, .int .u64 c.s12, .int .u64 c.s13, .int .u64 c.s14, .int .u64 c.s15], .bool true]) (by rw [results_cell_tmp Try.results14]; simp [asAddr, Result.andThen, result_at _ _ _ (⟨c.s0, c.s1, c.s2, c.s3, c.s4, c.s5, c.s6, c.s7, c.s8, c.s9, c.s10, v, c.s12, c.s13, c.s14, c.s15⟩ : Reg) (heap3b W _ _ _)]) rfl ?_
  exact ⟨rfl, below3 W _ _ _ _⟩
set_option maxRecDepth 100000 in
set_option maxHeartbeats 1000000 in
theorem rwrite_144 (c : Reg) (m v : Int) (hm : decide (leastV 324 ≤ m) = true) (W : World) : Calls Try.prog 14 #[regV c, .int .i64 m, .int .i64 324, .int .u64 v] W fun e W' => e = .returned (.tuple #[.agg #[.int .u64 c.s0, .int .u64 c.s1, .int .u64 c.s2, .int .u64 c.s3, .int .u64 (mxV c.s4 v (bits .and .u64 c.s2 2)), .int .u64 c.s5, .int .u64 c.s6, .int .u64 c.s7, .int .u64 c.s8, .int .u64 c.s9, .int .u64 c.s10, .int .u64 c.s11, .int .u64 c.s12, .int .u64 c.s13, .int .u64 c.s14, .int .u64 c.s15], .bool true]) ∧ Below W.heap.size W W' := by
  go_enter Try.func14, Try.ntmps14
  go_upto_region 47 with (first | (go_at_call 23; (with_reducible refine (rmay_yes m 324 true (by decide) (by decide) hm (by decide) _).mono ?_); rintro e w' ⟨rfl, rfl⟩) | (go_at_call 24; (with_reducible refine (known_144 c 0 0 _).mono ?_); rintro e w' ⟨rfl, rfl⟩) | fail)
  refine wp_region_lit ?_
  refine wpList_load_run rfl 24 (.tmp 4) rfl _ (regV (⟨c.s0, c.s1, c.s2, c.s3, (mxV c.s4 v (bits .and .u64 c.s2 2)), c.s5, c.s6, c.s7, c.s8, c.s9, c.s10, c.s11, c.s12, c.s13, c.s14, c.s15⟩ : Reg)) rfl (load_at _ _ (⟨c.s0, c.s1, c.s2, c.s3, (mxV c.s4 v (bits .and .u64 c.s2 2)), c.s5, c.s6, c.s7, c.s8, c.s9, c.s10, c.s11, c.s12, c.s13, c.s14, c.s15⟩ : Reg) (heap3a W _ _ _)) ?_
  refine wpList_store_run rfl 24 (.tmp 8) (.tmp 146) rfl _ (regV (⟨c.s0, c.s1, c.s2, c.s3, (mxV c.s4 v (bits .and .u64 c.s2 2)), c.s5, c.s6, c.s7, c.s8, c.s9, c.s10, c.s11, c.s12, c.s13, c.s14, c.s15⟩ : Reg)) rfl rfl (store_at _ _ _ (⟨c.s0, c.s1, c.s2, c.s3, (mxV c.s4 v (bits .and .u64 c.s2 2)), c.s5, c.s6, c.s7, c.s8, c.s9, c.s10, c.s11, c.s12, c.s13, c.s14, c.s15⟩ : Reg) (heap3b W _ _ _) rfl) ?_
  go_wp2
  refine bodyPost_ret (v := .tuple #[.agg #[.int .u64 c.s0, .int .u64 c.s1, .int .u64 c.s2, .int .u64 c.s3, .int .u64 (mxV c.s4 v (bits .and .u64 c.s2 2)), .int .u64 c.s5, .int .u64 c.s6, .int .u64 c.s7, .int .u64 c.s8, .int .u64 c.s9, .int .u64 c.s10, .int .u64 c.s11, .int .u64 c.s12, .int .u64 c.s13, .int .u64 c.s14, .int .u64 c.s15], .bool true]) (by rw [results_cell_tmp Try.results14]; simp [asAddr, Result.andThen, result_at _ _ _ (⟨c.s0, c.s1, c.s2, c.s3, (mxV c.s4 v (bits .and .u64 c.s2 2)), c.s5, c.s6, c.s7, c.s8, c.s9, c.s10, c.s11, c.s12, c.s13, c.s14, c.s15⟩ : Reg) (heap3b W _ _ _)]) rfl ?_
  exact ⟨rfl, below3 W _ _ _ _⟩
set_option maxRecDepth 100000 in
set_option maxHeartbeats 1000000 in
theorem rwrite_302 (c : Reg) (m v : Int) (hm : decide (leastV 770 ≤ m) = true) (W : World) : Calls Try.prog 14 #[regV c, .int .i64 m, .int .i64 770, .int .u64 v] W fun e W' => e = .returned (.tuple #[.agg #[.int .u64 c.s0, .int .u64 (bits .and .u64 v 46079), .int .u64 c.s2, .int .u64 c.s3, .int .u64 c.s4, .int .u64 c.s5, .int .u64 c.s6, .int .u64 c.s7, .int .u64 c.s8, .int .u64 c.s9, .int .u64 c.s10, .int .u64 c.s11, .int .u64 c.s12, .int .u64 c.s13, .int .u64 c.s14, .int .u64 c.s15], .bool true]) ∧ Below W.heap.size W W' := by
  go_enter Try.func14, Try.ntmps14
  go_upto_region 47 with (first | (go_at_call 23; (with_reducible refine (rmay_yes m 770 true (by decide) (by decide) hm (by decide) _).mono ?_); rintro e w' ⟨rfl, rfl⟩) | (go_at_call 24; (with_reducible refine (known_302 c 0 0 _).mono ?_); rintro e w' ⟨rfl, rfl⟩) | fail)
  refine wp_region_lit ?_
  refine wpList_load_run rfl 24 (.tmp 4) rfl _ (regV (⟨c.s0, (bits .and .u64 v 46079), c.s2, c.s3, c.s4, c.s5, c.s6, c.s7, c.s8, c.s9, c.s10, c.s11, c.s12, c.s13, c.s14, c.s15⟩ : Reg)) rfl (load_at _ _ (⟨c.s0, (bits .and .u64 v 46079), c.s2, c.s3, c.s4, c.s5, c.s6, c.s7, c.s8, c.s9, c.s10, c.s11, c.s12, c.s13, c.s14, c.s15⟩ : Reg) (heap3a W _ _ _)) ?_
  refine wpList_store_run rfl 24 (.tmp 8) (.tmp 146) rfl _ (regV (⟨c.s0, (bits .and .u64 v 46079), c.s2, c.s3, c.s4, c.s5, c.s6, c.s7, c.s8, c.s9, c.s10, c.s11, c.s12, c.s13, c.s14, c.s15⟩ : Reg)) rfl rfl (store_at _ _ _ (⟨c.s0, (bits .and .u64 v 46079), c.s2, c.s3, c.s4, c.s5, c.s6, c.s7, c.s8, c.s9, c.s10, c.s11, c.s12, c.s13, c.s14, c.s15⟩ : Reg) (heap3b W _ _ _) rfl) ?_
  go_wp2
  refine bodyPost_ret (v := .tuple #[.agg #[.int .u64 c.s0, .int .u64 (bits .and .u64 v 46079), .int .u64 c.s2, .int .u64 c.s3, .int .u64 c.s4, .int .u64 c.s5, .int .u64 c.s6, .int .u64 c.s7, .int .u64 c.s8, .int .u64 c.s9, .int .u64 c.s10, .int .u64 c.s11, .int .u64 c.s12, .int .u64 c.s13, .int .u64 c.s14, .int .u64 c.s15], .bool true]) (by rw [results_cell_tmp Try.results14]; simp [asAddr, Result.andThen, result_at _ _ _ (⟨c.s0, (bits .and .u64 v 46079), c.s2, c.s3, c.s4, c.s5, c.s6, c.s7, c.s8, c.s9, c.s10, c.s11, c.s12, c.s13, c.s14, c.s15⟩ : Reg) (heap3b W _ _ _)]) rfl ?_
  exact ⟨rfl, below3 W _ _ _ _⟩
set_option maxRecDepth 100000 in
set_option maxHeartbeats 1000000 in
theorem rwrite_340 (c : Reg) (m v : Int) (hm : decide (leastV 832 ≤ m) = true) (W : World) : Calls Try.prog 14 #[regV c, .int .i64 m, .int .i64 832, .int .u64 v] W fun e W' => e = .returned (.tuple #[.agg #[.int .u64 c.s0, .int .u64 c.s1, .int .u64 c.s2, .int .u64 c.s3, .int .u64 c.s4, .int .u64 c.s5, .int .u64 v, .int .u64 c.s7, .int .u64 c.s8, .int .u64 c.s9, .int .u64 c.s10, .int .u64 c.s11, .int .u64 c.s12, .int .u64 c.s13, .int .u64 c.s14, .int .u64 c.s15], .bool true]) ∧ Below W.heap.size W W' := by
  go_enter Try.func14, Try.ntmps14
  go_upto_region 47 with (first | (go_at_call 23; (with_reducible refine (rmay_yes m 832 true (by decide) (by decide) hm (by decide) _).mono ?_); rintro e w' ⟨rfl, rfl⟩) | (go_at_call 24; (with_reducible refine (known_340 c 0 0 _).mono ?_); rintro e w' ⟨rfl, rfl⟩) | fail)
  refine wp_region_lit ?_
  refine wpList_load_run rfl 24 (.tmp 4) rfl _ (regV (⟨c.s0, c.s1, c.s2, c.s3, c.s4, c.s5, v, c.s7, c.s8, c.s9, c.s10, c.s11, c.s12, c.s13, c.s14, c.s15⟩ : Reg)) rfl (load_at _ _ (⟨c.s0, c.s1, c.s2, c.s3, c.s4, c.s5, v, c.s7, c.s8, c.s9, c.s10, c.s11, c.s12, c.s13, c.s14, c.s15⟩ : Reg) (heap3a W _ _ _)) ?_
  refine wpList_store_run rfl 24 (.tmp 8) (.tmp 146) rfl _ (regV (⟨c.s0, c.s1, c.s2, c.s3, c.s4, c.s5, v, c.s7, c.s8, c.s9, c.s10, c.s11, c.s12, c.s13, c.s14, c.s15⟩ : Reg)) rfl rfl (store_at _ _ _ (⟨c.s0, c.s1, c.s2, c.s3, c.s4, c.s5, v, c.s7, c.s8, c.s9, c.s10, c.s11, c.s12, c.s13, c.s14, c.s15⟩ : Reg) (heap3b W _ _ _) rfl) ?_
  go_wp2
  refine bodyPost_ret (v := .tuple #[.agg #[.int .u64 c.s0, .int .u64 c.s1, .int .u64 c.s2, .int .u64 c.s3, .int .u64 c.s4, .int .u64 c.s5, .int .u64 v, .int .u64 c.s7, .int .u64 c.s8, .int .u64 c.s9, .int .u64 c.s10, .int .u64 c.s11, .int .u64 c.s12, .int .u64 c.s13, .int .u64 c.s14, .int .u64 c.s15], .bool true]) (by rw [results_cell_tmp Try.results14]; simp [asAddr, Result.andThen, result_at _ _ _ (⟨c.s0, c.s1, c.s2, c.s3, c.s4, c.s5, v, c.s7, c.s8, c.s9, c.s10, c.s11, c.s12, c.s13, c.s14, c.s15⟩ : Reg) (heap3b W _ _ _)]) rfl ?_
  exact ⟨rfl, below3 W _ _ _ _⟩
set_option maxRecDepth 100000 in
set_option maxHeartbeats 1000000 in
theorem rwrite_344 (c : Reg) (m v : Int) (hm : decide (leastV 836 ≤ m) = true) (W : World) : Calls Try.prog 14 #[regV c, .int .i64 m, .int .i64 836, .int .u64 v] W fun e W' => e = .returned (.tuple #[.agg #[.int .u64 c.s0, .int .u64 c.s1, .int .u64 c.s2, .int .u64 c.s3, .int .u64 (bits .and .u64 v 546), .int .u64 c.s5, .int .u64 c.s6, .int .u64 c.s7, .int .u64 c.s8, .int .u64 c.s9, .int .u64 c.s10, .int .u64 c.s11, .int .u64 c.s12, .int .u64 c.s13, .int .u64 c.s14, .int .u64 c.s15], .bool true]) ∧ Below W.heap.size W W' := by
  go_enter Try.func14, Try.ntmps14
  go_upto_region 47 with (first | (go_at_call 23; (with_reducible refine (rmay_yes m 836 true (by decide) (by decide) hm (by decide) _).mono ?_); rintro e w' ⟨rfl, rfl⟩) | (go_at_call 24; (with_reducible refine (known_344 c 0 0 _).mono ?_); rintro e w' ⟨rfl, rfl⟩) | fail)
  refine wp_region_lit ?_
  refine wpList_load_run rfl 24 (.tmp 4) rfl _ (regV (⟨c.s0, c.s1, c.s2, c.s3, (bits .and .u64 v 546), c.s5, c.s6, c.s7, c.s8, c.s9, c.s10, c.s11, c.s12, c.s13, c.s14, c.s15⟩ : Reg)) rfl (load_at _ _ (⟨c.s0, c.s1, c.s2, c.s3, (bits .and .u64 v 546), c.s5, c.s6, c.s7, c.s8, c.s9, c.s10, c.s11, c.s12, c.s13, c.s14, c.s15⟩ : Reg) (heap3a W _ _ _)) ?_
  refine wpList_store_run rfl 24 (.tmp 8) (.tmp 146) rfl _ (regV (⟨c.s0, c.s1, c.s2, c.s3, (bits .and .u64 v 546), c.s5, c.s6, c.s7, c.s8, c.s9, c.s10, c.s11, c.s12, c.s13, c.s14, c.s15⟩ : Reg)) rfl rfl (store_at _ _ _ (⟨c.s0, c.s1, c.s2, c.s3, (bits .and .u64 v 546), c.s5, c.s6, c.s7, c.s8, c.s9, c.s10, c.s11, c.s12, c.s13, c.s14, c.s15⟩ : Reg) (heap3b W _ _ _) rfl) ?_
  go_wp2
  refine bodyPost_ret (v := .tuple #[.agg #[.int .u64 c.s0, .int .u64 c.s1, .int .u64 c.s2, .int .u64 c.s3, .int .u64 (bits .and .u64 v 546), .int .u64 c.s5, .int .u64 c.s6, .int .u64 c.s7, .int .u64 c.s8, .int .u64 c.s9, .int .u64 c.s10, .int .u64 c.s11, .int .u64 c.s12, .int .u64 c.s13, .int .u64 c.s14, .int .u64 c.s15], .bool true]) (by rw [results_cell_tmp Try.results14]; simp [asAddr, Result.andThen, result_at _ _ _ (⟨c.s0, c.s1, c.s2, c.s3, (bits .and .u64 v 546), c.s5, c.s6, c.s7, c.s8, c.s9, c.s10, c.s11, c.s12, c.s13, c.s14, c.s15⟩ : Reg) (heap3b W _ _ _)]) rfl ?_
  exact ⟨rfl, below3 W _ _ _ _⟩
set_option maxRecDepth 100000 in
set_option maxHeartbeats 1000000 in
theorem rwrite_once (c : Reg) (m n v : Int) (h0 : 0 ≤ n) (h1 : n ≤ 4095) (hm : decide (leastV n ≤ m) = true) (ho : (onceV n != 3) = false) (W : World) : Calls Try.prog 14 #[regV c, .int .i64 m, .int .i64 n, .int .u64 v] W fun e W' => e = .returned (.tuple #[.agg #[.int .u64 c.s0, .int .u64 c.s1, .int .u64 c.s2, .int .u64 c.s3, .int .u64 c.s4, .int .u64 c.s5, .int .u64 c.s6, .int .u64 c.s7, .int .u64 c.s8, .int .u64 c.s9, .int .u64 c.s10, .int .u64 c.s11, .int .u64 c.s12, .int .u64 c.s13, .int .u64 c.s14, .int .u64 c.s15], .bool false]) ∧ Below W.heap.size W W' := by
  go_enter Try.func14, Try.ntmps14
  go_upto_region 3 with (first | (go_at_call 23; (with_reducible refine (rmay_yes m n false h0 h1 hm ho _).mono ?_); rintro e w' ⟨rfl, rfl⟩) | fail)
  refine wp_region_lit ?_
  refine wpList_load_run rfl 24 (.tmp 4) rfl _ (regV c) rfl (load_at _ _ c (heap2a W _ _)) ?_
  refine wpList_store_run rfl 24 (.tmp 8) (.tmp 23) rfl _ (regV c) rfl rfl (store_at _ _ _ c (heap2b W _ _) rfl) ?_
  go_wp2
  refine bodyPost_ret (v := .tuple #[.agg #[.int .u64 c.s0, .int .u64 c.s1, .int .u64 c.s2, .int .u64 c.s3, .int .u64 c.s4, .int .u64 c.s5, .int .u64 c.s6, .int .u64 c.s7, .int .u64 c.s8, .int .u64 c.s9, .int .u64 c.s10, .int .u64 c.s11, .int .u64 c.s12, .int .u64 c.s13, .int .u64 c.s14, .int .u64 c.s15], .bool false]) (by rw [results_cell_tmp Try.results14]; simp [asAddr, Result.andThen, result_at _ _ _ c (heap2b W _ _)]) rfl ?_
  exact ⟨rfl, below2 W _ _ _⟩

end Go.Proofs.Ythchakfffenoiaa
