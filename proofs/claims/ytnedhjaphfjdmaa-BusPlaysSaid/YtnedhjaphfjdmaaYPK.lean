/- Store of the program. -/
import Derived.Test.YtnedhjaphfjdmaaYPH
namespace Go.Proofs.Ytnedhjaphfjdmaa.Pc
open Go.RowKit Go.Deep Go.Joins
theorem andNot_zero (x : Int) (hx : U32 x) : bits .andNot .u32 x 0 = x := by
  apply bit_ext _ _ (u32_andNot _ _) hx
  intro i hi
  rw [bit_andNot _ _ i hi, bit_zero]
  simp
theorem zero_and' (x : Int) : bits .and .u32 0 x = 0 := by
  apply bit_ext _ _ (u32_and _ _) u32_zero
  intro i _
  rw [bit_and, bit_zero]
  simp
theorem u32_wt (k : Nat) (hk : 1 ≤ k ∧ k ≤ 3) : U32 (wt k) := by
  match k, hk with
  | 1, _ => exact ⟨by decide, by decide⟩
  | 2, _ => exact ⟨by decide, by decide⟩
  | 3, _ => exact ⟨by decide, by decide⟩
  | k + 4, h => omega
theorem wt_and (e : Int) (k : Nat) (hk : 1 ≤ k ∧ k ≤ 3) : bits .and .u32 (wt k) e = if bitT e k = true then wt k else 0 := by
  apply bit_ext _ _ (u32_and _ _)
  · split
    · exact u32_wt k hk
    · exact u32_zero
  · intro i hi
    rw [bit_and, bit_wt k hk i hi]
    by_cases hik : i = k
    · subst hik
      split
      · rename_i h; rw [bit_wt i hk i hi, h]; simp
      · rename_i h; rw [bit_zero]; simp at h; rw [h]; simp
    · have : (i == k) = false := by simp [hik]
      rw [this]
      split
      · rw [bit_wt k hk i hi, this]; rfl
      · rw [bit_zero]; rfl
/-- What is written back, by the program's way. -/
theorem back_wt (h : Pl) (hc : U32 h.c) (e : Int) (k : Nat) (hk : 1 ≤ k ∧ k ≤ 3) : bits .andNot .u32 h.c (bits .and .u32 (wt k) e) = backF h k e := by
  unfold backF
  rw [wt_and e k hk]
  by_cases hb : bitT e k = true
  · rw [if_pos hb, if_pos ⟨by omega, by simpa using hb⟩]
  · rw [if_neg hb, if_neg (fun a => hb (by simpa using a.2)), andNot_zero _ hc]
theorem back_none (h : Pl) (e n : Int) (hn : n < 1 ∨ 3 < n) : backF h n e = h.c := by
  unfold backF
  rw [if_neg (by omega)]
theorem back_zero (h : Pl) (hc : U32 h.c) (e : Int) : bits .andNot .u32 h.c (bits .and .u32 0 e) = h.c := by rw [zero_and', andNot_zero _ hc]
set_option maxRecDepth 100000 in
set_option maxHeartbeats 1000000 in
theorem store_p1 (h : Pl) (v : Int) (W : World) : Calls Try.prog 56 #[plV h, .int .u64 201326596, .int .i64 4, .int .u64 v] W fun e W' => e = .returned (.tuple #[plV (stF h 201326596 4 v).1, .bool (stF h 201326596 4 v).2]) ∧ Below W.heap.size W W' := by
  rw [stF_p1]
  go_enter Try.func56, Try.ntmps56
  go_upto_region 1 with (fail)
  have X := Lib.hid (Own.new W h)
  generalize (W.alloc (plO h)).alloc zeroO = w0 at *
  go_wp2_with (first | (go_at_call 69; (with_reducible refine (place_p1 _).mono ?_); rintro e w' ⟨rfl, rfl⟩) | (with_reducible refine wpList_store_ex rfl rfl (Own.store_p1 X.out _) rfl rfl ?_; intro wy hy; have X := Lib.hid hy; clear hy) | (with_reducible refine wpList_load_by rfl rfl (Own.load X.out) rfl ?_) | (with_reducible refine wpList_store_ex rfl rfl (Own.tell X.out rfl _) rfl rfl ?_; intro wy hy; have X := Lib.hid hy; clear hy) | fail)
  exact bodyPost_ret (v := .tuple #[plV ({ h with p1 := bits .and .u32 (IntKind.u32.wrap v) 7 }), .bool true]) (results_two Try.results56 _ _ (W.heap.size + 1) _ _ rfl X.out.result rfl) rfl ⟨rfl, X.out.below⟩
set_option maxRecDepth 100000 in
set_option maxHeartbeats 1000000 in
theorem store_p2 (h : Pl) (v : Int) (W : World) : Calls Try.prog 56 #[plV h, .int .u64 201326600, .int .i64 4, .int .u64 v] W fun e W' => e = .returned (.tuple #[plV (stF h 201326600 4 v).1, .bool (stF h 201326600 4 v).2]) ∧ Below W.heap.size W W' := by
  rw [stF_p2]
  go_enter Try.func56, Try.ntmps56
  go_upto_region 1 with (fail)
  have X := Lib.hid (Own.new W h)
  generalize (W.alloc (plO h)).alloc zeroO = w0 at *
  go_wp2_with (first | (go_at_call 69; (with_reducible refine (place_p2 _).mono ?_); rintro e w' ⟨rfl, rfl⟩) | (with_reducible refine wpList_store_ex rfl rfl (Own.store_p2 X.out _) rfl rfl ?_; intro wy hy; have X := Lib.hid hy; clear hy) | (with_reducible refine wpList_load_by rfl rfl (Own.load X.out) rfl ?_) | (with_reducible refine wpList_store_ex rfl rfl (Own.tell X.out rfl _) rfl rfl ?_; intro wy hy; have X := Lib.hid hy; clear hy) | fail)
  exact bodyPost_ret (v := .tuple #[plV ({ h with p2 := bits .and .u32 (IntKind.u32.wrap v) 7 }), .bool true]) (results_two Try.results56 _ _ (W.heap.size + 1) _ _ rfl X.out.result rfl) rfl ⟨rfl, X.out.below⟩
set_option maxRecDepth 100000 in
set_option maxHeartbeats 1000000 in
theorem store_p3 (h : Pl) (v : Int) (W : World) : Calls Try.prog 56 #[plV h, .int .u64 201326604, .int .i64 4, .int .u64 v] W fun e W' => e = .returned (.tuple #[plV (stF h 201326604 4 v).1, .bool (stF h 201326604 4 v).2]) ∧ Below W.heap.size W W' := by
  rw [stF_p3]
  go_enter Try.func56, Try.ntmps56
  go_upto_region 1 with (fail)
  have X := Lib.hid (Own.new W h)
  generalize (W.alloc (plO h)).alloc zeroO = w0 at *
  go_wp2_with (first | (go_at_call 69; (with_reducible refine (place_p3 _).mono ?_); rintro e w' ⟨rfl, rfl⟩) | (with_reducible refine wpList_store_ex rfl rfl (Own.store_p3 X.out _) rfl rfl ?_; intro wy hy; have X := Lib.hid hy; clear hy) | (with_reducible refine wpList_load_by rfl rfl (Own.load X.out) rfl ?_) | (with_reducible refine wpList_store_ex rfl rfl (Own.tell X.out rfl _) rfl rfl ?_; intro wy hy; have X := Lib.hid hy; clear hy) | fail)
  exact bodyPost_ret (v := .tuple #[plV ({ h with p3 := bits .and .u32 (IntKind.u32.wrap v) 7 }), .bool true]) (results_two Try.results56 _ _ (W.heap.size + 1) _ _ rfl X.out.result rfl) rfl ⟨rfl, X.out.below⟩
set_option maxRecDepth 100000 in
set_option maxHeartbeats 1000000 in
theorem store_e0 (h : Pl) (v : Int) (W : World) : Calls Try.prog 56 #[plV h, .int .u64 201334784, .int .i64 4, .int .u64 v] W fun e W' => e = .returned (.tuple #[plV (stF h 201334784 4 v).1, .bool (stF h 201334784 4 v).2]) ∧ Below W.heap.size W W' := by
  rw [stF_e0]
  go_enter Try.func56, Try.ntmps56
  go_upto_region 1 with (fail)
  have X := Lib.hid (Own.new W h)
  generalize (W.alloc (plO h)).alloc zeroO = w0 at *
  go_wp2_with (first | (go_at_call 69; (with_reducible refine (place_e0 _).mono ?_); rintro e w' ⟨rfl, rfl⟩) | (with_reducible refine wpList_store_ex rfl rfl (Own.store_e0 X.out _) rfl rfl ?_; intro wy hy; have X := Lib.hid hy; clear hy) | (with_reducible refine wpList_load_by rfl rfl (Own.load X.out) rfl ?_) | (with_reducible refine wpList_store_ex rfl rfl (Own.tell X.out rfl _) rfl rfl ?_; intro wy hy; have X := Lib.hid hy; clear hy) | fail)
  exact bodyPost_ret (v := .tuple #[plV ({ h with e0 := bits .and .u32 (IntKind.u32.wrap v) 14 }), .bool true]) (results_two Try.results56 _ _ (W.heap.size + 1) _ _ rfl X.out.result rfl) rfl ⟨rfl, X.out.below⟩
set_option maxRecDepth 100000 in
set_option maxHeartbeats 1000000 in
theorem store_e1 (h : Pl) (v : Int) (W : World) : Calls Try.prog 56 #[plV h, .int .u64 201334912, .int .i64 4, .int .u64 v] W fun e W' => e = .returned (.tuple #[plV (stF h 201334912 4 v).1, .bool (stF h 201334912 4 v).2]) ∧ Below W.heap.size W W' := by
  rw [stF_e1]
  go_enter Try.func56, Try.ntmps56
  go_upto_region 1 with (fail)
  have X := Lib.hid (Own.new W h)
  generalize (W.alloc (plO h)).alloc zeroO = w0 at *
  go_wp2_with (first | (go_at_call 69; (with_reducible refine (place_e1 _).mono ?_); rintro e w' ⟨rfl, rfl⟩) | (with_reducible refine wpList_store_ex rfl rfl (Own.store_e1 X.out _) rfl rfl ?_; intro wy hy; have X := Lib.hid hy; clear hy) | (with_reducible refine wpList_load_by rfl rfl (Own.load X.out) rfl ?_) | (with_reducible refine wpList_store_ex rfl rfl (Own.tell X.out rfl _) rfl rfl ?_; intro wy hy; have X := Lib.hid hy; clear hy) | fail)
  exact bodyPost_ret (v := .tuple #[plV ({ h with e1 := bits .and .u32 (IntKind.u32.wrap v) 14 }), .bool true]) (results_two Try.results56 _ _ (W.heap.size + 1) _ _ rfl X.out.result rfl) rfl ⟨rfl, X.out.below⟩
set_option maxRecDepth 100000 in
set_option maxHeartbeats 1000000 in
theorem store_l0 (h : Pl) (v : Int) (W : World) : Calls Try.prog 56 #[plV h, .int .u64 203423744, .int .i64 4, .int .u64 v] W fun e W' => e = .returned (.tuple #[plV (stF h 203423744 4 v).1, .bool (stF h 203423744 4 v).2]) ∧ Below W.heap.size W W' := by
  rw [stF_l0]
  go_enter Try.func56, Try.ntmps56
  go_upto_region 1 with (fail)
  have X := Lib.hid (Own.new W h)
  generalize (W.alloc (plO h)).alloc zeroO = w0 at *
  go_wp2_with (first | (go_at_call 69; (with_reducible refine (place_l0 _).mono ?_); rintro e w' ⟨rfl, rfl⟩) | (with_reducible refine wpList_store_ex rfl rfl (Own.store_l0 X.out _) rfl rfl ?_; intro wy hy; have X := Lib.hid hy; clear hy) | (with_reducible refine wpList_load_by rfl rfl (Own.load X.out) rfl ?_) | (with_reducible refine wpList_store_ex rfl rfl (Own.tell X.out rfl _) rfl rfl ?_; intro wy hy; have X := Lib.hid hy; clear hy) | fail)
  exact bodyPost_ret (v := .tuple #[plV ({ h with l0 := bits .and .u32 (IntKind.u32.wrap v) 7 }), .bool true]) (results_two Try.results56 _ _ (W.heap.size + 1) _ _ rfl X.out.result rfl) rfl ⟨rfl, X.out.below⟩
set_option maxRecDepth 100000 in
set_option maxHeartbeats 1000000 in
theorem store_l1 (h : Pl) (v : Int) (W : World) : Calls Try.prog 56 #[plV h, .int .u64 203427840, .int .i64 4, .int .u64 v] W fun e W' => e = .returned (.tuple #[plV (stF h 203427840 4 v).1, .bool (stF h 203427840 4 v).2]) ∧ Below W.heap.size W W' := by
  rw [stF_l1]
  go_enter Try.func56, Try.ntmps56
  go_upto_region 1 with (fail)
  have X := Lib.hid (Own.new W h)
  generalize (W.alloc (plO h)).alloc zeroO = w0 at *
  go_wp2_with (first | (go_at_call 69; (with_reducible refine (place_l1 _).mono ?_); rintro e w' ⟨rfl, rfl⟩) | (with_reducible refine wpList_store_ex rfl rfl (Own.store_l1 X.out _) rfl rfl ?_; intro wy hy; have X := Lib.hid hy; clear hy) | (with_reducible refine wpList_load_by rfl rfl (Own.load X.out) rfl ?_) | (with_reducible refine wpList_store_ex rfl rfl (Own.tell X.out rfl _) rfl rfl ?_; intro wy hy; have X := Lib.hid hy; clear hy) | fail)
  exact bodyPost_ret (v := .tuple #[plV ({ h with l1 := bits .and .u32 (IntKind.u32.wrap v) 7 }), .bool true]) (results_two Try.results56 _ _ (W.heap.size + 1) _ _ rfl X.out.result rfl) rfl ⟨rfl, X.out.below⟩
set_option maxRecDepth 100000 in
set_option maxHeartbeats 1000000 in
theorem store_b0_0 (h : Pl) (v : Int) (hc : U32 h.c) (hv : IntKind.u32.wrap v = 0) (W : World) : Calls Try.prog 56 #[plV h, .int .u64 203423748, .int .i64 4, .int .u64 v] W fun e W' => e = .returned (.tuple #[plV (stF h 203423748 4 v).1, .bool (stF h 203423748 4 v).2]) ∧ Below W.heap.size W W' := by
  rw [stF_b0, hv]
  rw [back_none h h.e0 0 (by omega)]
  have HC := Lib.hid (back_zero h hc h.e0)
  clear hc
  go_enter Try.func56, Try.ntmps56
  go_upto_region 1 with (fail)
  have X := Lib.hid (Own.new W h)
  generalize (W.alloc (plO h)).alloc zeroO = w0 at *
  go_upto_region 14 with (first | (with_reducible refine wpList_load_by rfl rfl (Own.load X.out) rfl ?_) | (go_at_call 69; (with_reducible refine (place_b0 _).mono ?_); rintro e w' ⟨rfl, rfl⟩) | fail)
  refine wp_region_still_tail 11 (by kernel_rfl) (by kernel_rfl) ?_
  simp only [List.take_succ_cons, List.take_zero, List.drop_succ_cons, List.drop_zero]
  have X : RowKit.Hid (Own W { w0 with drawn := w0.drawn + 1 } h zeroC) := Lib.hid X.out.drew
  generalize ({ w0 with drawn := w0.drawn + 1 } : World) = w3 at *
  repeat (first | (with_reducible refine still_load rfl rfl (Own.load_c X.out) rfl ?_) | (with_reducible refine still_load rfl rfl (Own.load_e0 X.out) rfl ?_) | still_step)
  still_call ((bit_lit0 _).mono fun _ _ h => ⟨h.1, h.2.symm⟩)
  repeat (first | (with_reducible refine still_load rfl rfl (Own.load_c X.out) rfl ?_) | (with_reducible refine still_load rfl rfl (Own.load_e0 X.out) rfl ?_) | still_step)
  refine wpStill_nil ?_
  go_wp2_with (first | (with_reducible refine wpList_store_ex rfl rfl (Own.store_c X.out _) rfl rfl ?_; intro wy hy; have X := Lib.hid hy; clear hy; rw [HC.out] at X) | (with_reducible refine wpList_load_by rfl rfl (Own.load X.out) rfl ?_) | (with_reducible refine wpList_store_ex rfl rfl (Own.tell X.out rfl _) rfl rfl ?_; intro wy hy; have X := Lib.hid hy; clear hy) | fail)
  exact bodyPost_ret (v := .tuple #[plV ({ h with c := h.c }), .bool true]) (results_two Try.results56 _ _ (W.heap.size + 1) _ _ rfl X.out.result rfl) rfl ⟨rfl, X.out.below⟩
set_option maxRecDepth 100000 in
set_option maxHeartbeats 1000000 in
theorem store_b0_1 (h : Pl) (v : Int) (hc : U32 h.c) (hv : IntKind.u32.wrap v = 1) (W : World) : Calls Try.prog 56 #[plV h, .int .u64 203423748, .int .i64 4, .int .u64 v] W fun e W' => e = .returned (.tuple #[plV (stF h 203423748 4 v).1, .bool (stF h 203423748 4 v).2]) ∧ Below W.heap.size W W' := by
  rw [stF_b0, hv]
  have HC : RowKit.Hid (bits .andNot .u32 h.c (bits .and .u32 2 h.e0) = backF h 1 h.e0) := Lib.hid (back_wt h hc h.e0 1 (by omega))
  clear hc
  go_enter Try.func56, Try.ntmps56
  go_upto_region 1 with (fail)
  have X := Lib.hid (Own.new W h)
  generalize (W.alloc (plO h)).alloc zeroO = w0 at *
  go_upto_region 14 with (first | (with_reducible refine wpList_load_by rfl rfl (Own.load X.out) rfl ?_) | (go_at_call 69; (with_reducible refine (place_b0 _).mono ?_); rintro e w' ⟨rfl, rfl⟩) | fail)
  refine wp_region_still_tail 11 (by kernel_rfl) (by kernel_rfl) ?_
  simp only [List.take_succ_cons, List.take_zero, List.drop_succ_cons, List.drop_zero]
  have X : RowKit.Hid (Own W { w0 with drawn := w0.drawn + 1 } h zeroC) := Lib.hid X.out.drew
  generalize ({ w0 with drawn := w0.drawn + 1 } : World) = w3 at *
  repeat (first | (with_reducible refine still_load rfl rfl (Own.load_c X.out) rfl ?_) | (with_reducible refine still_load rfl rfl (Own.load_e0 X.out) rfl ?_) | still_step)
  still_call ((bit_lit1 _).mono fun _ _ h => ⟨h.1, h.2.symm⟩)
  repeat (first | (with_reducible refine still_load rfl rfl (Own.load_c X.out) rfl ?_) | (with_reducible refine still_load rfl rfl (Own.load_e0 X.out) rfl ?_) | still_step)
  refine wpStill_nil ?_
  go_wp2_with (first | (with_reducible refine wpList_store_ex rfl rfl (Own.store_c X.out _) rfl rfl ?_; intro wy hy; have X := Lib.hid hy; clear hy; rw [HC.out] at X) | (with_reducible refine wpList_load_by rfl rfl (Own.load X.out) rfl ?_) | (with_reducible refine wpList_store_ex rfl rfl (Own.tell X.out rfl _) rfl rfl ?_; intro wy hy; have X := Lib.hid hy; clear hy) | fail)
  exact bodyPost_ret (v := .tuple #[plV ({ h with c := backF h 1 h.e0 }), .bool true]) (results_two Try.results56 _ _ (W.heap.size + 1) _ _ rfl X.out.result rfl) rfl ⟨rfl, X.out.below⟩
set_option maxRecDepth 100000 in
set_option maxHeartbeats 1000000 in
theorem store_b0_2 (h : Pl) (v : Int) (hc : U32 h.c) (hv : IntKind.u32.wrap v = 2) (W : World) : Calls Try.prog 56 #[plV h, .int .u64 203423748, .int .i64 4, .int .u64 v] W fun e W' => e = .returned (.tuple #[plV (stF h 203423748 4 v).1, .bool (stF h 203423748 4 v).2]) ∧ Below W.heap.size W W' := by
  rw [stF_b0, hv]
  have HC : RowKit.Hid (bits .andNot .u32 h.c (bits .and .u32 4 h.e0) = backF h 2 h.e0) := Lib.hid (back_wt h hc h.e0 2 (by omega))
  clear hc
  go_enter Try.func56, Try.ntmps56
  go_upto_region 1 with (fail)
  have X := Lib.hid (Own.new W h)
  generalize (W.alloc (plO h)).alloc zeroO = w0 at *
  go_upto_region 14 with (first | (with_reducible refine wpList_load_by rfl rfl (Own.load X.out) rfl ?_) | (go_at_call 69; (with_reducible refine (place_b0 _).mono ?_); rintro e w' ⟨rfl, rfl⟩) | fail)
  refine wp_region_still_tail 11 (by kernel_rfl) (by kernel_rfl) ?_
  simp only [List.take_succ_cons, List.take_zero, List.drop_succ_cons, List.drop_zero]
  have X : RowKit.Hid (Own W { w0 with drawn := w0.drawn + 1 } h zeroC) := Lib.hid X.out.drew
  generalize ({ w0 with drawn := w0.drawn + 1 } : World) = w3 at *
  repeat (first | (with_reducible refine still_load rfl rfl (Own.load_c X.out) rfl ?_) | (with_reducible refine still_load rfl rfl (Own.load_e0 X.out) rfl ?_) | still_step)
  still_call ((bit_lit2 _).mono fun _ _ h => ⟨h.1, h.2.symm⟩)
  repeat (first | (with_reducible refine still_load rfl rfl (Own.load_c X.out) rfl ?_) | (with_reducible refine still_load rfl rfl (Own.load_e0 X.out) rfl ?_) | still_step)
  refine wpStill_nil ?_
  go_wp2_with (first | (with_reducible refine wpList_store_ex rfl rfl (Own.store_c X.out _) rfl rfl ?_; intro wy hy; have X := Lib.hid hy; clear hy; rw [HC.out] at X) | (with_reducible refine wpList_load_by rfl rfl (Own.load X.out) rfl ?_) | (with_reducible refine wpList_store_ex rfl rfl (Own.tell X.out rfl _) rfl rfl ?_; intro wy hy; have X := Lib.hid hy; clear hy) | fail)
  exact bodyPost_ret (v := .tuple #[plV ({ h with c := backF h 2 h.e0 }), .bool true]) (results_two Try.results56 _ _ (W.heap.size + 1) _ _ rfl X.out.result rfl) rfl ⟨rfl, X.out.below⟩
set_option maxRecDepth 100000 in
set_option maxHeartbeats 1000000 in
theorem store_b0_3 (h : Pl) (v : Int) (hc : U32 h.c) (hv : IntKind.u32.wrap v = 3) (W : World) : Calls Try.prog 56 #[plV h, .int .u64 203423748, .int .i64 4, .int .u64 v] W fun e W' => e = .returned (.tuple #[plV (stF h 203423748 4 v).1, .bool (stF h 203423748 4 v).2]) ∧ Below W.heap.size W W' := by
  rw [stF_b0, hv]
  have HC : RowKit.Hid (bits .andNot .u32 h.c (bits .and .u32 8 h.e0) = backF h 3 h.e0) := Lib.hid (back_wt h hc h.e0 3 (by omega))
  clear hc
  go_enter Try.func56, Try.ntmps56
  go_upto_region 1 with (fail)
  have X := Lib.hid (Own.new W h)
  generalize (W.alloc (plO h)).alloc zeroO = w0 at *
  go_upto_region 14 with (first | (with_reducible refine wpList_load_by rfl rfl (Own.load X.out) rfl ?_) | (go_at_call 69; (with_reducible refine (place_b0 _).mono ?_); rintro e w' ⟨rfl, rfl⟩) | fail)
  refine wp_region_still_tail 11 (by kernel_rfl) (by kernel_rfl) ?_
  simp only [List.take_succ_cons, List.take_zero, List.drop_succ_cons, List.drop_zero]
  have X : RowKit.Hid (Own W { w0 with drawn := w0.drawn + 1 } h zeroC) := Lib.hid X.out.drew
  generalize ({ w0 with drawn := w0.drawn + 1 } : World) = w3 at *
  repeat (first | (with_reducible refine still_load rfl rfl (Own.load_c X.out) rfl ?_) | (with_reducible refine still_load rfl rfl (Own.load_e0 X.out) rfl ?_) | still_step)
  still_call ((bit_lit3 _).mono fun _ _ h => ⟨h.1, h.2.symm⟩)
  repeat (first | (with_reducible refine still_load rfl rfl (Own.load_c X.out) rfl ?_) | (with_reducible refine still_load rfl rfl (Own.load_e0 X.out) rfl ?_) | still_step)
  refine wpStill_nil ?_
  go_wp2_with (first | (with_reducible refine wpList_store_ex rfl rfl (Own.store_c X.out _) rfl rfl ?_; intro wy hy; have X := Lib.hid hy; clear hy; rw [HC.out] at X) | (with_reducible refine wpList_load_by rfl rfl (Own.load X.out) rfl ?_) | (with_reducible refine wpList_store_ex rfl rfl (Own.tell X.out rfl _) rfl rfl ?_; intro wy hy; have X := Lib.hid hy; clear hy) | fail)
  exact bodyPost_ret (v := .tuple #[plV ({ h with c := backF h 3 h.e0 }), .bool true]) (results_two Try.results56 _ _ (W.heap.size + 1) _ _ rfl X.out.result rfl) rfl ⟨rfl, X.out.below⟩
set_option maxRecDepth 100000 in
set_option maxHeartbeats 1000000 in
theorem store_b0_x (h : Pl) (v n : Int) (hc : U32 h.c) (hv : IntKind.u32.wrap v = n) (hu : U32 n) (h4 : 4 ≤ n) (W : World) : Calls Try.prog 56 #[plV h, .int .u64 203423748, .int .i64 4, .int .u64 v] W fun e W' => e = .returned (.tuple #[plV (stF h 203423748 4 v).1, .bool (stF h 203423748 4 v).2]) ∧ Below W.heap.size W W' := by
  rw [stF_b0, hv, back_none h h.e0 n (by omega)]
  have HC := Lib.hid (back_zero h hc h.e0)
  clear hc
  go_enter Try.func56, Try.ntmps56
  go_upto_region 1 with (fail)
  have X := Lib.hid (Own.new W h)
  generalize (W.alloc (plO h)).alloc zeroO = w0 at *
  go_upto_region 14 with (first | (with_reducible refine wpList_load_by rfl rfl (Own.load X.out) rfl ?_) | (go_at_call 69; (with_reducible refine (place_b0 _).mono ?_); rintro e w' ⟨rfl, rfl⟩) | fail)
  refine wp_region_still_tail 11 (by kernel_rfl) (by kernel_rfl) ?_
  simp only [List.take_succ_cons, List.take_zero, List.drop_succ_cons, List.drop_zero]
  have X : RowKit.Hid (Own W { w0 with drawn := w0.drawn + 1 } h zeroC) := Lib.hid X.out.drew
  generalize ({ w0 with drawn := w0.drawn + 1 } : World) = w3 at *
  repeat (first | (with_reducible refine still_load rfl rfl (Own.load_c X.out) rfl ?_) | (with_reducible refine still_load rfl rfl (Own.load_e0 X.out) rfl ?_) | still_step)
  still_call ((bit_big n hu h4 _).mono fun _ _ h => ⟨h.1, h.2.symm⟩)
  repeat (first | (with_reducible refine still_load rfl rfl (Own.load_c X.out) rfl ?_) | (with_reducible refine still_load rfl rfl (Own.load_e0 X.out) rfl ?_) | still_step)
  refine wpStill_nil ?_
  go_wp2_with (first | (with_reducible refine wpList_store_ex rfl rfl (Own.store_c X.out _) rfl rfl ?_; intro wy hy; have X := Lib.hid hy; clear hy; rw [HC.out] at X) | (with_reducible refine wpList_load_by rfl rfl (Own.load X.out) rfl ?_) | (with_reducible refine wpList_store_ex rfl rfl (Own.tell X.out rfl _) rfl rfl ?_; intro wy hy; have X := Lib.hid hy; clear hy) | fail)
  exact bodyPost_ret (v := .tuple #[plV ({ h with c := h.c }), .bool true]) (results_two Try.results56 _ _ (W.heap.size + 1) _ _ rfl X.out.result rfl) rfl ⟨rfl, X.out.below⟩
theorem store_b0 (h : Pl) (v : Int) (hc : U32 h.c) (W : World) : Calls Try.prog 56 #[plV h, .int .u64 203423748, .int .i64 4, .int .u64 v] W fun e W' => e = .returned (.tuple #[plV (stF h 203423748 4 v).1, .bool (stF h 203423748 4 v).2]) ∧ Below W.heap.size W W' := by
  have hu : U32 (IntKind.u32.wrap v) := by unfold U32; rw [IntKind.wrap_u32]; omega
  have h0 := hu.1
  rcases (show IntKind.u32.wrap v = 0 ∨ IntKind.u32.wrap v = 1 ∨ IntKind.u32.wrap v = 2 ∨ IntKind.u32.wrap v = 3 ∨ 4 ≤ IntKind.u32.wrap v by omega) with e | e | e | e | e
  · exact store_b0_0 h v hc e W
  · exact store_b0_1 h v hc e W
  · exact store_b0_2 h v hc e W
  · exact store_b0_3 h v hc e W
  · exact store_b0_x h v _ hc rfl hu e W
set_option maxRecDepth 100000 in
set_option maxHeartbeats 1000000 in
theorem store_b1_0 (h : Pl) (v : Int) (hc : U32 h.c) (hv : IntKind.u32.wrap v = 0) (W : World) : Calls Try.prog 56 #[plV h, .int .u64 203427844, .int .i64 4, .int .u64 v] W fun e W' => e = .returned (.tuple #[plV (stF h 203427844 4 v).1, .bool (stF h 203427844 4 v).2]) ∧ Below W.heap.size W W' := by
  rw [stF_b1, hv]
  rw [back_none h h.e1 0 (by omega)]
  have HC := Lib.hid (back_zero h hc h.e1)
  clear hc
  go_enter Try.func56, Try.ntmps56
  go_upto_region 1 with (fail)
  have X := Lib.hid (Own.new W h)
  generalize (W.alloc (plO h)).alloc zeroO = w0 at *
  go_upto_region 14 with (first | (with_reducible refine wpList_load_by rfl rfl (Own.load X.out) rfl ?_) | (go_at_call 69; (with_reducible refine (place_b1 _).mono ?_); rintro e w' ⟨rfl, rfl⟩) | fail)
  refine wp_region_still_tail 11 (by kernel_rfl) (by kernel_rfl) ?_
  simp only [List.take_succ_cons, List.take_zero, List.drop_succ_cons, List.drop_zero]
  have X : RowKit.Hid (Own W { w0 with drawn := w0.drawn + 1 } h zeroC) := Lib.hid X.out.drew
  generalize ({ w0 with drawn := w0.drawn + 1 } : World) = w3 at *
  repeat (first | (with_reducible refine still_load rfl rfl (Own.load_c X.out) rfl ?_) | (with_reducible refine still_load rfl rfl (Own.load_e1 X.out) rfl ?_) | still_step)
  still_call ((bit_lit0 _).mono fun _ _ h => ⟨h.1, h.2.symm⟩)
  repeat (first | (with_reducible refine still_load rfl rfl (Own.load_c X.out) rfl ?_) | (with_reducible refine still_load rfl rfl (Own.load_e1 X.out) rfl ?_) | still_step)
  refine wpStill_nil ?_
  go_wp2_with (first | (with_reducible refine wpList_store_ex rfl rfl (Own.store_c X.out _) rfl rfl ?_; intro wy hy; have X := Lib.hid hy; clear hy; rw [HC.out] at X) | (with_reducible refine wpList_load_by rfl rfl (Own.load X.out) rfl ?_) | (with_reducible refine wpList_store_ex rfl rfl (Own.tell X.out rfl _) rfl rfl ?_; intro wy hy; have X := Lib.hid hy; clear hy) | fail)
  exact bodyPost_ret (v := .tuple #[plV ({ h with c := h.c }), .bool true]) (results_two Try.results56 _ _ (W.heap.size + 1) _ _ rfl X.out.result rfl) rfl ⟨rfl, X.out.below⟩
set_option maxRecDepth 100000 in
set_option maxHeartbeats 1000000 in
theorem store_b1_1 (h : Pl) (v : Int) (hc : U32 h.c) (hv : IntKind.u32.wrap v = 1) (W : World) : Calls Try.prog 56 #[plV h, .int .u64 203427844, .int .i64 4, .int .u64 v] W fun e W' => e = .returned (.tuple #[plV (stF h 203427844 4 v).1, .bool (stF h 203427844 4 v).2]) ∧ Below W.heap.size W W' := by
  rw [stF_b1, hv]
  have HC : RowKit.Hid (bits .andNot .u32 h.c (bits .and .u32 2 h.e1) = backF h 1 h.e1) := Lib.hid (back_wt h hc h.e1 1 (by omega))
  clear hc
  go_enter Try.func56, Try.ntmps56
  go_upto_region 1 with (fail)
  have X := Lib.hid (Own.new W h)
  generalize (W.alloc (plO h)).alloc zeroO = w0 at *
  go_upto_region 14 with (first | (with_reducible refine wpList_load_by rfl rfl (Own.load X.out) rfl ?_) | (go_at_call 69; (with_reducible refine (place_b1 _).mono ?_); rintro e w' ⟨rfl, rfl⟩) | fail)
  refine wp_region_still_tail 11 (by kernel_rfl) (by kernel_rfl) ?_
  simp only [List.take_succ_cons, List.take_zero, List.drop_succ_cons, List.drop_zero]
  have X : RowKit.Hid (Own W { w0 with drawn := w0.drawn + 1 } h zeroC) := Lib.hid X.out.drew
  generalize ({ w0 with drawn := w0.drawn + 1 } : World) = w3 at *
  repeat (first | (with_reducible refine still_load rfl rfl (Own.load_c X.out) rfl ?_) | (with_reducible refine still_load rfl rfl (Own.load_e1 X.out) rfl ?_) | still_step)
  still_call ((bit_lit1 _).mono fun _ _ h => ⟨h.1, h.2.symm⟩)
  repeat (first | (with_reducible refine still_load rfl rfl (Own.load_c X.out) rfl ?_) | (with_reducible refine still_load rfl rfl (Own.load_e1 X.out) rfl ?_) | still_step)
  refine wpStill_nil ?_
  go_wp2_with (first | (with_reducible refine wpList_store_ex rfl rfl (Own.store_c X.out _) rfl rfl ?_; intro wy hy; have X := Lib.hid hy; clear hy; rw [HC.out] at X) | (with_reducible refine wpList_load_by rfl rfl (Own.load X.out) rfl ?_) | (with_reducible refine wpList_store_ex rfl rfl (Own.tell X.out rfl _) rfl rfl ?_; intro wy hy; have X := Lib.hid hy; clear hy) | fail)
  exact bodyPost_ret (v := .tuple #[plV ({ h with c := backF h 1 h.e1 }), .bool true]) (results_two Try.results56 _ _ (W.heap.size + 1) _ _ rfl X.out.result rfl) rfl ⟨rfl, X.out.below⟩
set_option maxRecDepth 100000 in
set_option maxHeartbeats 1000000 in
theorem store_b1_2 (h : Pl) (v : Int) (hc : U32 h.c) (hv : IntKind.u32.wrap v = 2) (W : World) : Calls Try.prog 56 #[plV h, .int .u64 203427844, .int .i64 4, .int .u64 v] W fun e W' => e = .returned (.tuple #[plV (stF h 203427844 4 v).1, .bool (stF h 203427844 4 v).2]) ∧ Below W.heap.size W W' := by
  rw [stF_b1, hv]
  have HC : RowKit.Hid (bits .andNot .u32 h.c (bits .and .u32 4 h.e1) = backF h 2 h.e1) := Lib.hid (back_wt h hc h.e1 2 (by omega))
  clear hc
  go_enter Try.func56, Try.ntmps56
  go_upto_region 1 with (fail)
  have X := Lib.hid (Own.new W h)
  generalize (W.alloc (plO h)).alloc zeroO = w0 at *
  go_upto_region 14 with (first | (with_reducible refine wpList_load_by rfl rfl (Own.load X.out) rfl ?_) | (go_at_call 69; (with_reducible refine (place_b1 _).mono ?_); rintro e w' ⟨rfl, rfl⟩) | fail)
  refine wp_region_still_tail 11 (by kernel_rfl) (by kernel_rfl) ?_
  simp only [List.take_succ_cons, List.take_zero, List.drop_succ_cons, List.drop_zero]
  have X : RowKit.Hid (Own W { w0 with drawn := w0.drawn + 1 } h zeroC) := Lib.hid X.out.drew
  generalize ({ w0 with drawn := w0.drawn + 1 } : World) = w3 at *
  repeat (first | (with_reducible refine still_load rfl rfl (Own.load_c X.out) rfl ?_) | (with_reducible refine still_load rfl rfl (Own.load_e1 X.out) rfl ?_) | still_step)
  still_call ((bit_lit2 _).mono fun _ _ h => ⟨h.1, h.2.symm⟩)
  repeat (first | (with_reducible refine still_load rfl rfl (Own.load_c X.out) rfl ?_) | (with_reducible refine still_load rfl rfl (Own.load_e1 X.out) rfl ?_) | still_step)
  refine wpStill_nil ?_
  go_wp2_with (first | (with_reducible refine wpList_store_ex rfl rfl (Own.store_c X.out _) rfl rfl ?_; intro wy hy; have X := Lib.hid hy; clear hy; rw [HC.out] at X) | (with_reducible refine wpList_load_by rfl rfl (Own.load X.out) rfl ?_) | (with_reducible refine wpList_store_ex rfl rfl (Own.tell X.out rfl _) rfl rfl ?_; intro wy hy; have X := Lib.hid hy; clear hy) | fail)
  exact bodyPost_ret (v := .tuple #[plV ({ h with c := backF h 2 h.e1 }), .bool true]) (results_two Try.results56 _ _ (W.heap.size + 1) _ _ rfl X.out.result rfl) rfl ⟨rfl, X.out.below⟩
set_option maxRecDepth 100000 in
set_option maxHeartbeats 1000000 in
theorem store_b1_3 (h : Pl) (v : Int) (hc : U32 h.c) (hv : IntKind.u32.wrap v = 3) (W : World) : Calls Try.prog 56 #[plV h, .int .u64 203427844, .int .i64 4, .int .u64 v] W fun e W' => e = .returned (.tuple #[plV (stF h 203427844 4 v).1, .bool (stF h 203427844 4 v).2]) ∧ Below W.heap.size W W' := by
  rw [stF_b1, hv]
  have HC : RowKit.Hid (bits .andNot .u32 h.c (bits .and .u32 8 h.e1) = backF h 3 h.e1) := Lib.hid (back_wt h hc h.e1 3 (by omega))
  clear hc
  go_enter Try.func56, Try.ntmps56
  go_upto_region 1 with (fail)
  have X := Lib.hid (Own.new W h)
  generalize (W.alloc (plO h)).alloc zeroO = w0 at *
  go_upto_region 14 with (first | (with_reducible refine wpList_load_by rfl rfl (Own.load X.out) rfl ?_) | (go_at_call 69; (with_reducible refine (place_b1 _).mono ?_); rintro e w' ⟨rfl, rfl⟩) | fail)
  refine wp_region_still_tail 11 (by kernel_rfl) (by kernel_rfl) ?_
  simp only [List.take_succ_cons, List.take_zero, List.drop_succ_cons, List.drop_zero]
  have X : RowKit.Hid (Own W { w0 with drawn := w0.drawn + 1 } h zeroC) := Lib.hid X.out.drew
  generalize ({ w0 with drawn := w0.drawn + 1 } : World) = w3 at *
  repeat (first | (with_reducible refine still_load rfl rfl (Own.load_c X.out) rfl ?_) | (with_reducible refine still_load rfl rfl (Own.load_e1 X.out) rfl ?_) | still_step)
  still_call ((bit_lit3 _).mono fun _ _ h => ⟨h.1, h.2.symm⟩)
  repeat (first | (with_reducible refine still_load rfl rfl (Own.load_c X.out) rfl ?_) | (with_reducible refine still_load rfl rfl (Own.load_e1 X.out) rfl ?_) | still_step)
  refine wpStill_nil ?_
  go_wp2_with (first | (with_reducible refine wpList_store_ex rfl rfl (Own.store_c X.out _) rfl rfl ?_; intro wy hy; have X := Lib.hid hy; clear hy; rw [HC.out] at X) | (with_reducible refine wpList_load_by rfl rfl (Own.load X.out) rfl ?_) | (with_reducible refine wpList_store_ex rfl rfl (Own.tell X.out rfl _) rfl rfl ?_; intro wy hy; have X := Lib.hid hy; clear hy) | fail)
  exact bodyPost_ret (v := .tuple #[plV ({ h with c := backF h 3 h.e1 }), .bool true]) (results_two Try.results56 _ _ (W.heap.size + 1) _ _ rfl X.out.result rfl) rfl ⟨rfl, X.out.below⟩
set_option maxRecDepth 100000 in
set_option maxHeartbeats 1000000 in
theorem store_b1_x (h : Pl) (v n : Int) (hc : U32 h.c) (hv : IntKind.u32.wrap v = n) (hu : U32 n) (h4 : 4 ≤ n) (W : World) : Calls Try.prog 56 #[plV h, .int .u64 203427844, .int .i64 4, .int .u64 v] W fun e W' => e = .returned (.tuple #[plV (stF h 203427844 4 v).1, .bool (stF h 203427844 4 v).2]) ∧ Below W.heap.size W W' := by
  rw [stF_b1, hv, back_none h h.e1 n (by omega)]
  have HC := Lib.hid (back_zero h hc h.e1)
  clear hc
  go_enter Try.func56, Try.ntmps56
  go_upto_region 1 with (fail)
  have X := Lib.hid (Own.new W h)
  generalize (W.alloc (plO h)).alloc zeroO = w0 at *
  go_upto_region 14 with (first | (with_reducible refine wpList_load_by rfl rfl (Own.load X.out) rfl ?_) | (go_at_call 69; (with_reducible refine (place_b1 _).mono ?_); rintro e w' ⟨rfl, rfl⟩) | fail)
  refine wp_region_still_tail 11 (by kernel_rfl) (by kernel_rfl) ?_
  simp only [List.take_succ_cons, List.take_zero, List.drop_succ_cons, List.drop_zero]
  have X : RowKit.Hid (Own W { w0 with drawn := w0.drawn + 1 } h zeroC) := Lib.hid X.out.drew
  generalize ({ w0 with drawn := w0.drawn + 1 } : World) = w3 at *
  repeat (first | (with_reducible refine still_load rfl rfl (Own.load_c X.out) rfl ?_) | (with_reducible refine still_load rfl rfl (Own.load_e1 X.out) rfl ?_) | still_step)
  still_call ((bit_big n hu h4 _).mono fun _ _ h => ⟨h.1, h.2.symm⟩)
  repeat (first | (with_reducible refine still_load rfl rfl (Own.load_c X.out) rfl ?_) | (with_reducible refine still_load rfl rfl (Own.load_e1 X.out) rfl ?_) | still_step)
  refine wpStill_nil ?_
  go_wp2_with (first | (with_reducible refine wpList_store_ex rfl rfl (Own.store_c X.out _) rfl rfl ?_; intro wy hy; have X := Lib.hid hy; clear hy; rw [HC.out] at X) | (with_reducible refine wpList_load_by rfl rfl (Own.load X.out) rfl ?_) | (with_reducible refine wpList_store_ex rfl rfl (Own.tell X.out rfl _) rfl rfl ?_; intro wy hy; have X := Lib.hid hy; clear hy) | fail)
  exact bodyPost_ret (v := .tuple #[plV ({ h with c := h.c }), .bool true]) (results_two Try.results56 _ _ (W.heap.size + 1) _ _ rfl X.out.result rfl) rfl ⟨rfl, X.out.below⟩
theorem store_b1 (h : Pl) (v : Int) (hc : U32 h.c) (W : World) : Calls Try.prog 56 #[plV h, .int .u64 203427844, .int .i64 4, .int .u64 v] W fun e W' => e = .returned (.tuple #[plV (stF h 203427844 4 v).1, .bool (stF h 203427844 4 v).2]) ∧ Below W.heap.size W W' := by
  have hu : U32 (IntKind.u32.wrap v) := by unfold U32; rw [IntKind.wrap_u32]; omega
  have h0 := hu.1
  rcases (show IntKind.u32.wrap v = 0 ∨ IntKind.u32.wrap v = 1 ∨ IntKind.u32.wrap v = 2 ∨ IntKind.u32.wrap v = 3 ∨ 4 ≤ IntKind.u32.wrap v by omega) with e | e | e | e | e
  · exact store_b1_0 h v hc e W
  · exact store_b1_1 h v hc e W
  · exact store_b1_2 h v hc e W
  · exact store_b1_3 h v hc e W
  · exact store_b1_x h v _ hc rfl hu e W
set_option maxRecDepth 100000 in
set_option maxHeartbeats 1000000 in
theorem store_size (h : Pl) (t z v : Int) (hz : (z != 4) = true) (W : World) : Calls Try.prog 56 #[plV h, .int .u64 t, .int .i64 z, .int .u64 v] W fun e W' => e = .returned (.tuple #[plV (stF h t z v).1, .bool (stF h t z v).2]) ∧ Below W.heap.size W W' := by
  rw [stF_none h t z v (.inl (by simpa using hz))]
  go_enter Try.func56, Try.ntmps56
  go_upto_region 1 with (fail)
  have X := Lib.hid (Own.new W h)
  generalize (W.alloc (plO h)).alloc zeroO = w0 at *
  go_wp2_with (first | (with_reducible refine wpList_store_ex rfl rfl (Own.zero X.out rfl) rfl rfl ?_; intro wy hy; have X := Lib.hid hy; clear hy) | fail)
  exact bodyPost_ret (v := .tuple #[plV (zeroP), .bool false]) (results_two Try.results56 _ _ (W.heap.size + 1) _ _ rfl X.out.result rfl) rfl ⟨rfl, X.out.below⟩
set_option maxRecDepth 100000 in
set_option maxHeartbeats 1000000 in
theorem store_none (h : Pl) (t v : Int) (hn : NoPlace t) (W : World) : Calls Try.prog 56 #[plV h, .int .u64 t, .int .i64 4, .int .u64 v] W fun e W' => e = .returned (.tuple #[plV (stF h t 4 v).1, .bool (stF h t 4 v).2]) ∧ Below W.heap.size W W' := by
  rw [stF_none h t 4 v (.inr hn)]
  go_enter Try.func56, Try.ntmps56
  go_upto_region 1 with (fail)
  have X := Lib.hid (Own.new W h)
  generalize (W.alloc (plO h)).alloc zeroO = w0 at *
  go_wp2_with (first | (go_at_call 69; (with_reducible refine (place_none t hn _).mono ?_); rintro e w' ⟨rfl, rfl⟩) | (with_reducible refine wpList_store_ex rfl rfl (Own.zero X.out rfl) rfl rfl ?_; intro wy hy; have X := Lib.hid hy; clear hy) | fail)
  exact bodyPost_ret (v := .tuple #[plV (zeroP), .bool false]) (results_two Try.results56 _ _ (W.heap.size + 1) _ _ rfl X.out.result rfl) rfl ⟨rfl, X.out.below⟩
set_option maxRecDepth 100000 in
set_option maxHeartbeats 1000000 in
theorem store_wait (h : Pl) (v : Int) (W : World) : Calls Try.prog 56 #[plV h, .int .u64 201330688, .int .i64 4, .int .u64 v] W fun e W' => e = .returned (.tuple #[plV (stF h 201330688 4 v).1, .bool (stF h 201330688 4 v).2]) ∧ Below W.heap.size W W' := by
  rw [stF_wait h v]
  go_enter Try.func56, Try.ntmps56
  go_upto_region 1 with (fail)
  have X := Lib.hid (Own.new W h)
  generalize (W.alloc (plO h)).alloc zeroO = w0 at *
  go_wp2_with (first | (go_at_call 69; (with_reducible refine (place_wait _).mono ?_); rintro e w' ⟨rfl, rfl⟩) | (with_reducible refine wpList_store_ex rfl rfl (Own.zero X.out rfl) rfl rfl ?_; intro wy hy; have X := Lib.hid hy; clear hy) | fail)
  exact bodyPost_ret (v := .tuple #[plV (zeroP), .bool false]) (results_two Try.results56 _ _ (W.heap.size + 1) _ _ rfl X.out.result rfl) rfl ⟨rfl, X.out.below⟩
theorem store_any (h : Pl) (t z v : Int) (hc : U32 h.c) (W : World) : Calls Try.prog 56 #[plV h, .int .u64 t, .int .i64 z, .int .u64 v] W fun e W' => e = .returned (.tuple #[plV (stF h t z v).1, .bool (stF h t z v).2]) ∧ Below W.heap.size W W' := by
  by_cases hz : z = 4
  · subst hz
    by_cases h_p1 : t = 201326596
    · subst h_p1; exact store_p1 h v W
    by_cases h_p2 : t = 201326600
    · subst h_p2; exact store_p2 h v W
    by_cases h_p3 : t = 201326604
    · subst h_p3; exact store_p3 h v W
    by_cases h_wait : t = 201330688
    · subst h_wait; exact store_wait h v W
    by_cases h_e0 : t = 201334784
    · subst h_e0; exact store_e0 h v W
    by_cases h_e1 : t = 201334912
    · subst h_e1; exact store_e1 h v W
    by_cases h_l0 : t = 203423744
    · subst h_l0; exact store_l0 h v W
    by_cases h_l1 : t = 203427840
    · subst h_l1; exact store_l1 h v W
    by_cases h_b0 : t = 203423748
    · subst h_b0; exact store_b0 h v hc W
    by_cases h_b1 : t = 203427844
    · subst h_b1; exact store_b1 h v hc W
    exact store_none h t v ⟨h_p1, h_p2, h_p3, h_wait, h_e0, h_e1, h_l0, h_l1, h_b0, h_b1⟩ W
  · exact store_size h t z v (by simpa using hz) W

end Go.Proofs.Ytnedhjaphfjdmaa.Pc
