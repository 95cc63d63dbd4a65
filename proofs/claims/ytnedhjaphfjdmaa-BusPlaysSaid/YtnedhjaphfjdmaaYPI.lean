/- Load of the program. -/
import Derived.Test.YtnedhjaphfjdmaaYPH
namespace Go.Proofs.Ytnedhjaphfjdmaa.Pc
open Go.RowKit Go.Deep Go.Joins
set_option maxRecDepth 100000 in
set_option maxHeartbeats 1000000 in
theorem load_p1 (h : Pl) (s : Int) (W : World) : Calls Try.prog 61 #[plV h, .int .u32 s, .int .u64 201326596, .int .i64 4] W fun e W' => e = .returned (.tuple #[plV (ldF h s 201326596 4).1, .int .u64 (ldF h s 201326596 4).2.1, .bool (ldF h s 201326596 4).2.2]) ∧ Below W.heap.size W W' := by
  rw [ldF_p1]
  go_enter Try.func61, Try.ntmps61
  go_upto_region 1 with (fail)
  have X := Lib.hid (Own.new W h)
  generalize (W.alloc (plO h)).alloc zeroO = w0 at *
  go_wp2_with (first | (with_reducible refine wpList_load_by rfl rfl (Own.load_p1 X.out) rfl ?_) | (go_at_call 69; (with_reducible refine (place_p1 _).mono ?_); rintro e w' ⟨rfl, rfl⟩) | (with_reducible refine wpList_load_by rfl rfl (Own.load X.out) rfl ?_) | (with_reducible refine wpList_store_ex rfl rfl (Own.tell X.out rfl _) rfl rfl ?_; intro wy hy; have X := Lib.hid hy; clear hy) | fail)
  exact bodyPost_ret (v := .tuple #[plV (h), .int .u64 (IntKind.u64.wrap h.p1), .bool true]) (results_three Try.results61 _ _ (W.heap.size + 1) _ _ _ rfl X.out.result rfl rfl) rfl ⟨rfl, X.out.below⟩
set_option maxRecDepth 100000 in
set_option maxHeartbeats 1000000 in
theorem load_p2 (h : Pl) (s : Int) (W : World) : Calls Try.prog 61 #[plV h, .int .u32 s, .int .u64 201326600, .int .i64 4] W fun e W' => e = .returned (.tuple #[plV (ldF h s 201326600 4).1, .int .u64 (ldF h s 201326600 4).2.1, .bool (ldF h s 201326600 4).2.2]) ∧ Below W.heap.size W W' := by
  rw [ldF_p2]
  go_enter Try.func61, Try.ntmps61
  go_upto_region 1 with (fail)
  have X := Lib.hid (Own.new W h)
  generalize (W.alloc (plO h)).alloc zeroO = w0 at *
  go_wp2_with (first | (with_reducible refine wpList_load_by rfl rfl (Own.load_p2 X.out) rfl ?_) | (go_at_call 69; (with_reducible refine (place_p2 _).mono ?_); rintro e w' ⟨rfl, rfl⟩) | (with_reducible refine wpList_load_by rfl rfl (Own.load X.out) rfl ?_) | (with_reducible refine wpList_store_ex rfl rfl (Own.tell X.out rfl _) rfl rfl ?_; intro wy hy; have X := Lib.hid hy; clear hy) | fail)
  exact bodyPost_ret (v := .tuple #[plV (h), .int .u64 (IntKind.u64.wrap h.p2), .bool true]) (results_three Try.results61 _ _ (W.heap.size + 1) _ _ _ rfl X.out.result rfl rfl) rfl ⟨rfl, X.out.below⟩
set_option maxRecDepth 100000 in
set_option maxHeartbeats 1000000 in
theorem load_p3 (h : Pl) (s : Int) (W : World) : Calls Try.prog 61 #[plV h, .int .u32 s, .int .u64 201326604, .int .i64 4] W fun e W' => e = .returned (.tuple #[plV (ldF h s 201326604 4).1, .int .u64 (ldF h s 201326604 4).2.1, .bool (ldF h s 201326604 4).2.2]) ∧ Below W.heap.size W W' := by
  rw [ldF_p3]
  go_enter Try.func61, Try.ntmps61
  go_upto_region 1 with (fail)
  have X := Lib.hid (Own.new W h)
  generalize (W.alloc (plO h)).alloc zeroO = w0 at *
  go_wp2_with (first | (with_reducible refine wpList_load_by rfl rfl (Own.load_p3 X.out) rfl ?_) | (go_at_call 69; (with_reducible refine (place_p3 _).mono ?_); rintro e w' ⟨rfl, rfl⟩) | (with_reducible refine wpList_load_by rfl rfl (Own.load X.out) rfl ?_) | (with_reducible refine wpList_store_ex rfl rfl (Own.tell X.out rfl _) rfl rfl ?_; intro wy hy; have X := Lib.hid hy; clear hy) | fail)
  exact bodyPost_ret (v := .tuple #[plV (h), .int .u64 (IntKind.u64.wrap h.p3), .bool true]) (results_three Try.results61 _ _ (W.heap.size + 1) _ _ _ rfl X.out.result rfl rfl) rfl ⟨rfl, X.out.below⟩
set_option maxRecDepth 100000 in
set_option maxHeartbeats 1000000 in
theorem load_wait (h : Pl) (s : Int) (W : World) : Calls Try.prog 61 #[plV h, .int .u32 s, .int .u64 201330688, .int .i64 4] W fun e W' => e = .returned (.tuple #[plV (ldF h s 201330688 4).1, .int .u64 (ldF h s 201330688 4).2.1, .bool (ldF h s 201330688 4).2.2]) ∧ Below W.heap.size W W' := by
  rw [ldF_wait]
  go_enter Try.func61, Try.ntmps61
  go_upto_region 1 with (fail)
  have X := Lib.hid (Own.new W h)
  generalize (W.alloc (plO h)).alloc zeroO = w0 at *
  go_wp2_with (first | (go_at_call 69; (with_reducible refine (place_wait _).mono ?_); rintro e w' ⟨rfl, rfl⟩) | (go_at_call 62; (with_reducible refine (wait_any h s _).mono ?_); rintro e w2 ⟨rfl, k2⟩; have X := Lib.hid (X.out.next k2)) | (with_reducible refine wpList_load_by rfl rfl (Own.load X.out) rfl ?_) | (with_reducible refine wpList_store_ex rfl rfl (Own.tell X.out rfl _) rfl rfl ?_; intro wy hy; have X := Lib.hid hy; clear hy) | fail)
  exact bodyPost_ret (v := .tuple #[plV (h), .int .u64 (IntKind.u64.wrap (waitV s h.c)), .bool true]) (results_three Try.results61 _ _ (W.heap.size + 1) _ _ _ rfl X.out.result rfl rfl) rfl ⟨rfl, X.out.below⟩
set_option maxRecDepth 100000 in
set_option maxHeartbeats 1000000 in
theorem load_e0 (h : Pl) (s : Int) (W : World) : Calls Try.prog 61 #[plV h, .int .u32 s, .int .u64 201334784, .int .i64 4] W fun e W' => e = .returned (.tuple #[plV (ldF h s 201334784 4).1, .int .u64 (ldF h s 201334784 4).2.1, .bool (ldF h s 201334784 4).2.2]) ∧ Below W.heap.size W W' := by
  rw [ldF_e0]
  go_enter Try.func61, Try.ntmps61
  go_upto_region 1 with (fail)
  have X := Lib.hid (Own.new W h)
  generalize (W.alloc (plO h)).alloc zeroO = w0 at *
  go_wp2_with (first | (with_reducible refine wpList_load_by rfl rfl (Own.load_e0 X.out) rfl ?_) | (go_at_call 69; (with_reducible refine (place_e0 _).mono ?_); rintro e w' ⟨rfl, rfl⟩) | (with_reducible refine wpList_load_by rfl rfl (Own.load X.out) rfl ?_) | (with_reducible refine wpList_store_ex rfl rfl (Own.tell X.out rfl _) rfl rfl ?_; intro wy hy; have X := Lib.hid hy; clear hy) | fail)
  exact bodyPost_ret (v := .tuple #[plV (h), .int .u64 (IntKind.u64.wrap h.e0), .bool true]) (results_three Try.results61 _ _ (W.heap.size + 1) _ _ _ rfl X.out.result rfl rfl) rfl ⟨rfl, X.out.below⟩
set_option maxRecDepth 100000 in
set_option maxHeartbeats 1000000 in
theorem load_e1 (h : Pl) (s : Int) (W : World) : Calls Try.prog 61 #[plV h, .int .u32 s, .int .u64 201334912, .int .i64 4] W fun e W' => e = .returned (.tuple #[plV (ldF h s 201334912 4).1, .int .u64 (ldF h s 201334912 4).2.1, .bool (ldF h s 201334912 4).2.2]) ∧ Below W.heap.size W W' := by
  rw [ldF_e1]
  go_enter Try.func61, Try.ntmps61
  go_upto_region 1 with (fail)
  have X := Lib.hid (Own.new W h)
  generalize (W.alloc (plO h)).alloc zeroO = w0 at *
  go_wp2_with (first | (with_reducible refine wpList_load_by rfl rfl (Own.load_e1 X.out) rfl ?_) | (go_at_call 69; (with_reducible refine (place_e1 _).mono ?_); rintro e w' ⟨rfl, rfl⟩) | (with_reducible refine wpList_load_by rfl rfl (Own.load X.out) rfl ?_) | (with_reducible refine wpList_store_ex rfl rfl (Own.tell X.out rfl _) rfl rfl ?_; intro wy hy; have X := Lib.hid hy; clear hy) | fail)
  exact bodyPost_ret (v := .tuple #[plV (h), .int .u64 (IntKind.u64.wrap h.e1), .bool true]) (results_three Try.results61 _ _ (W.heap.size + 1) _ _ _ rfl X.out.result rfl rfl) rfl ⟨rfl, X.out.below⟩
set_option maxRecDepth 100000 in
set_option maxHeartbeats 1000000 in
theorem load_l0 (h : Pl) (s : Int) (W : World) : Calls Try.prog 61 #[plV h, .int .u32 s, .int .u64 203423744, .int .i64 4] W fun e W' => e = .returned (.tuple #[plV (ldF h s 203423744 4).1, .int .u64 (ldF h s 203423744 4).2.1, .bool (ldF h s 203423744 4).2.2]) ∧ Below W.heap.size W W' := by
  rw [ldF_l0]
  go_enter Try.func61, Try.ntmps61
  go_upto_region 1 with (fail)
  have X := Lib.hid (Own.new W h)
  generalize (W.alloc (plO h)).alloc zeroO = w0 at *
  go_wp2_with (first | (with_reducible refine wpList_load_by rfl rfl (Own.load_l0 X.out) rfl ?_) | (go_at_call 69; (with_reducible refine (place_l0 _).mono ?_); rintro e w' ⟨rfl, rfl⟩) | (with_reducible refine wpList_load_by rfl rfl (Own.load X.out) rfl ?_) | (with_reducible refine wpList_store_ex rfl rfl (Own.tell X.out rfl _) rfl rfl ?_; intro wy hy; have X := Lib.hid hy; clear hy) | fail)
  exact bodyPost_ret (v := .tuple #[plV (h), .int .u64 (IntKind.u64.wrap h.l0), .bool true]) (results_three Try.results61 _ _ (W.heap.size + 1) _ _ _ rfl X.out.result rfl rfl) rfl ⟨rfl, X.out.below⟩
set_option maxRecDepth 100000 in
set_option maxHeartbeats 1000000 in
theorem load_l1 (h : Pl) (s : Int) (W : World) : Calls Try.prog 61 #[plV h, .int .u32 s, .int .u64 203427840, .int .i64 4] W fun e W' => e = .returned (.tuple #[plV (ldF h s 203427840 4).1, .int .u64 (ldF h s 203427840 4).2.1, .bool (ldF h s 203427840 4).2.2]) ∧ Below W.heap.size W W' := by
  rw [ldF_l1]
  go_enter Try.func61, Try.ntmps61
  go_upto_region 1 with (fail)
  have X := Lib.hid (Own.new W h)
  generalize (W.alloc (plO h)).alloc zeroO = w0 at *
  go_wp2_with (first | (with_reducible refine wpList_load_by rfl rfl (Own.load_l1 X.out) rfl ?_) | (go_at_call 69; (with_reducible refine (place_l1 _).mono ?_); rintro e w' ⟨rfl, rfl⟩) | (with_reducible refine wpList_load_by rfl rfl (Own.load X.out) rfl ?_) | (with_reducible refine wpList_store_ex rfl rfl (Own.tell X.out rfl _) rfl rfl ?_; intro wy hy; have X := Lib.hid hy; clear hy) | fail)
  exact bodyPost_ret (v := .tuple #[plV (h), .int .u64 (IntKind.u64.wrap h.l1), .bool true]) (results_three Try.results61 _ _ (W.heap.size + 1) _ _ _ rfl X.out.result rfl rfl) rfl ⟨rfl, X.out.below⟩
set_option maxRecDepth 100000 in
set_option maxHeartbeats 1000000 in
theorem load_b0_0 (h : Pl) (s : Int) (hb : bestF h s 0 = 0) (W : World) : Calls Try.prog 61 #[plV h, .int .u32 s, .int .u64 203423748, .int .i64 4] W fun e W' => e = .returned (.tuple #[plV (ldF h s 203423748 4).1, .int .u64 (ldF h s 203423748 4).2.1, .bool (ldF h s 203423748 4).2.2]) ∧ Below W.heap.size W W' := by
  have q := best_any h s 0
  rw [ldF_b0, hb]
  rw [hb] at q
  have Q8 := Lib.hid q
  clear q hb
  go_enter Try.func61, Try.ntmps61
  go_upto_region 1 with (fail)
  have X := Lib.hid (Own.new W h)
  generalize (W.alloc (plO h)).alloc zeroO = w0 at *
  go_upto_region 17 with (first | (with_reducible refine wpList_load_by rfl rfl (Own.load X.out) rfl ?_) | (go_at_call 69; (with_reducible refine (place_b0 _).mono ?_); rintro e w' ⟨rfl, rfl⟩) | (go_at_call 44; (with_reducible refine (Q8.out _).mono ?_); rintro e w2 ⟨rfl, k2⟩; have X := Lib.hid (X.out.next k2)) | fail)
  refine wp_region_still_tail 6 (by kernel_rfl) (by kernel_rfl) ?_
  simp only [List.take_succ_cons, List.take_zero, List.drop_succ_cons, List.drop_zero]
  have X : RowKit.Hid (Own W { w2 with drawn := w2.drawn + 1 } h zeroC) := Lib.hid X.out.drew
  generalize ({ w2 with drawn := w2.drawn + 1 } : World) = w3 at *
  repeat (first | (with_reducible refine still_load rfl rfl (Own.load_c X.out) rfl ?_) | still_step)
  still_call ((bit_lit0 _).mono fun _ _ h => ⟨h.1, h.2.symm⟩)
  repeat (first | (with_reducible refine still_load rfl rfl (Own.load_c X.out) rfl ?_) | still_step)
  refine wpStill_nil ?_
  go_wp2_with (first | (with_reducible refine wpList_store_ex rfl rfl (Own.store_c X.out _) rfl rfl ?_; intro wy hy; have X := Lib.hid hy; clear hy) | (with_reducible refine wpList_load_by rfl rfl (Own.load X.out) rfl ?_) | (with_reducible refine wpList_store_ex rfl rfl (Own.tell X.out rfl _) rfl rfl ?_; intro wy hy; have X := Lib.hid hy; clear hy) | fail)
  exact bodyPost_ret (v := .tuple #[plV ({ h with c := bits .or .u32 h.c (wt 0) }), .int .u64 (0), .bool true]) (results_three Try.results61 _ _ (W.heap.size + 1) _ _ _ rfl X.out.result rfl rfl) rfl ⟨rfl, X.out.below⟩
set_option maxRecDepth 100000 in
set_option maxHeartbeats 1000000 in
theorem load_b0_1 (h : Pl) (s : Int) (hb : bestF h s 0 = 1) (W : World) : Calls Try.prog 61 #[plV h, .int .u32 s, .int .u64 203423748, .int .i64 4] W fun e W' => e = .returned (.tuple #[plV (ldF h s 203423748 4).1, .int .u64 (ldF h s 203423748 4).2.1, .bool (ldF h s 203423748 4).2.2]) ∧ Below W.heap.size W W' := by
  have q := best_any h s 0
  rw [ldF_b0, hb]
  rw [hb] at q
  have Q8 := Lib.hid q
  clear q hb
  go_enter Try.func61, Try.ntmps61
  go_upto_region 1 with (fail)
  have X := Lib.hid (Own.new W h)
  generalize (W.alloc (plO h)).alloc zeroO = w0 at *
  go_upto_region 17 with (first | (with_reducible refine wpList_load_by rfl rfl (Own.load X.out) rfl ?_) | (go_at_call 69; (with_reducible refine (place_b0 _).mono ?_); rintro e w' ⟨rfl, rfl⟩) | (go_at_call 44; (with_reducible refine (Q8.out _).mono ?_); rintro e w2 ⟨rfl, k2⟩; have X := Lib.hid (X.out.next k2)) | fail)
  refine wp_region_still_tail 6 (by kernel_rfl) (by kernel_rfl) ?_
  simp only [List.take_succ_cons, List.take_zero, List.drop_succ_cons, List.drop_zero]
  have X : RowKit.Hid (Own W { w2 with drawn := w2.drawn + 1 } h zeroC) := Lib.hid X.out.drew
  generalize ({ w2 with drawn := w2.drawn + 1 } : World) = w3 at *
  repeat (first | (with_reducible refine still_load rfl rfl (Own.load_c X.out) rfl ?_) | still_step)
  still_call ((bit_lit1 _).mono fun _ _ h => ⟨h.1, h.2.symm⟩)
  repeat (first | (with_reducible refine still_load rfl rfl (Own.load_c X.out) rfl ?_) | still_step)
  refine wpStill_nil ?_
  go_wp2_with (first | (with_reducible refine wpList_store_ex rfl rfl (Own.store_c X.out _) rfl rfl ?_; intro wy hy; have X := Lib.hid hy; clear hy) | (with_reducible refine wpList_load_by rfl rfl (Own.load X.out) rfl ?_) | (with_reducible refine wpList_store_ex rfl rfl (Own.tell X.out rfl _) rfl rfl ?_; intro wy hy; have X := Lib.hid hy; clear hy) | fail)
  exact bodyPost_ret (v := .tuple #[plV ({ h with c := bits .or .u32 h.c (wt 1) }), .int .u64 (1), .bool true]) (results_three Try.results61 _ _ (W.heap.size + 1) _ _ _ rfl X.out.result rfl rfl) rfl ⟨rfl, X.out.below⟩
set_option maxRecDepth 100000 in
set_option maxHeartbeats 1000000 in
theorem load_b0_2 (h : Pl) (s : Int) (hb : bestF h s 0 = 2) (W : World) : Calls Try.prog 61 #[plV h, .int .u32 s, .int .u64 203423748, .int .i64 4] W fun e W' => e = .returned (.tuple #[plV (ldF h s 203423748 4).1, .int .u64 (ldF h s 203423748 4).2.1, .bool (ldF h s 203423748 4).2.2]) ∧ Below W.heap.size W W' := by
  have q := best_any h s 0
  rw [ldF_b0, hb]
  rw [hb] at q
  have Q8 := Lib.hid q
  clear q hb
  go_enter Try.func61, Try.ntmps61
  go_upto_region 1 with (fail)
  have X := Lib.hid (Own.new W h)
  generalize (W.alloc (plO h)).alloc zeroO = w0 at *
  go_upto_region 17 with (first | (with_reducible refine wpList_load_by rfl rfl (Own.load X.out) rfl ?_) | (go_at_call 69; (with_reducible refine (place_b0 _).mono ?_); rintro e w' ⟨rfl, rfl⟩) | (go_at_call 44; (with_reducible refine (Q8.out _).mono ?_); rintro e w2 ⟨rfl, k2⟩; have X := Lib.hid (X.out.next k2)) | fail)
  refine wp_region_still_tail 6 (by kernel_rfl) (by kernel_rfl) ?_
  simp only [List.take_succ_cons, List.take_zero, List.drop_succ_cons, List.drop_zero]
  have X : RowKit.Hid (Own W { w2 with drawn := w2.drawn + 1 } h zeroC) := Lib.hid X.out.drew
  generalize ({ w2 with drawn := w2.drawn + 1 } : World) = w3 at *
  repeat (first | (with_reducible refine still_load rfl rfl (Own.load_c X.out) rfl ?_) | still_step)
  still_call ((bit_lit2 _).mono fun _ _ h => ⟨h.1, h.2.symm⟩)
  repeat (first | (with_reducible refine still_load rfl rfl (Own.load_c X.out) rfl ?_) | still_step)
  refine wpStill_nil ?_
  go_wp2_with (first | (with_reducible refine wpList_store_ex rfl rfl (Own.store_c X.out _) rfl rfl ?_; intro wy hy; have X := Lib.hid hy; clear hy) | (with_reducible refine wpList_load_by rfl rfl (Own.load X.out) rfl ?_) | (with_reducible refine wpList_store_ex rfl rfl (Own.tell X.out rfl _) rfl rfl ?_; intro wy hy; have X := Lib.hid hy; clear hy) | fail)
  exact bodyPost_ret (v := .tuple #[plV ({ h with c := bits .or .u32 h.c (wt 2) }), .int .u64 (2), .bool true]) (results_three Try.results61 _ _ (W.heap.size + 1) _ _ _ rfl X.out.result rfl rfl) rfl ⟨rfl, X.out.below⟩
set_option maxRecDepth 100000 in
set_option maxHeartbeats 1000000 in
theorem load_b0_3 (h : Pl) (s : Int) (hb : bestF h s 0 = 3) (W : World) : Calls Try.prog 61 #[plV h, .int .u32 s, .int .u64 203423748, .int .i64 4] W fun e W' => e = .returned (.tuple #[plV (ldF h s 203423748 4).1, .int .u64 (ldF h s 203423748 4).2.1, .bool (ldF h s 203423748 4).2.2]) ∧ Below W.heap.size W W' := by
  have q := best_any h s 0
  rw [ldF_b0, hb]
  rw [hb] at q
  have Q8 := Lib.hid q
  clear q hb
  go_enter Try.func61, Try.ntmps61
  go_upto_region 1 with (fail)
  have X := Lib.hid (Own.new W h)
  generalize (W.alloc (plO h)).alloc zeroO = w0 at *
  go_upto_region 17 with (first | (with_reducible refine wpList_load_by rfl rfl (Own.load X.out) rfl ?_) | (go_at_call 69; (with_reducible refine (place_b0 _).mono ?_); rintro e w' ⟨rfl, rfl⟩) | (go_at_call 44; (with_reducible refine (Q8.out _).mono ?_); rintro e w2 ⟨rfl, k2⟩; have X := Lib.hid (X.out.next k2)) | fail)
  refine wp_region_still_tail 6 (by kernel_rfl) (by kernel_rfl) ?_
  simp only [List.take_succ_cons, List.take_zero, List.drop_succ_cons, List.drop_zero]
  have X : RowKit.Hid (Own W { w2 with drawn := w2.drawn + 1 } h zeroC) := Lib.hid X.out.drew
  generalize ({ w2 with drawn := w2.drawn + 1 } : World) = w3 at *
  repeat (first | (with_reducible refine still_load rfl rfl (Own.load_c X.out) rfl ?_) | still_step)
  still_call ((bit_lit3 _).mono fun _ _ h => ⟨h.1, h.2.symm⟩)
  repeat (first | (with_reducible refine still_load rfl rfl (Own.load_c X.out) rfl ?_) | still_step)
  refine wpStill_nil ?_
  go_wp2_with (first | (with_reducible refine wpList_store_ex rfl rfl (Own.store_c X.out _) rfl rfl ?_; intro wy hy; have X := Lib.hid hy; clear hy) | (with_reducible refine wpList_load_by rfl rfl (Own.load X.out) rfl ?_) | (with_reducible refine wpList_store_ex rfl rfl (Own.tell X.out rfl _) rfl rfl ?_; intro wy hy; have X := Lib.hid hy; clear hy) | fail)
  exact bodyPost_ret (v := .tuple #[plV ({ h with c := bits .or .u32 h.c (wt 3) }), .int .u64 (3), .bool true]) (results_three Try.results61 _ _ (W.heap.size + 1) _ _ _ rfl X.out.result rfl rfl) rfl ⟨rfl, X.out.below⟩
theorem load_b0 (h : Pl) (s : Int) (W : World) : Calls Try.prog 61 #[plV h, .int .u32 s, .int .u64 203423748, .int .i64 4] W fun e W' => e = .returned (.tuple #[plV (ldF h s 203423748 4).1, .int .u64 (ldF h s 203423748 4).2.1, .bool (ldF h s 203423748 4).2.2]) ∧ Below W.heap.size W W' := by
  have r := best_range h s 0
  rcases (show bestF h s 0 = 0 ∨ bestF h s 0 = 1 ∨ bestF h s 0 = 2 ∨ bestF h s 0 = 3 by omega) with e | e | e | e
  · exact load_b0_0 h s e W
  · exact load_b0_1 h s e W
  · exact load_b0_2 h s e W
  · exact load_b0_3 h s e W
set_option maxRecDepth 100000 in
set_option maxHeartbeats 1000000 in
theorem load_b1_0 (h : Pl) (s : Int) (hb : bestF h s 1 = 0) (W : World) : Calls Try.prog 61 #[plV h, .int .u32 s, .int .u64 203427844, .int .i64 4] W fun e W' => e = .returned (.tuple #[plV (ldF h s 203427844 4).1, .int .u64 (ldF h s 203427844 4).2.1, .bool (ldF h s 203427844 4).2.2]) ∧ Below W.heap.size W W' := by
  have q := best_any h s 1
  rw [ldF_b1, hb]
  rw [hb] at q
  have Q8 := Lib.hid q
  clear q hb
  go_enter Try.func61, Try.ntmps61
  go_upto_region 1 with (fail)
  have X := Lib.hid (Own.new W h)
  generalize (W.alloc (plO h)).alloc zeroO = w0 at *
  go_upto_region 17 with (first | (with_reducible refine wpList_load_by rfl rfl (Own.load X.out) rfl ?_) | (go_at_call 69; (with_reducible refine (place_b1 _).mono ?_); rintro e w' ⟨rfl, rfl⟩) | (go_at_call 44; (with_reducible refine (Q8.out _).mono ?_); rintro e w2 ⟨rfl, k2⟩; have X := Lib.hid (X.out.next k2)) | fail)
  refine wp_region_still_tail 6 (by kernel_rfl) (by kernel_rfl) ?_
  simp only [List.take_succ_cons, List.take_zero, List.drop_succ_cons, List.drop_zero]
  have X : RowKit.Hid (Own W { w2 with drawn := w2.drawn + 1 } h zeroC) := Lib.hid X.out.drew
  generalize ({ w2 with drawn := w2.drawn + 1 } : World) = w3 at *
  repeat (first | (with_reducible refine still_load rfl rfl (Own.load_c X.out) rfl ?_) | still_step)
  still_call ((bit_lit0 _).mono fun _ _ h => ⟨h.1, h.2.symm⟩)
  repeat (first | (with_reducible refine still_load rfl rfl (Own.load_c X.out) rfl ?_) | still_step)
  refine wpStill_nil ?_
  go_wp2_with (first | (with_reducible refine wpList_store_ex rfl rfl (Own.store_c X.out _) rfl rfl ?_; intro wy hy; have X := Lib.hid hy; clear hy) | (with_reducible refine wpList_load_by rfl rfl (Own.load X.out) rfl ?_) | (with_reducible refine wpList_store_ex rfl rfl (Own.tell X.out rfl _) rfl rfl ?_; intro wy hy; have X := Lib.hid hy; clear hy) | fail)
  exact bodyPost_ret (v := .tuple #[plV ({ h with c := bits .or .u32 h.c (wt 0) }), .int .u64 (0), .bool true]) (results_three Try.results61 _ _ (W.heap.size + 1) _ _ _ rfl X.out.result rfl rfl) rfl ⟨rfl, X.out.below⟩
set_option maxRecDepth 100000 in
set_option maxHeartbeats 1000000 in
theorem load_b1_1 (h : Pl) (s : Int) (hb : bestF h s 1 = 1) (W : World) : Calls Try.prog 61 #[plV h, .int .u32 s, .int .u64 203427844, .int .i64 4] W fun e W' => e = .returned (.tuple #[plV (ldF h s 203427844 4).1, .int .u64 (ldF h s 203427844 4).2.1, .bool (ldF h s 203427844 4).2.2]) ∧ Below W.heap.size W W' := by
  have q := best_any h s 1
  rw [ldF_b1, hb]
  rw [hb] at q
  have Q8 := Lib.hid q
  clear q hb
  go_enter Try.func61, Try.ntmps61
  go_upto_region 1 with (fail)
  have X := Lib.hid (Own.new W h)
  generalize (W.alloc (plO h)).alloc zeroO = w0 at *
  go_upto_region 17 with (first | (with_reducible refine wpList_load_by rfl rfl (Own.load X.out) rfl ?_) | (go_at_call 69; (with_reducible refine (place_b1 _).mono ?_); rintro e w' ⟨rfl, rfl⟩) | (go_at_call 44; (with_reducible refine (Q8.out _).mono ?_); rintro e w2 ⟨rfl, k2⟩; have X := Lib.hid (X.out.next k2)) | fail)
  refine wp_region_still_tail 6 (by kernel_rfl) (by kernel_rfl) ?_
  simp only [List.take_succ_cons, List.take_zero, List.drop_succ_cons, List.drop_zero]
  have X : RowKit.Hid (Own W { w2 with drawn := w2.drawn + 1 } h zeroC) := Lib.hid X.out.drew
  generalize ({ w2 with drawn := w2.drawn + 1 } : World) = w3 at *
  repeat (first | (with_reducible refine still_load rfl rfl (Own.load_c X.out) rfl ?_) | still_step)
  still_call ((bit_lit1 _).mono fun _ _ h => ⟨h.1, h.2.symm⟩)
  repeat (first | (with_reducible refine still_load rfl rfl (Own.load_c X.out) rfl ?_) | still_step)
  refine wpStill_nil ?_
  go_wp2_with (first | (with_reducible refine wpList_store_ex rfl rfl (Own.store_c X.out _) rfl rfl ?_; intro wy hy; have X := Lib.hid hy; clear hy) | (with_reducible refine wpList_load_by rfl rfl (Own.load X.out) rfl ?_) | (with_reducible refine wpList_store_ex rfl rfl (Own.tell X.out rfl _) rfl rfl ?_; intro wy hy; have X := Lib.hid hy; clear hy) | fail)
  exact bodyPost_ret (v := .tuple #[plV ({ h with c := bits .or .u32 h.c (wt 1) }), .int .u64 (1), .bool true]) (results_three Try.results61 _ _ (W.heap.size + 1) _ _ _ rfl X.out.result rfl rfl) rfl ⟨rfl, X.out.below⟩
set_option maxRecDepth 100000 in
set_option maxHeartbeats 1000000 in
theorem load_b1_2 (h : Pl) (s : Int) (hb : bestF h s 1 = 2) (W : World) : Calls Try.prog 61 #[plV h, .int .u32 s, .int .u64 203427844, .int .i64 4] W fun e W' => e = .returned (.tuple #[plV (ldF h s 203427844 4).1, .int .u64 (ldF h s 203427844 4).2.1, .bool (ldF h s 203427844 4).2.2]) ∧ Below W.heap.size W W' := by
  have q := best_any h s 1
  rw [ldF_b1, hb]
  rw [hb] at q
  have Q8 := Lib.hid q
  clear q hb
  go_enter Try.func61, Try.ntmps61
  go_upto_region 1 with (fail)
  have X := Lib.hid (Own.new W h)
  generalize (W.alloc (plO h)).alloc zeroO = w0 at *
  go_upto_region 17 with (first | (with_reducible refine wpList_load_by rfl rfl (Own.load X.out) rfl ?_) | (go_at_call 69; (with_reducible refine (place_b1 _).mono ?_); rintro e w' ⟨rfl, rfl⟩) | (go_at_call 44; (with_reducible refine (Q8.out _).mono ?_); rintro e w2 ⟨rfl, k2⟩; have X := Lib.hid (X.out.next k2)) | fail)
  refine wp_region_still_tail 6 (by kernel_rfl) (by kernel_rfl) ?_
  simp only [List.take_succ_cons, List.take_zero, List.drop_succ_cons, List.drop_zero]
  have X : RowKit.Hid (Own W { w2 with drawn := w2.drawn + 1 } h zeroC) := Lib.hid X.out.drew
  generalize ({ w2 with drawn := w2.drawn + 1 } : World) = w3 at *
  repeat (first | (with_reducible refine still_load rfl rfl (Own.load_c X.out) rfl ?_) | still_step)
  still_call ((bit_lit2 _).mono fun _ _ h => ⟨h.1, h.2.symm⟩)
  repeat (first | (with_reducible refine still_load rfl rfl (Own.load_c X.out) rfl ?_) | still_step)
  refine wpStill_nil ?_
  go_wp2_with (first | (with_reducible refine wpList_store_ex rfl rfl (Own.store_c X.out _) rfl rfl ?_; intro wy hy; have X := Lib.hid hy; clear hy) | (with_reducible refine wpList_load_by rfl rfl (Own.load X.out) rfl ?_) | (with_reducible refine wpList_store_ex rfl rfl (Own.tell X.out rfl _) rfl rfl ?_; intro wy hy; have X := Lib.hid hy; clear hy) | fail)
  exact bodyPost_ret (v := .tuple #[plV ({ h with c := bits .or .u32 h.c (wt 2) }), .int .u64 (2), .bool true]) (results_three Try.results61 _ _ (W.heap.size + 1) _ _ _ rfl X.out.result rfl rfl) rfl ⟨rfl, X.out.below⟩
set_option maxRecDepth 100000 in
set_option maxHeartbeats 1000000 in
theorem load_b1_3 (h : Pl) (s : Int) (hb : bestF h s 1 = 3) (W : World) : Calls Try.prog 61 #[plV h, .int .u32 s, .int .u64 203427844, .int .i64 4] W fun e W' => e = .returned (.tuple #[plV (ldF h s 203427844 4).1, .int .u64 (ldF h s 203427844 4).2.1, .bool (ldF h s 203427844 4).2.2]) ∧ Below W.heap.size W W' := by
  have q := best_any h s 1
  rw [ldF_b1, hb]
  rw [hb] at q
  have Q8 := Lib.hid q
  clear q hb
  go_enter Try.func61, Try.ntmps61
  go_upto_region 1 with (fail)
  have X := Lib.hid (Own.new W h)
  generalize (W.alloc (plO h)).alloc zeroO = w0 at *
  go_upto_region 17 with (first | (with_reducible refine wpList_load_by rfl rfl (Own.load X.out) rfl ?_) | (go_at_call 69; (with_reducible refine (place_b1 _).mono ?_); rintro e w' ⟨rfl, rfl⟩) | (go_at_call 44; (with_reducible refine (Q8.out _).mono ?_); rintro e w2 ⟨rfl, k2⟩; have X := Lib.hid (X.out.next k2)) | fail)
  refine wp_region_still_tail 6 (by kernel_rfl) (by kernel_rfl) ?_
  simp only [List.take_succ_cons, List.take_zero, List.drop_succ_cons, List.drop_zero]
  have X : RowKit.Hid (Own W { w2 with drawn := w2.drawn + 1 } h zeroC) := Lib.hid X.out.drew
  generalize ({ w2 with drawn := w2.drawn + 1 } : World) = w3 at *
  repeat (first | (with_reducible refine still_load rfl rfl (Own.load_c X.out) rfl ?_) | still_step)
  still_call ((bit_lit3 _).mono fun _ _ h => ⟨h.1, h.2.symm⟩)
  repeat (first | (with_reducible refine still_load rfl rfl (Own.load_c X.out) rfl ?_) | still_step)
  refine wpStill_nil ?_
  go_wp2_with (first | (with_reducible refine wpList_store_ex rfl rfl (Own.store_c X.out _) rfl rfl ?_; intro wy hy; have X := Lib.hid hy; clear hy) | (with_reducible refine wpList_load_by rfl rfl (Own.load X.out) rfl ?_) | (with_reducible refine wpList_store_ex rfl rfl (Own.tell X.out rfl _) rfl rfl ?_; intro wy hy; have X := Lib.hid hy; clear hy) | fail)
  exact bodyPost_ret (v := .tuple #[plV ({ h with c := bits .or .u32 h.c (wt 3) }), .int .u64 (3), .bool true]) (results_three Try.results61 _ _ (W.heap.size + 1) _ _ _ rfl X.out.result rfl rfl) rfl ⟨rfl, X.out.below⟩
theorem load_b1 (h : Pl) (s : Int) (W : World) : Calls Try.prog 61 #[plV h, .int .u32 s, .int .u64 203427844, .int .i64 4] W fun e W' => e = .returned (.tuple #[plV (ldF h s 203427844 4).1, .int .u64 (ldF h s 203427844 4).2.1, .bool (ldF h s 203427844 4).2.2]) ∧ Below W.heap.size W W' := by
  have r := best_range h s 1
  rcases (show bestF h s 1 = 0 ∨ bestF h s 1 = 1 ∨ bestF h s 1 = 2 ∨ bestF h s 1 = 3 by omega) with e | e | e | e
  · exact load_b1_0 h s e W
  · exact load_b1_1 h s e W
  · exact load_b1_2 h s e W
  · exact load_b1_3 h s e W
set_option maxRecDepth 100000 in
set_option maxHeartbeats 1000000 in
theorem load_size (h : Pl) (s t z : Int) (hz : (z != 4) = true) (W : World) : Calls Try.prog 61 #[plV h, .int .u32 s, .int .u64 t, .int .i64 z] W fun e W' => e = .returned (.tuple #[plV (ldF h s t z).1, .int .u64 (ldF h s t z).2.1, .bool (ldF h s t z).2.2]) ∧ Below W.heap.size W W' := by
  rw [ldF_none h s t z (.inl (by simpa using hz))]
  go_enter Try.func61, Try.ntmps61
  go_upto_region 1 with (fail)
  have X := Lib.hid (Own.new W h)
  generalize (W.alloc (plO h)).alloc zeroO = w0 at *
  go_wp2_with (first | (with_reducible refine wpList_store_ex rfl rfl (Own.zero X.out rfl) rfl rfl ?_; intro wy hy; have X := Lib.hid hy; clear hy) | fail)
  exact bodyPost_ret (v := .tuple #[plV (zeroP), .int .u64 (0), .bool false]) (results_three Try.results61 _ _ (W.heap.size + 1) _ _ _ rfl X.out.result rfl rfl) rfl ⟨rfl, X.out.below⟩
set_option maxRecDepth 100000 in
set_option maxHeartbeats 1000000 in
theorem load_none (h : Pl) (s t : Int) (hn : NoPlace t) (W : World) : Calls Try.prog 61 #[plV h, .int .u32 s, .int .u64 t, .int .i64 4] W fun e W' => e = .returned (.tuple #[plV (ldF h s t 4).1, .int .u64 (ldF h s t 4).2.1, .bool (ldF h s t 4).2.2]) ∧ Below W.heap.size W W' := by
  rw [ldF_none h s t 4 (.inr hn)]
  go_enter Try.func61, Try.ntmps61
  go_upto_region 1 with (fail)
  have X := Lib.hid (Own.new W h)
  generalize (W.alloc (plO h)).alloc zeroO = w0 at *
  go_wp2_with (first | (go_at_call 69; (with_reducible refine (place_none t hn _).mono ?_); rintro e w' ⟨rfl, rfl⟩) | (with_reducible refine wpList_store_ex rfl rfl (Own.zero X.out rfl) rfl rfl ?_; intro wy hy; have X := Lib.hid hy; clear hy) | fail)
  exact bodyPost_ret (v := .tuple #[plV (zeroP), .int .u64 (0), .bool false]) (results_three Try.results61 _ _ (W.heap.size + 1) _ _ _ rfl X.out.result rfl rfl) rfl ⟨rfl, X.out.below⟩
theorem load_any (h : Pl) (s t z : Int) (W : World) : Calls Try.prog 61 #[plV h, .int .u32 s, .int .u64 t, .int .i64 z] W fun e W' => e = .returned (.tuple #[plV (ldF h s t z).1, .int .u64 (ldF h s t z).2.1, .bool (ldF h s t z).2.2]) ∧ Below W.heap.size W W' := by
  by_cases hz : z = 4
  · subst hz
    by_cases h_p1 : t = 201326596
    · subst h_p1; exact load_p1 h s W
    by_cases h_p2 : t = 201326600
    · subst h_p2; exact load_p2 h s W
    by_cases h_p3 : t = 201326604
    · subst h_p3; exact load_p3 h s W
    by_cases h_wait : t = 201330688
    · subst h_wait; exact load_wait h s W
    by_cases h_e0 : t = 201334784
    · subst h_e0; exact load_e0 h s W
    by_cases h_e1 : t = 201334912
    · subst h_e1; exact load_e1 h s W
    by_cases h_l0 : t = 203423744
    · subst h_l0; exact load_l0 h s W
    by_cases h_l1 : t = 203427840
    · subst h_l1; exact load_l1 h s W
    by_cases h_b0 : t = 203423748
    · subst h_b0; exact load_b0 h s W
    by_cases h_b1 : t = 203427844
    · subst h_b1; exact load_b1 h s W
    exact load_none h s t ⟨h_p1, h_p2, h_p3, h_wait, h_e0, h_e1, h_l0, h_l1, h_b0, h_b1⟩ W
  · exact load_size h s t z (by simpa using hz) W

end Go.Proofs.Ytnedhjaphfjdmaa.Pc
