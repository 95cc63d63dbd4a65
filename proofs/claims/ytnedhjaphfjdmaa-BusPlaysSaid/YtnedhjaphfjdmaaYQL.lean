/- Store of the reference. -/
import Derived.Test.YtnedhjaphfjdmaaYPK
import Derived.Test.YtnedhjaphfjdmaaYQD
import Derived.Test.YtnedhjaphfjdmaaYDX
namespace Go.Proofs.Ytnedhjaphfjdmaa.Pc
open Go.RowKit Go.Deep Go.Joins
theorem back_yes (h : Pl) (k : Nat) (e : Int) (hk : 1 ≤ k ∧ k ≤ 3) (hb : bitT e k = true) : backF h k e = bits .andNot .u32 h.c (wt k) := by
  unfold backF
  rw [if_pos ⟨by omega, by simpa using hb⟩]
theorem back_no (h : Pl) (k : Nat) (e : Int) (hb : bitT e k = false) : backF h k e = h.c := by
  unfold backF
  rw [if_neg (fun a => by have := a.2; rw [Int.toNat_natCast, hb] at this; cases this)]
set_option maxRecDepth 100000 in
set_option maxHeartbeats 1000000 in
theorem rstore_p1 (h : Pl) (v : Int) (W : World) : Calls Try.prog 51 #[plV h, .int .u64 201326596, .int .i64 4, .int .u64 v] W fun e W' => e = .returned (.tuple #[plV (stF h 201326596 4 v).1, .bool (stF h 201326596 4 v).2]) ∧ Below W.heap.size W W' := by
  rw [stF_p1]
  go_enter Try.func51, Try.ntmps51
  go_upto_region 1 with (fail)
  have X := Lib.hid (Own.new W h)
  generalize (W.alloc (plO h)).alloc zeroO = w0 at *
  go_wp2_with (first | (with_reducible refine wpList_store_ex rfl rfl (Own.store_p1 X.out _) rfl rfl ?_; intro wy hy; have X := Lib.hid hy; clear hy) | (with_reducible refine wpList_load_by rfl rfl (Own.load X.out) rfl ?_) | (with_reducible refine wpList_store_ex rfl rfl (Own.tell X.out rfl _) rfl rfl ?_; intro wy hy; have X := Lib.hid hy; clear hy) | fail)
  exact bodyPost_ret (v := .tuple #[plV ({ h with p1 := bits .and .u32 (IntKind.u32.wrap v) 7 }), .bool true]) (results_two Try.results51 _ _ (W.heap.size + 1) _ _ rfl X.out.result rfl) rfl ⟨rfl, X.out.below⟩
set_option maxRecDepth 100000 in
set_option maxHeartbeats 1000000 in
theorem rstore_p2 (h : Pl) (v : Int) (W : World) : Calls Try.prog 51 #[plV h, .int .u64 201326600, .int .i64 4, .int .u64 v] W fun e W' => e = .returned (.tuple #[plV (stF h 201326600 4 v).1, .bool (stF h 201326600 4 v).2]) ∧ Below W.heap.size W W' := by
  rw [stF_p2]
  go_enter Try.func51, Try.ntmps51
  go_upto_region 1 with (fail)
  have X := Lib.hid (Own.new W h)
  generalize (W.alloc (plO h)).alloc zeroO = w0 at *
  go_wp2_with (first | (with_reducible refine wpList_store_ex rfl rfl (Own.store_p2 X.out _) rfl rfl ?_; intro wy hy; have X := Lib.hid hy; clear hy) | (with_reducible refine wpList_load_by rfl rfl (Own.load X.out) rfl ?_) | (with_reducible refine wpList_store_ex rfl rfl (Own.tell X.out rfl _) rfl rfl ?_; intro wy hy; have X := Lib.hid hy; clear hy) | fail)
  exact bodyPost_ret (v := .tuple #[plV ({ h with p2 := bits .and .u32 (IntKind.u32.wrap v) 7 }), .bool true]) (results_two Try.results51 _ _ (W.heap.size + 1) _ _ rfl X.out.result rfl) rfl ⟨rfl, X.out.below⟩
set_option maxRecDepth 100000 in
set_option maxHeartbeats 1000000 in
theorem rstore_p3 (h : Pl) (v : Int) (W : World) : Calls Try.prog 51 #[plV h, .int .u64 201326604, .int .i64 4, .int .u64 v] W fun e W' => e = .returned (.tuple #[plV (stF h 201326604 4 v).1, .bool (stF h 201326604 4 v).2]) ∧ Below W.heap.size W W' := by
  rw [stF_p3]
  go_enter Try.func51, Try.ntmps51
  go_upto_region 1 with (fail)
  have X := Lib.hid (Own.new W h)
  generalize (W.alloc (plO h)).alloc zeroO = w0 at *
  go_wp2_with (first | (with_reducible refine wpList_store_ex rfl rfl (Own.store_p3 X.out _) rfl rfl ?_; intro wy hy; have X := Lib.hid hy; clear hy) | (with_reducible refine wpList_load_by rfl rfl (Own.load X.out) rfl ?_) | (with_reducible refine wpList_store_ex rfl rfl (Own.tell X.out rfl _) rfl rfl ?_; intro wy hy; have X := Lib.hid hy; clear hy) | fail)
  exact bodyPost_ret (v := .tuple #[plV ({ h with p3 := bits .and .u32 (IntKind.u32.wrap v) 7 }), .bool true]) (results_two Try.results51 _ _ (W.heap.size + 1) _ _ rfl X.out.result rfl) rfl ⟨rfl, X.out.below⟩
set_option maxRecDepth 100000 in
set_option maxHeartbeats 1000000 in
theorem rstore_e0 (h : Pl) (v : Int) (W : World) : Calls Try.prog 51 #[plV h, .int .u64 201334784, .int .i64 4, .int .u64 v] W fun e W' => e = .returned (.tuple #[plV (stF h 201334784 4 v).1, .bool (stF h 201334784 4 v).2]) ∧ Below W.heap.size W W' := by
  rw [stF_e0]
  have R0 := Lib.hid fun W => rplace_lit 8192 8192 128 (0) (by decide +kernel) W
  go_enter Try.func51, Try.ntmps51
  go_upto_region 1 with (fail)
  have X := Lib.hid (Own.new W h)
  generalize (W.alloc (plO h)).alloc zeroO = w0 at *
  go_wp2_with (first | (go_at_call 65; (with_reducible refine (R0.out _).mono ?_); rintro e w' ⟨rfl, rfl⟩) | (with_reducible refine wpList_store_ex rfl rfl (Own.store_e0 X.out _) rfl rfl ?_; intro wy hy; have X := Lib.hid hy; clear hy) | (with_reducible refine wpList_load_by rfl rfl (Own.load X.out) rfl ?_) | (with_reducible refine wpList_store_ex rfl rfl (Own.tell X.out rfl _) rfl rfl ?_; intro wy hy; have X := Lib.hid hy; clear hy) | fail)
  exact bodyPost_ret (v := .tuple #[plV ({ h with e0 := bits .and .u32 (IntKind.u32.wrap v) 14 }), .bool true]) (results_two Try.results51 _ _ (W.heap.size + 1) _ _ rfl X.out.result rfl) rfl ⟨rfl, X.out.below⟩
set_option maxRecDepth 100000 in
set_option maxHeartbeats 1000000 in
theorem rstore_e1 (h : Pl) (v : Int) (W : World) : Calls Try.prog 51 #[plV h, .int .u64 201334912, .int .i64 4, .int .u64 v] W fun e W' => e = .returned (.tuple #[plV (stF h 201334912 4 v).1, .bool (stF h 201334912 4 v).2]) ∧ Below W.heap.size W W' := by
  rw [stF_e1]
  have R0 := Lib.hid fun W => rplace_lit 8320 8192 128 (1) (by decide +kernel) W
  go_enter Try.func51, Try.ntmps51
  go_upto_region 1 with (fail)
  have X := Lib.hid (Own.new W h)
  generalize (W.alloc (plO h)).alloc zeroO = w0 at *
  go_wp2_with (first | (go_at_call 65; (with_reducible refine (R0.out _).mono ?_); rintro e w' ⟨rfl, rfl⟩) | (with_reducible refine wpList_store_ex rfl rfl (Own.store_e1 X.out _) rfl rfl ?_; intro wy hy; have X := Lib.hid hy; clear hy) | (with_reducible refine wpList_load_by rfl rfl (Own.load X.out) rfl ?_) | (with_reducible refine wpList_store_ex rfl rfl (Own.tell X.out rfl _) rfl rfl ?_; intro wy hy; have X := Lib.hid hy; clear hy) | fail)
  exact bodyPost_ret (v := .tuple #[plV ({ h with e1 := bits .and .u32 (IntKind.u32.wrap v) 14 }), .bool true]) (results_two Try.results51 _ _ (W.heap.size + 1) _ _ rfl X.out.result rfl) rfl ⟨rfl, X.out.below⟩
set_option maxRecDepth 100000 in
set_option maxHeartbeats 1000000 in
theorem rstore_l0 (h : Pl) (v : Int) (W : World) : Calls Try.prog 51 #[plV h, .int .u64 203423744, .int .i64 4, .int .u64 v] W fun e W' => e = .returned (.tuple #[plV (stF h 203423744 4 v).1, .bool (stF h 203423744 4 v).2]) ∧ Below W.heap.size W W' := by
  rw [stF_l0]
  have R0 := Lib.hid fun W => rplace_lit 2097152 8192 128 (-1) (by decide +kernel) W
  have R1 := Lib.hid fun W => rplace_lit 2097152 2097152 4096 (0) (by decide +kernel) W
  go_enter Try.func51, Try.ntmps51
  go_upto_region 1 with (fail)
  have X := Lib.hid (Own.new W h)
  generalize (W.alloc (plO h)).alloc zeroO = w0 at *
  go_wp2_with (first | (go_at_call 65; (with_reducible refine (R0.out _).mono ?_); rintro e w' ⟨rfl, rfl⟩) | (go_at_call 65; (with_reducible refine (R1.out _).mono ?_); rintro e w' ⟨rfl, rfl⟩) | (with_reducible refine wpList_store_ex rfl rfl (Own.store_l0 X.out _) rfl rfl ?_; intro wy hy; have X := Lib.hid hy; clear hy) | (with_reducible refine wpList_load_by rfl rfl (Own.load X.out) rfl ?_) | (with_reducible refine wpList_store_ex rfl rfl (Own.tell X.out rfl _) rfl rfl ?_; intro wy hy; have X := Lib.hid hy; clear hy) | fail)
  exact bodyPost_ret (v := .tuple #[plV ({ h with l0 := bits .and .u32 (IntKind.u32.wrap v) 7 }), .bool true]) (results_two Try.results51 _ _ (W.heap.size + 1) _ _ rfl X.out.result rfl) rfl ⟨rfl, X.out.below⟩
set_option maxRecDepth 100000 in
set_option maxHeartbeats 1000000 in
theorem rstore_l1 (h : Pl) (v : Int) (W : World) : Calls Try.prog 51 #[plV h, .int .u64 203427840, .int .i64 4, .int .u64 v] W fun e W' => e = .returned (.tuple #[plV (stF h 203427840 4 v).1, .bool (stF h 203427840 4 v).2]) ∧ Below W.heap.size W W' := by
  rw [stF_l1]
  have R0 := Lib.hid fun W => rplace_lit 2101248 8192 128 (-1) (by decide +kernel) W
  have R1 := Lib.hid fun W => rplace_lit 2101248 2097152 4096 (1) (by decide +kernel) W
  go_enter Try.func51, Try.ntmps51
  go_upto_region 1 with (fail)
  have X := Lib.hid (Own.new W h)
  generalize (W.alloc (plO h)).alloc zeroO = w0 at *
  go_wp2_with (first | (go_at_call 65; (with_reducible refine (R0.out _).mono ?_); rintro e w' ⟨rfl, rfl⟩) | (go_at_call 65; (with_reducible refine (R1.out _).mono ?_); rintro e w' ⟨rfl, rfl⟩) | (with_reducible refine wpList_store_ex rfl rfl (Own.store_l1 X.out _) rfl rfl ?_; intro wy hy; have X := Lib.hid hy; clear hy) | (with_reducible refine wpList_load_by rfl rfl (Own.load X.out) rfl ?_) | (with_reducible refine wpList_store_ex rfl rfl (Own.tell X.out rfl _) rfl rfl ?_; intro wy hy; have X := Lib.hid hy; clear hy) | fail)
  exact bodyPost_ret (v := .tuple #[plV ({ h with l1 := bits .and .u32 (IntKind.u32.wrap v) 7 }), .bool true]) (results_two Try.results51 _ _ (W.heap.size + 1) _ _ rfl X.out.result rfl) rfl ⟨rfl, X.out.below⟩
set_option maxRecDepth 100000 in
set_option maxHeartbeats 1000000 in
theorem rstore_b0_0 (h : Pl) (v : Int) (hv : IntKind.u32.wrap v = 0) (W : World) : Calls Try.prog 51 #[plV h, .int .u64 203423748, .int .i64 4, .int .u64 v] W fun e W' => e = .returned (.tuple #[plV (stF h 203423748 4 v).1, .bool (stF h 203423748 4 v).2]) ∧ Below W.heap.size W W' := by
  rw [stF_b0, hv, back_none h h.e0 0 (by omega)]
  have R0 := Lib.hid fun W => rplace_lit 2097156 8192 128 (-1) (by decide +kernel) W
  have R1 := Lib.hid fun W => rplace_lit 2097156 2097152 4096 (-1) (by decide +kernel) W
  have R2 := Lib.hid fun W => rplace_lit 2097156 2097156 4096 (0) (by decide +kernel) W
  go_enter Try.func51, Try.ntmps51
  go_upto_region 1 with (fail)
  have X := Lib.hid (Own.new W h)
  generalize (W.alloc (plO h)).alloc zeroO = w0 at *
  go_wp2_with (first | (go_at_call 65; (with_reducible refine (R0.out _).mono ?_); rintro e w' ⟨rfl, rfl⟩) | (go_at_call 65; (with_reducible refine (R1.out _).mono ?_); rintro e w' ⟨rfl, rfl⟩) | (go_at_call 65; (with_reducible refine (R2.out _).mono ?_); rintro e w' ⟨rfl, rfl⟩) | (with_reducible refine wpList_load_by rfl rfl (Own.load_c X.out) rfl ?_) | (with_reducible refine wpList_load_wanted (by first | exact rfl | (simp [Region.wanted, yielded]; done)) rfl (Own.load_e0 X.out) rfl ?_) | (with_reducible refine wpList_load_by rfl rfl (Own.load X.out) rfl ?_) | (with_reducible refine wpList_store_ex rfl rfl (Own.store_c X.out _) rfl rfl ?_; intro wy hy; have X := Lib.hid hy; clear hy) | (with_reducible refine wpList_store_ex rfl rfl (Own.tell X.out rfl _) rfl rfl ?_; intro wy hy; have X := Lib.hid hy; clear hy) | fail)
  exact bodyPost_ret (v := .tuple #[plV (h), .bool true]) (results_two Try.results51 _ _ (W.heap.size + 1) _ _ rfl X.out.result rfl) rfl ⟨rfl, X.out.below⟩
set_option maxRecDepth 100000 in
set_option maxHeartbeats 1000000 in
theorem rstore_b0_1y (h : Pl) (v : Int) (he : U32 h.e0) (hv : IntKind.u32.wrap v = 1) (hb : bitT h.e0 1 = true) (W : World) : Calls Try.prog 51 #[plV h, .int .u64 203423748, .int .i64 4, .int .u64 v] W fun e W' => e = .returned (.tuple #[plV (stF h 203423748 4 v).1, .bool (stF h 203423748 4 v).2]) ∧ Below W.heap.size W W' := by
  rw [stF_b0, hv, show backF h 1 h.e0 = bits .andNot .u32 h.c 2 from back_yes h 1 h.e0 (by omega) hb]
  have hz : (bits .and .u32 (h.e0 / 2) 1 == 1) = true := (shift_1 h.e0 he).trans hb
  clear hb he
  have R0 := Lib.hid fun W => rplace_lit 2097156 8192 128 (-1) (by decide +kernel) W
  have R1 := Lib.hid fun W => rplace_lit 2097156 2097152 4096 (-1) (by decide +kernel) W
  have R2 := Lib.hid fun W => rplace_lit 2097156 2097156 4096 (0) (by decide +kernel) W
  go_enter Try.func51, Try.ntmps51
  go_upto_region 1 with (fail)
  have X := Lib.hid (Own.new W h)
  generalize (W.alloc (plO h)).alloc zeroO = w0 at *
  go_wp2_with (first | (go_at_call 65; (with_reducible refine (R0.out _).mono ?_); rintro e w' ⟨rfl, rfl⟩) | (go_at_call 65; (with_reducible refine (R1.out _).mono ?_); rintro e w' ⟨rfl, rfl⟩) | (go_at_call 65; (with_reducible refine (R2.out _).mono ?_); rintro e w' ⟨rfl, rfl⟩) | (with_reducible refine wpList_load_by rfl rfl (Own.load_c X.out) rfl ?_) | (with_reducible refine wpList_load_wanted (by first | exact rfl | (simp [Region.wanted, yielded]; done)) rfl (Own.load_e0 X.out) rfl ?_) | (with_reducible refine wpList_load_by rfl rfl (Own.load X.out) rfl ?_) | (with_reducible refine wpList_store_ex rfl rfl (Own.store_c X.out _) rfl rfl ?_; intro wy hy; have X := Lib.hid hy; clear hy) | (with_reducible refine wpList_store_ex rfl rfl (Own.tell X.out rfl _) rfl rfl ?_; intro wy hy; have X := Lib.hid hy; clear hy) | fail)
  exact bodyPost_ret (v := .tuple #[plV ({ h with c := bits .andNot .u32 h.c 2 }), .bool true]) (results_two Try.results51 _ _ (W.heap.size + 1) _ _ rfl X.out.result rfl) rfl ⟨rfl, X.out.below⟩
set_option maxRecDepth 100000 in
set_option maxHeartbeats 1000000 in
theorem rstore_b0_1n (h : Pl) (v : Int) (he : U32 h.e0) (hv : IntKind.u32.wrap v = 1) (hb : bitT h.e0 1 = false) (W : World) : Calls Try.prog 51 #[plV h, .int .u64 203423748, .int .i64 4, .int .u64 v] W fun e W' => e = .returned (.tuple #[plV (stF h 203423748 4 v).1, .bool (stF h 203423748 4 v).2]) ∧ Below W.heap.size W W' := by
  rw [stF_b0, hv, show backF h 1 h.e0 = h.c from back_no h 1 h.e0 hb]
  have hz : (bits .and .u32 (h.e0 / 2) 1 == 1) = false := (shift_1 h.e0 he).trans hb
  clear hb he
  have R0 := Lib.hid fun W => rplace_lit 2097156 8192 128 (-1) (by decide +kernel) W
  have R1 := Lib.hid fun W => rplace_lit 2097156 2097152 4096 (-1) (by decide +kernel) W
  have R2 := Lib.hid fun W => rplace_lit 2097156 2097156 4096 (0) (by decide +kernel) W
  go_enter Try.func51, Try.ntmps51
  go_upto_region 1 with (fail)
  have X := Lib.hid (Own.new W h)
  generalize (W.alloc (plO h)).alloc zeroO = w0 at *
  go_wp2_with (first | (go_at_call 65; (with_reducible refine (R0.out _).mono ?_); rintro e w' ⟨rfl, rfl⟩) | (go_at_call 65; (with_reducible refine (R1.out _).mono ?_); rintro e w' ⟨rfl, rfl⟩) | (go_at_call 65; (with_reducible refine (R2.out _).mono ?_); rintro e w' ⟨rfl, rfl⟩) | (with_reducible refine wpList_load_by rfl rfl (Own.load_c X.out) rfl ?_) | (with_reducible refine wpList_load_wanted (by first | exact rfl | (simp [Region.wanted, yielded]; done)) rfl (Own.load_e0 X.out) rfl ?_) | (with_reducible refine wpList_load_by rfl rfl (Own.load X.out) rfl ?_) | (with_reducible refine wpList_store_ex rfl rfl (Own.store_c X.out _) rfl rfl ?_; intro wy hy; have X := Lib.hid hy; clear hy) | (with_reducible refine wpList_store_ex rfl rfl (Own.tell X.out rfl _) rfl rfl ?_; intro wy hy; have X := Lib.hid hy; clear hy) | fail)
  exact bodyPost_ret (v := .tuple #[plV (h), .bool true]) (results_two Try.results51 _ _ (W.heap.size + 1) _ _ rfl X.out.result rfl) rfl ⟨rfl, X.out.below⟩
set_option maxRecDepth 100000 in
set_option maxHeartbeats 1000000 in
theorem rstore_b0_2y (h : Pl) (v : Int) (he : U32 h.e0) (hv : IntKind.u32.wrap v = 2) (hb : bitT h.e0 2 = true) (W : World) : Calls Try.prog 51 #[plV h, .int .u64 203423748, .int .i64 4, .int .u64 v] W fun e W' => e = .returned (.tuple #[plV (stF h 203423748 4 v).1, .bool (stF h 203423748 4 v).2]) ∧ Below W.heap.size W W' := by
  rw [stF_b0, hv, show backF h 2 h.e0 = bits .andNot .u32 h.c 4 from back_yes h 2 h.e0 (by omega) hb]
  have hz : (bits .and .u32 (h.e0 / 4) 1 == 1) = true := (shift_2 h.e0 he).trans hb
  clear hb he
  have R0 := Lib.hid fun W => rplace_lit 2097156 8192 128 (-1) (by decide +kernel) W
  have R1 := Lib.hid fun W => rplace_lit 2097156 2097152 4096 (-1) (by decide +kernel) W
  have R2 := Lib.hid fun W => rplace_lit 2097156 2097156 4096 (0) (by decide +kernel) W
  go_enter Try.func51, Try.ntmps51
  go_upto_region 1 with (fail)
  have X := Lib.hid (Own.new W h)
  generalize (W.alloc (plO h)).alloc zeroO = w0 at *
  go_wp2_with (first | (go_at_call 65; (with_reducible refine (R0.out _).mono ?_); rintro e w' ⟨rfl, rfl⟩) | (go_at_call 65; (with_reducible refine (R1.out _).mono ?_); rintro e w' ⟨rfl, rfl⟩) | (go_at_call 65; (with_reducible refine (R2.out _).mono ?_); rintro e w' ⟨rfl, rfl⟩) | (with_reducible refine wpList_load_by rfl rfl (Own.load_c X.out) rfl ?_) | (with_reducible refine wpList_load_wanted (by first | exact rfl | (simp [Region.wanted, yielded]; done)) rfl (Own.load_e0 X.out) rfl ?_) | (with_reducible refine wpList_load_by rfl rfl (Own.load X.out) rfl ?_) | (with_reducible refine wpList_store_ex rfl rfl (Own.store_c X.out _) rfl rfl ?_; intro wy hy; have X := Lib.hid hy; clear hy) | (with_reducible refine wpList_store_ex rfl rfl (Own.tell X.out rfl _) rfl rfl ?_; intro wy hy; have X := Lib.hid hy; clear hy) | fail)
  exact bodyPost_ret (v := .tuple #[plV ({ h with c := bits .andNot .u32 h.c 4 }), .bool true]) (results_two Try.results51 _ _ (W.heap.size + 1) _ _ rfl X.out.result rfl) rfl ⟨rfl, X.out.below⟩
set_option maxRecDepth 100000 in
set_option maxHeartbeats 1000000 in
theorem rstore_b0_2n (h : Pl) (v : Int) (he : U32 h.e0) (hv : IntKind.u32.wrap v = 2) (hb : bitT h.e0 2 = false) (W : World) : Calls Try.prog 51 #[plV h, .int .u64 203423748, .int .i64 4, .int .u64 v] W fun e W' => e = .returned (.tuple #[plV (stF h 203423748 4 v).1, .bool (stF h 203423748 4 v).2]) ∧ Below W.heap.size W W' := by
  rw [stF_b0, hv, show backF h 2 h.e0 = h.c from back_no h 2 h.e0 hb]
  have hz : (bits .and .u32 (h.e0 / 4) 1 == 1) = false := (shift_2 h.e0 he).trans hb
  clear hb he
  have R0 := Lib.hid fun W => rplace_lit 2097156 8192 128 (-1) (by decide +kernel) W
  have R1 := Lib.hid fun W => rplace_lit 2097156 2097152 4096 (-1) (by decide +kernel) W
  have R2 := Lib.hid fun W => rplace_lit 2097156 2097156 4096 (0) (by decide +kernel) W
  go_enter Try.func51, Try.ntmps51
  go_upto_region 1 with (fail)
  have X := Lib.hid (Own.new W h)
  generalize (W.alloc (plO h)).alloc zeroO = w0 at *
  go_wp2_with (first | (go_at_call 65; (with_reducible refine (R0.out _).mono ?_); rintro e w' ⟨rfl, rfl⟩) | (go_at_call 65; (with_reducible refine (R1.out _).mono ?_); rintro e w' ⟨rfl, rfl⟩) | (go_at_call 65; (with_reducible refine (R2.out _).mono ?_); rintro e w' ⟨rfl, rfl⟩) | (with_reducible refine wpList_load_by rfl rfl (Own.load_c X.out) rfl ?_) | (with_reducible refine wpList_load_wanted (by first | exact rfl | (simp [Region.wanted, yielded]; done)) rfl (Own.load_e0 X.out) rfl ?_) | (with_reducible refine wpList_load_by rfl rfl (Own.load X.out) rfl ?_) | (with_reducible refine wpList_store_ex rfl rfl (Own.store_c X.out _) rfl rfl ?_; intro wy hy; have X := Lib.hid hy; clear hy) | (with_reducible refine wpList_store_ex rfl rfl (Own.tell X.out rfl _) rfl rfl ?_; intro wy hy; have X := Lib.hid hy; clear hy) | fail)
  exact bodyPost_ret (v := .tuple #[plV (h), .bool true]) (results_two Try.results51 _ _ (W.heap.size + 1) _ _ rfl X.out.result rfl) rfl ⟨rfl, X.out.below⟩
set_option maxRecDepth 100000 in
set_option maxHeartbeats 1000000 in
theorem rstore_b0_3y (h : Pl) (v : Int) (he : U32 h.e0) (hv : IntKind.u32.wrap v = 3) (hb : bitT h.e0 3 = true) (W : World) : Calls Try.prog 51 #[plV h, .int .u64 203423748, .int .i64 4, .int .u64 v] W fun e W' => e = .returned (.tuple #[plV (stF h 203423748 4 v).1, .bool (stF h 203423748 4 v).2]) ∧ Below W.heap.size W W' := by
  rw [stF_b0, hv, show backF h 3 h.e0 = bits .andNot .u32 h.c 8 from back_yes h 3 h.e0 (by omega) hb]
  have hz : (bits .and .u32 (h.e0 / 8) 1 == 1) = true := (shift_3 h.e0 he).trans hb
  clear hb he
  have R0 := Lib.hid fun W => rplace_lit 2097156 8192 128 (-1) (by decide +kernel) W
  have R1 := Lib.hid fun W => rplace_lit 2097156 2097152 4096 (-1) (by decide +kernel) W
  have R2 := Lib.hid fun W => rplace_lit 2097156 2097156 4096 (0) (by decide +kernel) W
  go_enter Try.func51, Try.ntmps51
  go_upto_region 1 with (fail)
  have X := Lib.hid (Own.new W h)
  generalize (W.alloc (plO h)).alloc zeroO = w0 at *
  go_wp2_with (first | (go_at_call 65; (with_reducible refine (R0.out _).mono ?_); rintro e w' ⟨rfl, rfl⟩) | (go_at_call 65; (with_reducible refine (R1.out _).mono ?_); rintro e w' ⟨rfl, rfl⟩) | (go_at_call 65; (with_reducible refine (R2.out _).mono ?_); rintro e w' ⟨rfl, rfl⟩) | (with_reducible refine wpList_load_by rfl rfl (Own.load_c X.out) rfl ?_) | (with_reducible refine wpList_load_wanted (by first | exact rfl | (simp [Region.wanted, yielded]; done)) rfl (Own.load_e0 X.out) rfl ?_) | (with_reducible refine wpList_load_by rfl rfl (Own.load X.out) rfl ?_) | (with_reducible refine wpList_store_ex rfl rfl (Own.store_c X.out _) rfl rfl ?_; intro wy hy; have X := Lib.hid hy; clear hy) | (with_reducible refine wpList_store_ex rfl rfl (Own.tell X.out rfl _) rfl rfl ?_; intro wy hy; have X := Lib.hid hy; clear hy) | fail)
  exact bodyPost_ret (v := .tuple #[plV ({ h with c := bits .andNot .u32 h.c 8 }), .bool true]) (results_two Try.results51 _ _ (W.heap.size + 1) _ _ rfl X.out.result rfl) rfl ⟨rfl, X.out.below⟩
set_option maxRecDepth 100000 in
set_option maxHeartbeats 1000000 in
theorem rstore_b0_3n (h : Pl) (v : Int) (he : U32 h.e0) (hv : IntKind.u32.wrap v = 3) (hb : bitT h.e0 3 = false) (W : World) : Calls Try.prog 51 #[plV h, .int .u64 203423748, .int .i64 4, .int .u64 v] W fun e W' => e = .returned (.tuple #[plV (stF h 203423748 4 v).1, .bool (stF h 203423748 4 v).2]) ∧ Below W.heap.size W W' := by
  rw [stF_b0, hv, show backF h 3 h.e0 = h.c from back_no h 3 h.e0 hb]
  have hz : (bits .and .u32 (h.e0 / 8) 1 == 1) = false := (shift_3 h.e0 he).trans hb
  clear hb he
  have R0 := Lib.hid fun W => rplace_lit 2097156 8192 128 (-1) (by decide +kernel) W
  have R1 := Lib.hid fun W => rplace_lit 2097156 2097152 4096 (-1) (by decide +kernel) W
  have R2 := Lib.hid fun W => rplace_lit 2097156 2097156 4096 (0) (by decide +kernel) W
  go_enter Try.func51, Try.ntmps51
  go_upto_region 1 with (fail)
  have X := Lib.hid (Own.new W h)
  generalize (W.alloc (plO h)).alloc zeroO = w0 at *
  go_wp2_with (first | (go_at_call 65; (with_reducible refine (R0.out _).mono ?_); rintro e w' ⟨rfl, rfl⟩) | (go_at_call 65; (with_reducible refine (R1.out _).mono ?_); rintro e w' ⟨rfl, rfl⟩) | (go_at_call 65; (with_reducible refine (R2.out _).mono ?_); rintro e w' ⟨rfl, rfl⟩) | (with_reducible refine wpList_load_by rfl rfl (Own.load_c X.out) rfl ?_) | (with_reducible refine wpList_load_wanted (by first | exact rfl | (simp [Region.wanted, yielded]; done)) rfl (Own.load_e0 X.out) rfl ?_) | (with_reducible refine wpList_load_by rfl rfl (Own.load X.out) rfl ?_) | (with_reducible refine wpList_store_ex rfl rfl (Own.store_c X.out _) rfl rfl ?_; intro wy hy; have X := Lib.hid hy; clear hy) | (with_reducible refine wpList_store_ex rfl rfl (Own.tell X.out rfl _) rfl rfl ?_; intro wy hy; have X := Lib.hid hy; clear hy) | fail)
  exact bodyPost_ret (v := .tuple #[plV (h), .bool true]) (results_two Try.results51 _ _ (W.heap.size + 1) _ _ rfl X.out.result rfl) rfl ⟨rfl, X.out.below⟩
set_option maxRecDepth 100000 in
set_option maxHeartbeats 1000000 in
theorem rstore_b0_x (h : Pl) (v n : Int) (hv : IntKind.u32.wrap v = n) (h4 : 3 < n) (W : World) : Calls Try.prog 51 #[plV h, .int .u64 203423748, .int .i64 4, .int .u64 v] W fun e W' => e = .returned (.tuple #[plV (stF h 203423748 4 v).1, .bool (stF h 203423748 4 v).2]) ∧ Below W.heap.size W W' := by
  rw [stF_b0, hv, back_none h h.e0 n (by omega)]
  have h1 : 1 ≤ n := by omega
  have h5 : ¬ n ≤ 3 := by omega
  have R0 := Lib.hid fun W => rplace_lit 2097156 8192 128 (-1) (by decide +kernel) W
  have R1 := Lib.hid fun W => rplace_lit 2097156 2097152 4096 (-1) (by decide +kernel) W
  have R2 := Lib.hid fun W => rplace_lit 2097156 2097156 4096 (0) (by decide +kernel) W
  go_enter Try.func51, Try.ntmps51
  go_upto_region 1 with (fail)
  have X := Lib.hid (Own.new W h)
  generalize (W.alloc (plO h)).alloc zeroO = w0 at *
  go_wp2_with (first | (go_at_call 65; (with_reducible refine (R0.out _).mono ?_); rintro e w' ⟨rfl, rfl⟩) | (go_at_call 65; (with_reducible refine (R1.out _).mono ?_); rintro e w' ⟨rfl, rfl⟩) | (go_at_call 65; (with_reducible refine (R2.out _).mono ?_); rintro e w' ⟨rfl, rfl⟩) | (with_reducible refine wpList_load_by rfl rfl (Own.load_c X.out) rfl ?_) | (with_reducible refine wpList_load_wanted (by first | exact rfl | (simp [Region.wanted, yielded]; done)) rfl (Own.load_e0 X.out) rfl ?_) | (with_reducible refine wpList_load_by rfl rfl (Own.load X.out) rfl ?_) | (with_reducible refine wpList_store_ex rfl rfl (Own.store_c X.out _) rfl rfl ?_; intro wy hy; have X := Lib.hid hy; clear hy) | (with_reducible refine wpList_store_ex rfl rfl (Own.tell X.out rfl _) rfl rfl ?_; intro wy hy; have X := Lib.hid hy; clear hy) | fail)
  exact bodyPost_ret (v := .tuple #[plV (h), .bool true]) (results_two Try.results51 _ _ (W.heap.size + 1) _ _ rfl X.out.result rfl) rfl ⟨rfl, X.out.below⟩
theorem rstore_b0 (h : Pl) (v : Int) (he : U32 h.e0) (W : World) : Calls Try.prog 51 #[plV h, .int .u64 203423748, .int .i64 4, .int .u64 v] W fun e W' => e = .returned (.tuple #[plV (stF h 203423748 4 v).1, .bool (stF h 203423748 4 v).2]) ∧ Below W.heap.size W W' := by
  have hu : U32 (IntKind.u32.wrap v) := by unfold U32; rw [IntKind.wrap_u32]; omega
  have h0 := hu.1
  rcases (show IntKind.u32.wrap v = 0 ∨ IntKind.u32.wrap v = 1 ∨ IntKind.u32.wrap v = 2 ∨ IntKind.u32.wrap v = 3 ∨ 3 < IntKind.u32.wrap v by omega) with e | e | e | e | e
  · exact rstore_b0_0 h v e W
  · rcases Bool.eq_false_or_eq_true (bitT h.e0 1) with hb | hb
    · exact rstore_b0_1y h v he e hb W
    · exact rstore_b0_1n h v he e hb W
  · rcases Bool.eq_false_or_eq_true (bitT h.e0 2) with hb | hb
    · exact rstore_b0_2y h v he e hb W
    · exact rstore_b0_2n h v he e hb W
  · rcases Bool.eq_false_or_eq_true (bitT h.e0 3) with hb | hb
    · exact rstore_b0_3y h v he e hb W
    · exact rstore_b0_3n h v he e hb W
  · exact rstore_b0_x h v _ rfl e W
set_option maxRecDepth 100000 in
set_option maxHeartbeats 1000000 in
theorem rstore_b1_0 (h : Pl) (v : Int) (hv : IntKind.u32.wrap v = 0) (W : World) : Calls Try.prog 51 #[plV h, .int .u64 203427844, .int .i64 4, .int .u64 v] W fun e W' => e = .returned (.tuple #[plV (stF h 203427844 4 v).1, .bool (stF h 203427844 4 v).2]) ∧ Below W.heap.size W W' := by
  rw [stF_b1, hv, back_none h h.e1 0 (by omega)]
  have R0 := Lib.hid fun W => rplace_lit 2101252 8192 128 (-1) (by decide +kernel) W
  have R1 := Lib.hid fun W => rplace_lit 2101252 2097152 4096 (-1) (by decide +kernel) W
  have R2 := Lib.hid fun W => rplace_lit 2101252 2097156 4096 (1) (by decide +kernel) W
  go_enter Try.func51, Try.ntmps51
  go_upto_region 1 with (fail)
  have X := Lib.hid (Own.new W h)
  generalize (W.alloc (plO h)).alloc zeroO = w0 at *
  go_wp2_with (first | (go_at_call 65; (with_reducible refine (R0.out _).mono ?_); rintro e w' ⟨rfl, rfl⟩) | (go_at_call 65; (with_reducible refine (R1.out _).mono ?_); rintro e w' ⟨rfl, rfl⟩) | (go_at_call 65; (with_reducible refine (R2.out _).mono ?_); rintro e w' ⟨rfl, rfl⟩) | (with_reducible refine wpList_load_by rfl rfl (Own.load_c X.out) rfl ?_) | (with_reducible refine wpList_load_wanted (by first | exact rfl | (simp [Region.wanted, yielded]; done)) rfl (Own.load_e1 X.out) rfl ?_) | (with_reducible refine wpList_load_by rfl rfl (Own.load X.out) rfl ?_) | (with_reducible refine wpList_store_ex rfl rfl (Own.store_c X.out _) rfl rfl ?_; intro wy hy; have X := Lib.hid hy; clear hy) | (with_reducible refine wpList_store_ex rfl rfl (Own.tell X.out rfl _) rfl rfl ?_; intro wy hy; have X := Lib.hid hy; clear hy) | fail)
  exact bodyPost_ret (v := .tuple #[plV (h), .bool true]) (results_two Try.results51 _ _ (W.heap.size + 1) _ _ rfl X.out.result rfl) rfl ⟨rfl, X.out.below⟩
set_option maxRecDepth 100000 in
set_option maxHeartbeats 1000000 in
theorem rstore_b1_1y (h : Pl) (v : Int) (he : U32 h.e1) (hv : IntKind.u32.wrap v = 1) (hb : bitT h.e1 1 = true) (W : World) : Calls Try.prog 51 #[plV h, .int .u64 203427844, .int .i64 4, .int .u64 v] W fun e W' => e = .returned (.tuple #[plV (stF h 203427844 4 v).1, .bool (stF h 203427844 4 v).2]) ∧ Below W.heap.size W W' := by
  rw [stF_b1, hv, show backF h 1 h.e1 = bits .andNot .u32 h.c 2 from back_yes h 1 h.e1 (by omega) hb]
  have hz : (bits .and .u32 (h.e1 / 2) 1 == 1) = true := (shift_1 h.e1 he).trans hb
  clear hb he
  have R0 := Lib.hid fun W => rplace_lit 2101252 8192 128 (-1) (by decide +kernel) W
  have R1 := Lib.hid fun W => rplace_lit 2101252 2097152 4096 (-1) (by decide +kernel) W
  have R2 := Lib.hid fun W => rplace_lit 2101252 2097156 4096 (1) (by decide +kernel) W
  go_enter Try.func51, Try.ntmps51
  go_upto_region 1 with (fail)
  have X := Lib.hid (Own.new W h)
  generalize (W.alloc (plO h)).alloc zeroO = w0 at *
  go_wp2_with (first | (go_at_call 65; (with_reducible refine (R0.out _).mono ?_); rintro e w' ⟨rfl, rfl⟩) | (go_at_call 65; (with_reducible refine (R1.out _).mono ?_); rintro e w' ⟨rfl, rfl⟩) | (go_at_call 65; (with_reducible refine (R2.out _).mono ?_); rintro e w' ⟨rfl, rfl⟩) | (with_reducible refine wpList_load_by rfl rfl (Own.load_c X.out) rfl ?_) | (with_reducible refine wpList_load_wanted (by first | exact rfl | (simp [Region.wanted, yielded]; done)) rfl (Own.load_e1 X.out) rfl ?_) | (with_reducible refine wpList_load_by rfl rfl (Own.load X.out) rfl ?_) | (with_reducible refine wpList_store_ex rfl rfl (Own.store_c X.out _) rfl rfl ?_; intro wy hy; have X := Lib.hid hy; clear hy) | (with_reducible refine wpList_store_ex rfl rfl (Own.tell X.out rfl _) rfl rfl ?_; intro wy hy; have X := Lib.hid hy; clear hy) | fail)
  exact bodyPost_ret (v := .tuple #[plV ({ h with c := bits .andNot .u32 h.c 2 }), .bool true]) (results_two Try.results51 _ _ (W.heap.size + 1) _ _ rfl X.out.result rfl) rfl ⟨rfl, X.out.below⟩
set_option maxRecDepth 100000 in
set_option maxHeartbeats 1000000 in
theorem rstore_b1_1n (h : Pl) (v : Int) (he : U32 h.e1) (hv : IntKind.u32.wrap v = 1) (hb : bitT h.e1 1 = false) (W : World) : Calls Try.prog 51 #[plV h, .int .u64 203427844, .int .i64 4, .int .u64 v] W fun e W' => e = .returned (.tuple #[plV (stF h 203427844 4 v).1, .bool (stF h 203427844 4 v).2]) ∧ Below W.heap.size W W' := by
  rw [stF_b1, hv, show backF h 1 h.e1 = h.c from back_no h 1 h.e1 hb]
  have hz : (bits .and .u32 (h.e1 / 2) 1 == 1) = false := (shift_1 h.e1 he).trans hb
  clear hb he
  have R0 := Lib.hid fun W => rplace_lit 2101252 8192 128 (-1) (by decide +kernel) W
  have R1 := Lib.hid fun W => rplace_lit 2101252 2097152 4096 (-1) (by decide +kernel) W
  have R2 := Lib.hid fun W => rplace_lit 2101252 2097156 4096 (1) (by decide +kernel) W
  go_enter Try.func51, Try.ntmps51
  go_upto_region 1 with (fail)
  have X := Lib.hid (Own.new W h)
  generalize (W.alloc (plO h)).alloc zeroO = w0 at *
  go_wp2_with (first | (go_at_call 65; (with_reducible refine (R0.out _).mono ?_); rintro e w' ⟨rfl, rfl⟩) | (go_at_call 65; (with_reducible refine (R1.out _).mono ?_); rintro e w' ⟨rfl, rfl⟩) | (go_at_call 65; (with_reducible refine (R2.out _).mono ?_); rintro e w' ⟨rfl, rfl⟩) | (with_reducible refine wpList_load_by rfl rfl (Own.load_c X.out) rfl ?_) | (with_reducible refine wpList_load_wanted (by first | exact rfl | (simp [Region.wanted, yielded]; done)) rfl (Own.load_e1 X.out) rfl ?_) | (with_reducible refine wpList_load_by rfl rfl (Own.load X.out) rfl ?_) | (with_reducible refine wpList_store_ex rfl rfl (Own.store_c X.out _) rfl rfl ?_; intro wy hy; have X := Lib.hid hy; clear hy) | (with_reducible refine wpList_store_ex rfl rfl (Own.tell X.out rfl _) rfl rfl ?_; intro wy hy; have X := Lib.hid hy; clear hy) | fail)
  exact bodyPost_ret (v := .tuple #[plV (h), .bool true]) (results_two Try.results51 _ _ (W.heap.size + 1) _ _ rfl X.out.result rfl) rfl ⟨rfl, X.out.below⟩
set_option maxRecDepth 100000 in
set_option maxHeartbeats 1000000 in
theorem rstore_b1_2y (h : Pl) (v : Int) (he : U32 h.e1) (hv : IntKind.u32.wrap v = 2) (hb : bitT h.e1 2 = true) (W : World) : Calls Try.prog 51 #[plV h, .int .u64 203427844, .int .i64 4, .int .u64 v] W fun e W' => e = .returned (.tuple #[plV (stF h 203427844 4 v).1, .bool (stF h 203427844 4 v).2]) ∧ Below W.heap.size W W' := by
  rw [stF_b1, hv, show backF h 2 h.e1 = bits .andNot .u32 h.c 4 from back_yes h 2 h.e1 (by omega) hb]
  have hz : (bits .and .u32 (h.e1 / 4) 1 == 1) = true := (shift_2 h.e1 he).trans hb
  clear hb he
  have R0 := Lib.hid fun W => rplace_lit 2101252 8192 128 (-1) (by decide +kernel) W
  have R1 := Lib.hid fun W => rplace_lit 2101252 2097152 4096 (-1) (by decide +kernel) W
  have R2 := Lib.hid fun W => rplace_lit 2101252 2097156 4096 (1) (by decide +kernel) W
  go_enter Try.func51, Try.ntmps51
  go_upto_region 1 with (fail)
  have X := Lib.hid (Own.new W h)
  generalize (W.alloc (plO h)).alloc zeroO = w0 at *
  go_wp2_with (first | (go_at_call 65; (with_reducible refine (R0.out _).mono ?_); rintro e w' ⟨rfl, rfl⟩) | (go_at_call 65; (with_reducible refine (R1.out _).mono ?_); rintro e w' ⟨rfl, rfl⟩) | (go_at_call 65; (with_reducible refine (R2.out _).mono ?_); rintro e w' ⟨rfl, rfl⟩) | (with_reducible refine wpList_load_by rfl rfl (Own.load_c X.out) rfl ?_) | (with_reducible refine wpList_load_wanted (by first | exact rfl | (simp [Region.wanted, yielded]; done)) rfl (Own.load_e1 X.out) rfl ?_) | (with_reducible refine wpList_load_by rfl rfl (Own.load X.out) rfl ?_) | (with_reducible refine wpList_store_ex rfl rfl (Own.store_c X.out _) rfl rfl ?_; intro wy hy; have X := Lib.hid hy; clear hy) | (with_reducible refine wpList_store_ex rfl rfl (Own.tell X.out rfl _) rfl rfl ?_; intro wy hy; have X := Lib.hid hy; clear hy) | fail)
  exact bodyPost_ret (v := .tuple #[plV ({ h with c := bits .andNot .u32 h.c 4 }), .bool true]) (results_two Try.results51 _ _ (W.heap.size + 1) _ _ rfl X.out.result rfl) rfl ⟨rfl, X.out.below⟩
set_option maxRecDepth 100000 in
set_option maxHeartbeats 1000000 in
theorem rstore_b1_2n (h : Pl) (v : Int) (he : U32 h.e1) (hv : IntKind.u32.wrap v = 2) (hb : bitT h.e1 2 = false) (W : World) : Calls Try.prog 51 #[plV h, .int .u64 203427844, .int .i64 4, .int .u64 v] W fun e W' => e = .returned (.tuple #[plV (stF h 203427844 4 v).1, .bool (stF h 203427844 4 v).2]) ∧ Below W.heap.size W W' := by
  rw [stF_b1, hv, show backF h 2 h.e1 = h.c from back_no h 2 h.e1 hb]
  have hz : (bits .and .u32 (h.e1 / 4) 1 == 1) = false := (shift_2 h.e1 he).trans hb
  clear hb he
  have R0 := Lib.hid fun W => rplace_lit 2101252 8192 128 (-1) (by decide +kernel) W
  have R1 := Lib.hid fun W => rplace_lit 2101252 2097152 4096 (-1) (by decide +kernel) W
  have R2 := Lib.hid fun W => rplace_lit 2101252 2097156 4096 (1) (by decide +kernel) W
  go_enter Try.func51, Try.ntmps51
  go_upto_region 1 with (fail)
  have X := Lib.hid (Own.new W h)
  generalize (W.alloc (plO h)).alloc zeroO = w0 at *
  go_wp2_with (first | (go_at_call 65; (with_reducible refine (R0.out _).mono ?_); rintro e w' ⟨rfl, rfl⟩) | (go_at_call 65; (with_reducible refine (R1.out _).mono ?_); rintro e w' ⟨rfl, rfl⟩) | (go_at_call 65; (with_reducible refine (R2.out _).mono ?_); rintro e w' ⟨rfl, rfl⟩) | (with_reducible refine wpList_load_by rfl rfl (Own.load_c X.out) rfl ?_) | (with_reducible refine wpList_load_wanted (by first | exact rfl | (simp [Region.wanted, yielded]; done)) rfl (Own.load_e1 X.out) rfl ?_) | (with_reducible refine wpList_load_by rfl rfl (Own.load X.out) rfl ?_) | (with_reducible refine wpList_store_ex rfl rfl (Own.store_c X.out _) rfl rfl ?_; intro wy hy; have X := Lib.hid hy; clear hy) | (with_reducible refine wpList_store_ex rfl rfl (Own.tell X.out rfl _) rfl rfl ?_; intro wy hy; have X := Lib.hid hy; clear hy) | fail)
  exact bodyPost_ret (v := .tuple #[plV (h), .bool true]) (results_two Try.results51 _ _ (W.heap.size + 1) _ _ rfl X.out.result rfl) rfl ⟨rfl, X.out.below⟩
set_option maxRecDepth 100000 in
set_option maxHeartbeats 1000000 in
theorem rstore_b1_3y (h : Pl) (v : Int) (he : U32 h.e1) (hv : IntKind.u32.wrap v = 3) (hb : bitT h.e1 3 = true) (W : World) : Calls Try.prog 51 #[plV h, .int .u64 203427844, .int .i64 4, .int .u64 v] W fun e W' => e = .returned (.tuple #[plV (stF h 203427844 4 v).1, .bool (stF h 203427844 4 v).2]) ∧ Below W.heap.size W W' := by
  rw [stF_b1, hv, show backF h 3 h.e1 = bits .andNot .u32 h.c 8 from back_yes h 3 h.e1 (by omega) hb]
  have hz : (bits .and .u32 (h.e1 / 8) 1 == 1) = true := (shift_3 h.e1 he).trans hb
  clear hb he
  have R0 := Lib.hid fun W => rplace_lit 2101252 8192 128 (-1) (by decide +kernel) W
  have R1 := Lib.hid fun W => rplace_lit 2101252 2097152 4096 (-1) (by decide +kernel) W
  have R2 := Lib.hid fun W => rplace_lit 2101252 2097156 4096 (1) (by decide +kernel) W
  go_enter Try.func51, Try.ntmps51
  go_upto_region 1 with (fail)
  have X := Lib.hid (Own.new W h)
  generalize (W.alloc (plO h)).alloc zeroO = w0 at *
  go_wp2_with (first | (go_at_call 65; (with_reducible refine (R0.out _).mono ?_); rintro e w' ⟨rfl, rfl⟩) | (go_at_call 65; (with_reducible refine (R1.out _).mono ?_); rintro e w' ⟨rfl, rfl⟩) | (go_at_call 65; (with_reducible refine (R2.out _).mono ?_); rintro e w' ⟨rfl, rfl⟩) | (with_reducible refine wpList_load_by rfl rfl (Own.load_c X.out) rfl ?_) | (with_reducible refine wpList_load_wanted (by first | exact rfl | (simp [Region.wanted, yielded]; done)) rfl (Own.load_e1 X.out) rfl ?_) | (with_reducible refine wpList_load_by rfl rfl (Own.load X.out) rfl ?_) | (with_reducible refine wpList_store_ex rfl rfl (Own.store_c X.out _) rfl rfl ?_; intro wy hy; have X := Lib.hid hy; clear hy) | (with_reducible refine wpList_store_ex rfl rfl (Own.tell X.out rfl _) rfl rfl ?_; intro wy hy; have X := Lib.hid hy; clear hy) | fail)
  exact bodyPost_ret (v := .tuple #[plV ({ h with c := bits .andNot .u32 h.c 8 }), .bool true]) (results_two Try.results51 _ _ (W.heap.size + 1) _ _ rfl X.out.result rfl) rfl ⟨rfl, X.out.below⟩
set_option maxRecDepth 100000 in
set_option maxHeartbeats 1000000 in
theorem rstore_b1_3n (h : Pl) (v : Int) (he : U32 h.e1) (hv : IntKind.u32.wrap v = 3) (hb : bitT h.e1 3 = false) (W : World) : Calls Try.prog 51 #[plV h, .int .u64 203427844, .int .i64 4, .int .u64 v] W fun e W' => e = .returned (.tuple #[plV (stF h 203427844 4 v).1, .bool (stF h 203427844 4 v).2]) ∧ Below W.heap.size W W' := by
  rw [stF_b1, hv, show backF h 3 h.e1 = h.c from back_no h 3 h.e1 hb]
  have hz : (bits .and .u32 (h.e1 / 8) 1 == 1) = false := (shift_3 h.e1 he).trans hb
  clear hb he
  have R0 := Lib.hid fun W => rplace_lit 2101252 8192 128 (-1) (by decide +kernel) W
  have R1 := Lib.hid fun W => rplace_lit 2101252 2097152 4096 (-1) (by decide +kernel) W
  have R2 := Lib.hid fun W => rplace_lit 2101252 2097156 4096 (1) (by decide +kernel) W
  go_enter Try.func51, Try.ntmps51
  go_upto_region 1 with (fail)
  have X := Lib.hid (Own.new W h)
  generalize (W.alloc (plO h)).alloc zeroO = w0 at *
  go_wp2_with (first | (go_at_call 65; (with_reducible refine (R0.out _).mono ?_); rintro e w' ⟨rfl, rfl⟩) | (go_at_call 65; (with_reducible refine (R1.out _).mono ?_); rintro e w' ⟨rfl, rfl⟩) | (go_at_call 65; (with_reducible refine (R2.out _).mono ?_); rintro e w' ⟨rfl, rfl⟩) | (with_reducible refine wpList_load_by rfl rfl (Own.load_c X.out) rfl ?_) | (with_reducible refine wpList_load_wanted (by first | exact rfl | (simp [Region.wanted, yielded]; done)) rfl (Own.load_e1 X.out) rfl ?_) | (with_reducible refine wpList_load_by rfl rfl (Own.load X.out) rfl ?_) | (with_reducible refine wpList_store_ex rfl rfl (Own.store_c X.out _) rfl rfl ?_; intro wy hy; have X := Lib.hid hy; clear hy) | (with_reducible refine wpList_store_ex rfl rfl (Own.tell X.out rfl _) rfl rfl ?_; intro wy hy; have X := Lib.hid hy; clear hy) | fail)
  exact bodyPost_ret (v := .tuple #[plV (h), .bool true]) (results_two Try.results51 _ _ (W.heap.size + 1) _ _ rfl X.out.result rfl) rfl ⟨rfl, X.out.below⟩
set_option maxRecDepth 100000 in
set_option maxHeartbeats 1000000 in
theorem rstore_b1_x (h : Pl) (v n : Int) (hv : IntKind.u32.wrap v = n) (h4 : 3 < n) (W : World) : Calls Try.prog 51 #[plV h, .int .u64 203427844, .int .i64 4, .int .u64 v] W fun e W' => e = .returned (.tuple #[plV (stF h 203427844 4 v).1, .bool (stF h 203427844 4 v).2]) ∧ Below W.heap.size W W' := by
  rw [stF_b1, hv, back_none h h.e1 n (by omega)]
  have h1 : 1 ≤ n := by omega
  have h5 : ¬ n ≤ 3 := by omega
  have R0 := Lib.hid fun W => rplace_lit 2101252 8192 128 (-1) (by decide +kernel) W
  have R1 := Lib.hid fun W => rplace_lit 2101252 2097152 4096 (-1) (by decide +kernel) W
  have R2 := Lib.hid fun W => rplace_lit 2101252 2097156 4096 (1) (by decide +kernel) W
  go_enter Try.func51, Try.ntmps51
  go_upto_region 1 with (fail)
  have X := Lib.hid (Own.new W h)
  generalize (W.alloc (plO h)).alloc zeroO = w0 at *
  go_wp2_with (first | (go_at_call 65; (with_reducible refine (R0.out _).mono ?_); rintro e w' ⟨rfl, rfl⟩) | (go_at_call 65; (with_reducible refine (R1.out _).mono ?_); rintro e w' ⟨rfl, rfl⟩) | (go_at_call 65; (with_reducible refine (R2.out _).mono ?_); rintro e w' ⟨rfl, rfl⟩) | (with_reducible refine wpList_load_by rfl rfl (Own.load_c X.out) rfl ?_) | (with_reducible refine wpList_load_wanted (by first | exact rfl | (simp [Region.wanted, yielded]; done)) rfl (Own.load_e1 X.out) rfl ?_) | (with_reducible refine wpList_load_by rfl rfl (Own.load X.out) rfl ?_) | (with_reducible refine wpList_store_ex rfl rfl (Own.store_c X.out _) rfl rfl ?_; intro wy hy; have X := Lib.hid hy; clear hy) | (with_reducible refine wpList_store_ex rfl rfl (Own.tell X.out rfl _) rfl rfl ?_; intro wy hy; have X := Lib.hid hy; clear hy) | fail)
  exact bodyPost_ret (v := .tuple #[plV (h), .bool true]) (results_two Try.results51 _ _ (W.heap.size + 1) _ _ rfl X.out.result rfl) rfl ⟨rfl, X.out.below⟩
theorem rstore_b1 (h : Pl) (v : Int) (he : U32 h.e1) (W : World) : Calls Try.prog 51 #[plV h, .int .u64 203427844, .int .i64 4, .int .u64 v] W fun e W' => e = .returned (.tuple #[plV (stF h 203427844 4 v).1, .bool (stF h 203427844 4 v).2]) ∧ Below W.heap.size W W' := by
  have hu : U32 (IntKind.u32.wrap v) := by unfold U32; rw [IntKind.wrap_u32]; omega
  have h0 := hu.1
  rcases (show IntKind.u32.wrap v = 0 ∨ IntKind.u32.wrap v = 1 ∨ IntKind.u32.wrap v = 2 ∨ IntKind.u32.wrap v = 3 ∨ 3 < IntKind.u32.wrap v by omega) with e | e | e | e | e
  · exact rstore_b1_0 h v e W
  · rcases Bool.eq_false_or_eq_true (bitT h.e1 1) with hb | hb
    · exact rstore_b1_1y h v he e hb W
    · exact rstore_b1_1n h v he e hb W
  · rcases Bool.eq_false_or_eq_true (bitT h.e1 2) with hb | hb
    · exact rstore_b1_2y h v he e hb W
    · exact rstore_b1_2n h v he e hb W
  · rcases Bool.eq_false_or_eq_true (bitT h.e1 3) with hb | hb
    · exact rstore_b1_3y h v he e hb W
    · exact rstore_b1_3n h v he e hb W
  · exact rstore_b1_x h v _ rfl e W
set_option maxRecDepth 100000 in
set_option maxHeartbeats 1000000 in
theorem rstore_z1 (h : Pl) (t z v : Int) (hz : (z != 4) = true) (ht : ¬ t < 201326592) (W : World) : Calls Try.prog 51 #[plV h, .int .u64 t, .int .i64 z, .int .u64 v] W fun e W' => e = .returned (.tuple #[plV (stF h t z v).1, .bool (stF h t z v).2]) ∧ Below W.heap.size W W' := by
  rw [stF_none h t z v (.inl (by simpa using hz))]
  go_enter Try.func51, Try.ntmps51
  go_upto_region 1 with (fail)
  have X := Lib.hid (Own.new W h)
  generalize (W.alloc (plO h)).alloc zeroO = w0 at *
  go_wp2_with (first | (with_reducible refine wpList_store_ex rfl rfl (Own.zero X.out rfl) rfl rfl ?_; intro wy hy; have X := Lib.hid hy; clear hy) | fail)
  exact bodyPost_ret (v := .tuple #[plV (zeroP), .bool false]) (results_two Try.results51 _ _ (W.heap.size + 1) _ _ rfl X.out.result rfl) rfl ⟨rfl, X.out.below⟩
set_option maxRecDepth 100000 in
set_option maxHeartbeats 1000000 in
theorem rstore_z2 (h : Pl) (t z v : Int) (ht : t < 201326592) (hl : stF h t z v = (zeroP, false)) (W : World) : Calls Try.prog 51 #[plV h, .int .u64 t, .int .i64 z, .int .u64 v] W fun e W' => e = .returned (.tuple #[plV (stF h t z v).1, .bool (stF h t z v).2]) ∧ Below W.heap.size W W' := by
  rw [hl]
  go_enter Try.func51, Try.ntmps51
  go_upto_region 1 with (fail)
  have X := Lib.hid (Own.new W h)
  generalize (W.alloc (plO h)).alloc zeroO = w0 at *
  go_wp2_with (first | (with_reducible refine wpList_store_ex rfl rfl (Own.zero X.out rfl) rfl rfl ?_; intro wy hy; have X := Lib.hid hy; clear hy) | fail)
  exact bodyPost_ret (v := .tuple #[plV (zeroP), .bool false]) (results_two Try.results51 _ _ (W.heap.size + 1) _ _ rfl X.out.result rfl) rfl ⟨rfl, X.out.below⟩
set_option maxRecDepth 100000 in
set_option maxHeartbeats 1000000 in
theorem rstore_na (h : Pl) (o v : Int) (ho : 0 ≤ o ∧ o < 18446744073508225024) (hx : o < 4) (hn : NoPlace (201326592 + o)) (W : World) : Calls Try.prog 51 #[plV h, .int .u64 (201326592 + o), .int .i64 4, .int .u64 v] W fun e W' => e = .returned (.tuple #[plV (stF h (201326592 + o) 4 v).1, .bool (stF h (201326592 + o) 4 v).2]) ∧ Below W.heap.size W W' := by
  rw [stF_none h _ 4 v (.inr hn)]
  have hw : IntKind.u64.wrap (201326592 + o - 201326592) = o := by rw [IntKind.wrap_u64]; omega
  have n4 : ¬ o = 4 := by have := hn.n_p1; omega
  have n8 : ¬ o = 8 := by have := hn.n_p2; omega
  have n12 : ¬ o = 12 := by have := hn.n_p3; omega
  have n4096 : ¬ o = 4096 := by have := hn.n_wait; omega
  have n8192 : ¬ o = 8192 := by have := hn.n_e0; omega
  have n8320 : ¬ o = 8320 := by have := hn.n_e1; omega
  have n2097152 : ¬ o = 2097152 := by have := hn.n_l0; omega
  have n2101248 : ¬ o = 2101248 := by have := hn.n_l1; omega
  have n2097156 : ¬ o = 2097156 := by have := hn.n_b0; omega
  have n2101252 : ¬ o = 2101252 := by have := hn.n_b1; omega
  have r0 : rplV o 8192 128 = -1 := by unfold rplV; rw [if_neg (by simp only [beq_iff_eq]; omega), if_neg (by simp only [beq_iff_eq, IntKind.wrap_u64]; omega)]
  have R0 := Lib.hid fun W => rplace_lit o 8192 128 (-1) r0 W
  have r1 : rplV o 2097152 4096 = -1 := by unfold rplV; rw [if_neg (by simp only [beq_iff_eq]; omega), if_neg (by simp only [beq_iff_eq, IntKind.wrap_u64]; omega)]
  have R1 := Lib.hid fun W => rplace_lit o 2097152 4096 (-1) r1 W
  have r2 : rplV o 2097156 4096 = -1 := by unfold rplV; rw [if_neg (by simp only [beq_iff_eq]; omega), if_neg (by simp only [beq_iff_eq, IntKind.wrap_u64]; omega)]
  have R2 := Lib.hid fun W => rplace_lit o 2097156 4096 (-1) r2 W
  have h0 : ¬ 201326592 + o < 201326592 := by omega
  clear n4 n8 n12 n4096 n8192 n8320 n2097152 n2101248 n2097156 n2101252 r0 r1 r2
  go_enter Try.func51, Try.ntmps51
  go_upto_region 1 with (fail)
  have X := Lib.hid (Own.new W h)
  generalize (W.alloc (plO h)).alloc zeroO = w0 at *
  go_wp2_with (first | (go_at_call 65; (with_reducible refine (R0.out _).mono ?_); rintro e w' ⟨rfl, rfl⟩) | (go_at_call 65; (with_reducible refine (R1.out _).mono ?_); rintro e w' ⟨rfl, rfl⟩) | (go_at_call 65; (with_reducible refine (R2.out _).mono ?_); rintro e w' ⟨rfl, rfl⟩) | (with_reducible refine wpList_store_ex rfl rfl (Own.zero X.out rfl) rfl rfl ?_; intro wy hy; have X := Lib.hid hy; clear hy) | fail)
  exact bodyPost_ret (v := .tuple #[plV (zeroP), .bool false]) (results_two Try.results51 _ _ (W.heap.size + 1) _ _ rfl X.out.result rfl) rfl ⟨rfl, X.out.below⟩
set_option maxRecDepth 100000 in
set_option maxHeartbeats 1000000 in
theorem rstore_nb (h : Pl) (o v : Int) (ho : 0 ≤ o ∧ o < 18446744073508225024) (hx : 12 < o) (hn : NoPlace (201326592 + o)) (W : World) : Calls Try.prog 51 #[plV h, .int .u64 (201326592 + o), .int .i64 4, .int .u64 v] W fun e W' => e = .returned (.tuple #[plV (stF h (201326592 + o) 4 v).1, .bool (stF h (201326592 + o) 4 v).2]) ∧ Below W.heap.size W W' := by
  rw [stF_none h _ 4 v (.inr hn)]
  have hw : IntKind.u64.wrap (201326592 + o - 201326592) = o := by rw [IntKind.wrap_u64]; omega
  have n4 : ¬ o = 4 := by have := hn.n_p1; omega
  have n8 : ¬ o = 8 := by have := hn.n_p2; omega
  have n12 : ¬ o = 12 := by have := hn.n_p3; omega
  have n4096 : ¬ o = 4096 := by have := hn.n_wait; omega
  have n8192 : ¬ o = 8192 := by have := hn.n_e0; omega
  have n8320 : ¬ o = 8320 := by have := hn.n_e1; omega
  have n2097152 : ¬ o = 2097152 := by have := hn.n_l0; omega
  have n2101248 : ¬ o = 2101248 := by have := hn.n_l1; omega
  have n2097156 : ¬ o = 2097156 := by have := hn.n_b0; omega
  have n2101252 : ¬ o = 2101252 := by have := hn.n_b1; omega
  have r0 : rplV o 8192 128 = -1 := by unfold rplV; rw [if_neg (by simp only [beq_iff_eq]; omega), if_neg (by simp only [beq_iff_eq, IntKind.wrap_u64]; omega)]
  have R0 := Lib.hid fun W => rplace_lit o 8192 128 (-1) r0 W
  have r1 : rplV o 2097152 4096 = -1 := by unfold rplV; rw [if_neg (by simp only [beq_iff_eq]; omega), if_neg (by simp only [beq_iff_eq, IntKind.wrap_u64]; omega)]
  have R1 := Lib.hid fun W => rplace_lit o 2097152 4096 (-1) r1 W
  have r2 : rplV o 2097156 4096 = -1 := by unfold rplV; rw [if_neg (by simp only [beq_iff_eq]; omega), if_neg (by simp only [beq_iff_eq, IntKind.wrap_u64]; omega)]
  have R2 := Lib.hid fun W => rplace_lit o 2097156 4096 (-1) r2 W
  have h0 : ¬ 201326592 + o < 201326592 := by omega
  clear n4 n8 n12 n4096 n8192 n8320 n2097152 n2101248 n2097156 n2101252 r0 r1 r2
  go_enter Try.func51, Try.ntmps51
  go_upto_region 1 with (fail)
  have X := Lib.hid (Own.new W h)
  generalize (W.alloc (plO h)).alloc zeroO = w0 at *
  go_wp2_with (first | (go_at_call 65; (with_reducible refine (R0.out _).mono ?_); rintro e w' ⟨rfl, rfl⟩) | (go_at_call 65; (with_reducible refine (R1.out _).mono ?_); rintro e w' ⟨rfl, rfl⟩) | (go_at_call 65; (with_reducible refine (R2.out _).mono ?_); rintro e w' ⟨rfl, rfl⟩) | (with_reducible refine wpList_store_ex rfl rfl (Own.zero X.out rfl) rfl rfl ?_; intro wy hy; have X := Lib.hid hy; clear hy) | fail)
  exact bodyPost_ret (v := .tuple #[plV (zeroP), .bool false]) (results_two Try.results51 _ _ (W.heap.size + 1) _ _ rfl X.out.result rfl) rfl ⟨rfl, X.out.below⟩
set_option maxRecDepth 100000 in
set_option maxHeartbeats 1000000 in
theorem rstore_nc (h : Pl) (o v : Int) (ho : 0 ≤ o ∧ o < 18446744073508225024) (hx : ¬ o < 4) (hy : ¬ 12 < o) (hn : NoPlace (201326592 + o)) (W : World) : Calls Try.prog 51 #[plV h, .int .u64 (201326592 + o), .int .i64 4, .int .u64 v] W fun e W' => e = .returned (.tuple #[plV (stF h (201326592 + o) 4 v).1, .bool (stF h (201326592 + o) 4 v).2]) ∧ Below W.heap.size W W' := by
  rw [stF_none h _ 4 v (.inr hn)]
  have hw : IntKind.u64.wrap (201326592 + o - 201326592) = o := by rw [IntKind.wrap_u64]; omega
  have n4 : ¬ o = 4 := by have := hn.n_p1; omega
  have n8 : ¬ o = 8 := by have := hn.n_p2; omega
  have n12 : ¬ o = 12 := by have := hn.n_p3; omega
  have n4096 : ¬ o = 4096 := by have := hn.n_wait; omega
  have n8192 : ¬ o = 8192 := by have := hn.n_e0; omega
  have n8320 : ¬ o = 8320 := by have := hn.n_e1; omega
  have n2097152 : ¬ o = 2097152 := by have := hn.n_l0; omega
  have n2101248 : ¬ o = 2101248 := by have := hn.n_l1; omega
  have n2097156 : ¬ o = 2097156 := by have := hn.n_b0; omega
  have n2101252 : ¬ o = 2101252 := by have := hn.n_b1; omega
  have r0 : rplV o 8192 128 = -1 := by unfold rplV; rw [if_neg (by simp only [beq_iff_eq]; omega), if_neg (by simp only [beq_iff_eq, IntKind.wrap_u64]; omega)]
  have R0 := Lib.hid fun W => rplace_lit o 8192 128 (-1) r0 W
  have r1 : rplV o 2097152 4096 = -1 := by unfold rplV; rw [if_neg (by simp only [beq_iff_eq]; omega), if_neg (by simp only [beq_iff_eq, IntKind.wrap_u64]; omega)]
  have R1 := Lib.hid fun W => rplace_lit o 2097152 4096 (-1) r1 W
  have r2 : rplV o 2097156 4096 = -1 := by unfold rplV; rw [if_neg (by simp only [beq_iff_eq]; omega), if_neg (by simp only [beq_iff_eq, IntKind.wrap_u64]; omega)]
  have R2 := Lib.hid fun W => rplace_lit o 2097156 4096 (-1) r2 W
  have h0 : ¬ 201326592 + o < 201326592 := by omega
  have hm : (o % 4 == 0) = false := by rw [beq_eq_false_iff_ne]; omega
  have hp : 4 ≤ o := by omega
  have hq : o ≤ 12 := by omega
  clear n4 n8 n12 n4096 n8192 n8320 n2097152 n2101248 n2097156 n2101252 r0 r1 r2
  go_enter Try.func51, Try.ntmps51
  go_upto_region 1 with (fail)
  have X := Lib.hid (Own.new W h)
  generalize (W.alloc (plO h)).alloc zeroO = w0 at *
  go_wp2_with (first | (go_at_call 65; (with_reducible refine (R0.out _).mono ?_); rintro e w' ⟨rfl, rfl⟩) | (go_at_call 65; (with_reducible refine (R1.out _).mono ?_); rintro e w' ⟨rfl, rfl⟩) | (go_at_call 65; (with_reducible refine (R2.out _).mono ?_); rintro e w' ⟨rfl, rfl⟩) | (with_reducible refine wpList_store_ex rfl rfl (Own.zero X.out rfl) rfl rfl ?_; intro wy hy; have X := Lib.hid hy; clear hy) | fail)
  exact bodyPost_ret (v := .tuple #[plV (zeroP), .bool false]) (results_two Try.results51 _ _ (W.heap.size + 1) _ _ rfl X.out.result rfl) rfl ⟨rfl, X.out.below⟩
set_option maxRecDepth 100000 in
set_option maxHeartbeats 1000000 in
theorem rstore_wait (h : Pl) (v : Int) (W : World) : Calls Try.prog 51 #[plV h, .int .u64 201330688, .int .i64 4, .int .u64 v] W fun e W' => e = .returned (.tuple #[plV (stF h 201330688 4 v).1, .bool (stF h 201330688 4 v).2]) ∧ Below W.heap.size W W' := by
  rw [stF_wait h v]
  have R0 := Lib.hid fun W => rplace_lit 4096 8192 128 (-1) (by decide +kernel) W
  have R1 := Lib.hid fun W => rplace_lit 4096 2097152 4096 (-1) (by decide +kernel) W
  have R2 := Lib.hid fun W => rplace_lit 4096 2097156 4096 (-1) (by decide +kernel) W
  go_enter Try.func51, Try.ntmps51
  go_upto_region 1 with (fail)
  have X := Lib.hid (Own.new W h)
  generalize (W.alloc (plO h)).alloc zeroO = w0 at *
  go_wp2_with (first | (go_at_call 65; (with_reducible refine (R0.out _).mono ?_); rintro e w' ⟨rfl, rfl⟩) | (go_at_call 65; (with_reducible refine (R1.out _).mono ?_); rintro e w' ⟨rfl, rfl⟩) | (go_at_call 65; (with_reducible refine (R2.out _).mono ?_); rintro e w' ⟨rfl, rfl⟩) | (with_reducible refine wpList_store_ex rfl rfl (Own.zero X.out rfl) rfl rfl ?_; intro wy hy; have X := Lib.hid hy; clear hy) | fail)
  exact bodyPost_ret (v := .tuple #[plV (zeroP), .bool false]) (results_two Try.results51 _ _ (W.heap.size + 1) _ _ rfl X.out.result rfl) rfl ⟨rfl, X.out.below⟩
theorem rstore_any (h : Pl) (t z v : Int) (he0 : U32 h.e0) (he1 : U32 h.e1) (ht : 0 ≤ t ∧ t < 18446744073709551616) (W : World) : Calls Try.prog 51 #[plV h, .int .u64 t, .int .i64 z, .int .u64 v] W fun e W' => e = .returned (.tuple #[plV (stF h t z v).1, .bool (stF h t z v).2]) ∧ Below W.heap.size W W' := by
  by_cases hb : t < 201326592
  · refine rstore_z2 h t z v hb (stF_none h t z v (.inr ⟨by omega, by omega, by omega, by omega, by omega, by omega, by omega, by omega, by omega, by omega⟩)) W
  by_cases hz : z = 4
  · subst hz
    by_cases h_p1 : t = 201326596
    · subst h_p1; exact rstore_p1 h v W
    by_cases h_p2 : t = 201326600
    · subst h_p2; exact rstore_p2 h v W
    by_cases h_p3 : t = 201326604
    · subst h_p3; exact rstore_p3 h v W
    by_cases h_wait : t = 201330688
    · subst h_wait; exact rstore_wait h v W
    by_cases h_e0 : t = 201334784
    · subst h_e0; exact rstore_e0 h v W
    by_cases h_e1 : t = 201334912
    · subst h_e1; exact rstore_e1 h v W
    by_cases h_l0 : t = 203423744
    · subst h_l0; exact rstore_l0 h v W
    by_cases h_l1 : t = 203427840
    · subst h_l1; exact rstore_l1 h v W
    by_cases h_b0 : t = 203423748
    · subst h_b0; exact rstore_b0 h v he0 W
    by_cases h_b1 : t = 203427844
    · subst h_b1; exact rstore_b1 h v he1 W
    have hn : NoPlace t := ⟨h_p1, h_p2, h_p3, h_wait, h_e0, h_e1, h_l0, h_l1, h_b0, h_b1⟩
    have e : t = 201326592 + (t - 201326592) := by omega
    generalize t - 201326592 = o at e
    subst e
    by_cases hx : o < 4
    · exact rstore_na h o v (by omega) hx hn W
    by_cases hy : 12 < o
    · exact rstore_nb h o v (by omega) hy hn W
    · exact rstore_nc h o v (by omega) hx hy hn W
  · exact rstore_z1 h t z v (by simpa using hz) hb W

end Go.Proofs.Ytnedhjaphfjdmaa.Pc
