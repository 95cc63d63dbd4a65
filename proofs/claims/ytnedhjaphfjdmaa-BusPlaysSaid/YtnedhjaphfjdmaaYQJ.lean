/- Load of the reference. -/
import Derived.Test.YtnedhjaphfjdmaaYPI
import Derived.Test.YtnedhjaphfjdmaaYQD
import Derived.Test.YtnedhjaphfjdmaaYDX
namespace Go.Proofs.Ytnedhjaphfjdmaa.Pc
open Go.RowKit Go.Deep Go.Joins
theorem or_zero (x : Int) (hx : U32 x) : bits .or .u32 x 0 = x := by
  apply bit_ext _ _ (u32_or _ _) hx
  intro i _
  rw [bit_or, bit_zero]
  simp
set_option maxRecDepth 100000 in
set_option maxHeartbeats 1000000 in
theorem rload_p1 (h : Pl) (s : Int) (W : World) : Calls Try.prog 47 #[plV h, .int .u32 s, .int .u64 201326596, .int .i64 4] W fun e W' => e = .returned (.tuple #[plV (ldF h s 201326596 4).1, .int .u64 (ldF h s 201326596 4).2.1, .bool (ldF h s 201326596 4).2.2]) ∧ Below W.heap.size W W' := by
  rw [ldF_p1]
  go_enter Try.func47, Try.ntmps47
  go_upto_region 1 with (fail)
  have X := Lib.hid (Own.new W h)
  generalize (W.alloc (plO h)).alloc zeroO = w0 at *
  go_upto_region 5 with (fail)
  refine wp_region_held (S := fun w => Box w W.heap.size h) (by kernel_rfl) ?_
  have X : RowKit.Hid (Own W { w0 with drawn := w0.drawn + 1 } h zeroC) := Lib.hid X.out.drew
  generalize ({ w0 with drawn := w0.drawn + 1 } : World) = w3 at *
  have hS : Box w3 W.heap.size h := X.out.box
  refine tl 0 hS (fun w hw => hw.load) ?_
  refine tk 1 hS ?_
  refine tk 2 hS ?_
  simp only [show IntKind.u64.wrap 1 = 1 from by decide +kernel]
  refine tk 3 hS ?_
  refine tk 4 hS ?_
  refine tl 5 hS (fun w hw => hw.load_p1) ?_
  refine tk 6 hS ?_
  refine held_store (i := 7) (o := ⟨none, Op.store 33 (.tmp 8) (.tmp 36), _, _, _, none⟩) (by kernel_rfl) rfl rfl rfl rfl rfl (store_box _ _ _ _ X.out.res rfl) (X.out.full (plC h)).box ?_
  simp only [puts]
  replace X := Lib.hid (X.out.full (plC h))
  replace hS := X.out.box
  refine tk 8 hS ?_
  refine tk 9 hS ?_
  refine wpAnyH_done (by kernel_rfl) ?_ _
  go_wp2_with fail
  exact bodyPost_ret (v := .tuple #[plV (h), .int .u64 (IntKind.u64.wrap h.p1), .bool true]) (results_three Try.results47 _ _ (W.heap.size + 1) _ _ _ rfl X.out.result rfl rfl) rfl ⟨rfl, X.out.below⟩
set_option maxRecDepth 100000 in
set_option maxHeartbeats 1000000 in
theorem rload_p2 (h : Pl) (s : Int) (W : World) : Calls Try.prog 47 #[plV h, .int .u32 s, .int .u64 201326600, .int .i64 4] W fun e W' => e = .returned (.tuple #[plV (ldF h s 201326600 4).1, .int .u64 (ldF h s 201326600 4).2.1, .bool (ldF h s 201326600 4).2.2]) ∧ Below W.heap.size W W' := by
  rw [ldF_p2]
  go_enter Try.func47, Try.ntmps47
  go_upto_region 1 with (fail)
  have X := Lib.hid (Own.new W h)
  generalize (W.alloc (plO h)).alloc zeroO = w0 at *
  go_upto_region 5 with (fail)
  refine wp_region_held (S := fun w => Box w W.heap.size h) (by kernel_rfl) ?_
  have X : RowKit.Hid (Own W { w0 with drawn := w0.drawn + 1 } h zeroC) := Lib.hid X.out.drew
  generalize ({ w0 with drawn := w0.drawn + 1 } : World) = w3 at *
  have hS : Box w3 W.heap.size h := X.out.box
  refine tl 0 hS (fun w hw => hw.load) ?_
  refine tk 1 hS ?_
  refine tk 2 hS ?_
  simp only [show IntKind.u64.wrap 2 = 2 from by decide +kernel]
  refine tk 3 hS ?_
  refine tk 4 hS ?_
  refine tl 5 hS (fun w hw => hw.load_p2) ?_
  refine tk 6 hS ?_
  refine held_store (i := 7) (o := ⟨none, Op.store 33 (.tmp 8) (.tmp 36), _, _, _, none⟩) (by kernel_rfl) rfl rfl rfl rfl rfl (store_box _ _ _ _ X.out.res rfl) (X.out.full (plC h)).box ?_
  simp only [puts]
  replace X := Lib.hid (X.out.full (plC h))
  replace hS := X.out.box
  refine tk 8 hS ?_
  refine tk 9 hS ?_
  refine wpAnyH_done (by kernel_rfl) ?_ _
  go_wp2_with fail
  exact bodyPost_ret (v := .tuple #[plV (h), .int .u64 (IntKind.u64.wrap h.p2), .bool true]) (results_three Try.results47 _ _ (W.heap.size + 1) _ _ _ rfl X.out.result rfl rfl) rfl ⟨rfl, X.out.below⟩
set_option maxRecDepth 100000 in
set_option maxHeartbeats 1000000 in
theorem rload_p3 (h : Pl) (s : Int) (W : World) : Calls Try.prog 47 #[plV h, .int .u32 s, .int .u64 201326604, .int .i64 4] W fun e W' => e = .returned (.tuple #[plV (ldF h s 201326604 4).1, .int .u64 (ldF h s 201326604 4).2.1, .bool (ldF h s 201326604 4).2.2]) ∧ Below W.heap.size W W' := by
  rw [ldF_p3]
  go_enter Try.func47, Try.ntmps47
  go_upto_region 1 with (fail)
  have X := Lib.hid (Own.new W h)
  generalize (W.alloc (plO h)).alloc zeroO = w0 at *
  go_upto_region 5 with (fail)
  refine wp_region_held (S := fun w => Box w W.heap.size h) (by kernel_rfl) ?_
  have X : RowKit.Hid (Own W { w0 with drawn := w0.drawn + 1 } h zeroC) := Lib.hid X.out.drew
  generalize ({ w0 with drawn := w0.drawn + 1 } : World) = w3 at *
  have hS : Box w3 W.heap.size h := X.out.box
  refine tl 0 hS (fun w hw => hw.load) ?_
  refine tk 1 hS ?_
  refine tk 2 hS ?_
  simp only [show IntKind.u64.wrap 3 = 3 from by decide +kernel]
  refine tk 3 hS ?_
  refine tk 4 hS ?_
  refine tl 5 hS (fun w hw => hw.load_p3) ?_
  refine tk 6 hS ?_
  refine held_store (i := 7) (o := ⟨none, Op.store 33 (.tmp 8) (.tmp 36), _, _, _, none⟩) (by kernel_rfl) rfl rfl rfl rfl rfl (store_box _ _ _ _ X.out.res rfl) (X.out.full (plC h)).box ?_
  simp only [puts]
  replace X := Lib.hid (X.out.full (plC h))
  replace hS := X.out.box
  refine tk 8 hS ?_
  refine tk 9 hS ?_
  refine wpAnyH_done (by kernel_rfl) ?_ _
  go_wp2_with fail
  exact bodyPost_ret (v := .tuple #[plV (h), .int .u64 (IntKind.u64.wrap h.p3), .bool true]) (results_three Try.results47 _ _ (W.heap.size + 1) _ _ _ rfl X.out.result rfl rfl) rfl ⟨rfl, X.out.below⟩
set_option maxRecDepth 100000 in
set_option maxHeartbeats 1000000 in
theorem rload_e0 (h : Pl) (s : Int) (W : World) : Calls Try.prog 47 #[plV h, .int .u32 s, .int .u64 201334784, .int .i64 4] W fun e W' => e = .returned (.tuple #[plV (ldF h s 201334784 4).1, .int .u64 (ldF h s 201334784 4).2.1, .bool (ldF h s 201334784 4).2.2]) ∧ Below W.heap.size W W' := by
  rw [ldF_e0]
  have R0 := Lib.hid fun W => rplace_lit 8192 8192 128 (0) (by decide +kernel) W
  go_enter Try.func47, Try.ntmps47
  go_upto_region 1 with (fail)
  have X := Lib.hid (Own.new W h)
  generalize (W.alloc (plO h)).alloc zeroO = w0 at *
  go_upto_region 10 with (first | (go_at_call 65; (with_reducible refine (R0.out _).mono ?_); rintro e w' ⟨rfl, rfl⟩) | fail)
  refine wp_region_held (S := fun w => Box w W.heap.size h) (by kernel_rfl) ?_
  have X : RowKit.Hid (Own W { w0 with drawn := w0.drawn + 1 } h zeroC) := Lib.hid X.out.drew
  generalize ({ w0 with drawn := w0.drawn + 1 } : World) = w3 at *
  have hS : Box w3 W.heap.size h := X.out.box
  refine tl 0 hS (fun w hw => hw.load) ?_
  refine tk 1 hS ?_
  refine tk 2 hS ?_
  refine tk 3 hS ?_
  refine tl 4 hS (fun w hw => hw.load_e0) ?_
  refine tk 5 hS ?_
  refine held_store (i := 6) (o := ⟨none, Op.store 33 (.tmp 8) (.tmp 54), _, _, _, none⟩) (by kernel_rfl) rfl rfl rfl rfl rfl (store_box _ _ _ _ X.out.res rfl) (X.out.full (plC h)).box ?_
  simp only [puts]
  replace X := Lib.hid (X.out.full (plC h))
  replace hS := X.out.box
  refine tk 7 hS ?_
  refine tk 8 hS ?_
  refine wpAnyH_done (by kernel_rfl) ?_ _
  go_wp2_with fail
  exact bodyPost_ret (v := .tuple #[plV (h), .int .u64 (IntKind.u64.wrap h.e0), .bool true]) (results_three Try.results47 _ _ (W.heap.size + 1) _ _ _ rfl X.out.result rfl rfl) rfl ⟨rfl, X.out.below⟩
set_option maxRecDepth 100000 in
set_option maxHeartbeats 1000000 in
theorem rload_e1 (h : Pl) (s : Int) (W : World) : Calls Try.prog 47 #[plV h, .int .u32 s, .int .u64 201334912, .int .i64 4] W fun e W' => e = .returned (.tuple #[plV (ldF h s 201334912 4).1, .int .u64 (ldF h s 201334912 4).2.1, .bool (ldF h s 201334912 4).2.2]) ∧ Below W.heap.size W W' := by
  rw [ldF_e1]
  have R0 := Lib.hid fun W => rplace_lit 8320 8192 128 (1) (by decide +kernel) W
  go_enter Try.func47, Try.ntmps47
  go_upto_region 1 with (fail)
  have X := Lib.hid (Own.new W h)
  generalize (W.alloc (plO h)).alloc zeroO = w0 at *
  go_upto_region 10 with (first | (go_at_call 65; (with_reducible refine (R0.out _).mono ?_); rintro e w' ⟨rfl, rfl⟩) | fail)
  refine wp_region_held (S := fun w => Box w W.heap.size h) (by kernel_rfl) ?_
  have X : RowKit.Hid (Own W { w0 with drawn := w0.drawn + 1 } h zeroC) := Lib.hid X.out.drew
  generalize ({ w0 with drawn := w0.drawn + 1 } : World) = w3 at *
  have hS : Box w3 W.heap.size h := X.out.box
  refine tl 0 hS (fun w hw => hw.load) ?_
  refine tk 1 hS ?_
  refine tk 2 hS ?_
  refine tk 3 hS ?_
  refine tl 4 hS (fun w hw => hw.load_e1) ?_
  refine tk 5 hS ?_
  refine held_store (i := 6) (o := ⟨none, Op.store 33 (.tmp 8) (.tmp 54), _, _, _, none⟩) (by kernel_rfl) rfl rfl rfl rfl rfl (store_box _ _ _ _ X.out.res rfl) (X.out.full (plC h)).box ?_
  simp only [puts]
  replace X := Lib.hid (X.out.full (plC h))
  replace hS := X.out.box
  refine tk 7 hS ?_
  refine tk 8 hS ?_
  refine wpAnyH_done (by kernel_rfl) ?_ _
  go_wp2_with fail
  exact bodyPost_ret (v := .tuple #[plV (h), .int .u64 (IntKind.u64.wrap h.e1), .bool true]) (results_three Try.results47 _ _ (W.heap.size + 1) _ _ _ rfl X.out.result rfl rfl) rfl ⟨rfl, X.out.below⟩
set_option maxRecDepth 100000 in
set_option maxHeartbeats 1000000 in
theorem rload_l0 (h : Pl) (s : Int) (W : World) : Calls Try.prog 47 #[plV h, .int .u32 s, .int .u64 203423744, .int .i64 4] W fun e W' => e = .returned (.tuple #[plV (ldF h s 203423744 4).1, .int .u64 (ldF h s 203423744 4).2.1, .bool (ldF h s 203423744 4).2.2]) ∧ Below W.heap.size W W' := by
  rw [ldF_l0]
  have R0 := Lib.hid fun W => rplace_lit 2097152 8192 128 (-1) (by decide +kernel) W
  have R1 := Lib.hid fun W => rplace_lit 2097152 2097152 4096 (0) (by decide +kernel) W
  go_enter Try.func47, Try.ntmps47
  go_upto_region 1 with (fail)
  have X := Lib.hid (Own.new W h)
  generalize (W.alloc (plO h)).alloc zeroO = w0 at *
  go_upto_region 13 with (first | (go_at_call 65; (with_reducible refine (R0.out _).mono ?_); rintro e w' ⟨rfl, rfl⟩) | (go_at_call 65; (with_reducible refine (R1.out _).mono ?_); rintro e w' ⟨rfl, rfl⟩) | fail)
  refine wp_region_held (S := fun w => Box w W.heap.size h) (by kernel_rfl) ?_
  have X : RowKit.Hid (Own W { w0 with drawn := w0.drawn + 1 } h zeroC) := Lib.hid X.out.drew
  generalize ({ w0 with drawn := w0.drawn + 1 } : World) = w3 at *
  have hS : Box w3 W.heap.size h := X.out.box
  refine tl 0 hS (fun w hw => hw.load) ?_
  refine tk 1 hS ?_
  refine tk 2 hS ?_
  refine tk 3 hS ?_
  refine tl 4 hS (fun w hw => hw.load_l0) ?_
  refine tk 5 hS ?_
  refine held_store (i := 6) (o := ⟨none, Op.store 33 (.tmp 8) (.tmp 64), _, _, _, none⟩) (by kernel_rfl) rfl rfl rfl rfl rfl (store_box _ _ _ _ X.out.res rfl) (X.out.full (plC h)).box ?_
  simp only [puts]
  replace X := Lib.hid (X.out.full (plC h))
  replace hS := X.out.box
  refine tk 7 hS ?_
  refine tk 8 hS ?_
  refine wpAnyH_done (by kernel_rfl) ?_ _
  go_wp2_with fail
  exact bodyPost_ret (v := .tuple #[plV (h), .int .u64 (IntKind.u64.wrap h.l0), .bool true]) (results_three Try.results47 _ _ (W.heap.size + 1) _ _ _ rfl X.out.result rfl rfl) rfl ⟨rfl, X.out.below⟩
set_option maxRecDepth 100000 in
set_option maxHeartbeats 1000000 in
theorem rload_l1 (h : Pl) (s : Int) (W : World) : Calls Try.prog 47 #[plV h, .int .u32 s, .int .u64 203427840, .int .i64 4] W fun e W' => e = .returned (.tuple #[plV (ldF h s 203427840 4).1, .int .u64 (ldF h s 203427840 4).2.1, .bool (ldF h s 203427840 4).2.2]) ∧ Below W.heap.size W W' := by
  rw [ldF_l1]
  have R0 := Lib.hid fun W => rplace_lit 2101248 8192 128 (-1) (by decide +kernel) W
  have R1 := Lib.hid fun W => rplace_lit 2101248 2097152 4096 (1) (by decide +kernel) W
  go_enter Try.func47, Try.ntmps47
  go_upto_region 1 with (fail)
  have X := Lib.hid (Own.new W h)
  generalize (W.alloc (plO h)).alloc zeroO = w0 at *
  go_upto_region 13 with (first | (go_at_call 65; (with_reducible refine (R0.out _).mono ?_); rintro e w' ⟨rfl, rfl⟩) | (go_at_call 65; (with_reducible refine (R1.out _).mono ?_); rintro e w' ⟨rfl, rfl⟩) | fail)
  refine wp_region_held (S := fun w => Box w W.heap.size h) (by kernel_rfl) ?_
  have X : RowKit.Hid (Own W { w0 with drawn := w0.drawn + 1 } h zeroC) := Lib.hid X.out.drew
  generalize ({ w0 with drawn := w0.drawn + 1 } : World) = w3 at *
  have hS : Box w3 W.heap.size h := X.out.box
  refine tl 0 hS (fun w hw => hw.load) ?_
  refine tk 1 hS ?_
  refine tk 2 hS ?_
  refine tk 3 hS ?_
  refine tl 4 hS (fun w hw => hw.load_l1) ?_
  refine tk 5 hS ?_
  refine held_store (i := 6) (o := ⟨none, Op.store 33 (.tmp 8) (.tmp 64), _, _, _, none⟩) (by kernel_rfl) rfl rfl rfl rfl rfl (store_box _ _ _ _ X.out.res rfl) (X.out.full (plC h)).box ?_
  simp only [puts]
  replace X := Lib.hid (X.out.full (plC h))
  replace hS := X.out.box
  refine tk 7 hS ?_
  refine tk 8 hS ?_
  refine wpAnyH_done (by kernel_rfl) ?_ _
  go_wp2_with fail
  exact bodyPost_ret (v := .tuple #[plV (h), .int .u64 (IntKind.u64.wrap h.l1), .bool true]) (results_three Try.results47 _ _ (W.heap.size + 1) _ _ _ rfl X.out.result rfl rfl) rfl ⟨rfl, X.out.below⟩
set_option maxRecDepth 100000 in
set_option maxHeartbeats 1000000 in
theorem rload_wait (h : Pl) (s : Int) (W : World) : Calls Try.prog 47 #[plV h, .int .u32 s, .int .u64 201330688, .int .i64 4] W fun e W' => e = .returned (.tuple #[plV (ldF h s 201330688 4).1, .int .u64 (ldF h s 201330688 4).2.1, .bool (ldF h s 201330688 4).2.2]) ∧ Below W.heap.size W W' := by
  rw [ldF_wait]
  go_enter Try.func47, Try.ntmps47
  go_upto_region 1 with (fail)
  have X := Lib.hid (Own.new W h)
  generalize (W.alloc (plO h)).alloc zeroO = w0 at *
  go_upto_region 7 with (fail)
  refine wp_region_held (S := fun w => Box w W.heap.size h) (by kernel_rfl) ?_
  have X : RowKit.Hid (Own W { w0 with drawn := w0.drawn + 1 } h zeroC) := Lib.hid X.out.drew
  generalize ({ w0 with drawn := w0.drawn + 1 } : World) = w3 at *
  have hS : Box w3 W.heap.size h := X.out.box
  refine tl 0 hS (fun w hw => hw.load) ?_
  refine tl 1 hS (fun w hw => hw.load) ?_
  refine tk 2 hS ?_
  refine held_calls (i := 3) (o := ⟨some 48, Op.call { callee := .value (.func 64), args := #[.tmp 46, .tmp 47], argTypes := #[33, 29] }, _, _, _, none⟩) (R := fun v w' => v = Value.int .u32 (waitV s h.c) ∧ Below w3.heap.size w3 w') (by kernel_rfl) rfl (by kernel_rfl) (by go_simp) ((rwait_any h s _).mono fun e w' hw => ⟨_, hw.1, (⟨rfl, hw.2⟩ : _ = Value.int .u32 (waitV s h.c) ∧ _)⟩) ?_
  rintro _ w' ⟨rfl, hb⟩
  replace X := Lib.hid (X.out.next hb)
  refine ⟨X.out.box, fun _ => ?_⟩
  replace hS := X.out.box
  simp only [puts]
  refine tk 4 hS ?_
  refine held_store (i := 5) (o := ⟨none, Op.store 33 (.tmp 8) (.tmp 45), _, _, _, none⟩) (by kernel_rfl) rfl rfl rfl rfl rfl (store_box _ _ _ _ X.out.res rfl) (X.out.full (plC h)).box ?_
  simp only [puts]
  replace X := Lib.hid (X.out.full (plC h))
  replace hS := X.out.box
  refine tk 6 hS ?_
  refine tk 7 hS ?_
  refine wpAnyH_done (by kernel_rfl) ?_ _
  go_wp2_with fail
  exact bodyPost_ret (v := .tuple #[plV (h), .int .u64 (IntKind.u64.wrap (waitV s h.c)), .bool true]) (results_three Try.results47 _ _ (W.heap.size + 1) _ _ _ rfl X.out.result rfl rfl) rfl ⟨rfl, X.out.below⟩
set_option maxRecDepth 100000 in
set_option maxHeartbeats 1000000 in
theorem rload_b0_0 (h : Pl) (s : Int) (hc : U32 h.c) (hb : bestF h s 0 = 0) (W : World) : Calls Try.prog 47 #[plV h, .int .u32 s, .int .u64 203423748, .int .i64 4] W fun e W' => e = .returned (.tuple #[plV (ldF h s 203423748 4).1, .int .u64 (ldF h s 203423748 4).2.1, .bool (ldF h s 203423748 4).2.2]) ∧ Below W.heap.size W W' := by
  have q := rbest_any h s 0
  rw [ldF_b0, hb]
  rw [hb] at q
  have Q9 := Lib.hid q
  clear q hb
  have HC : RowKit.Hid (({ h with c := bits .or .u32 h.c (wt 0) } : Pl) = h) := Lib.hid (by rw [show wt 0 = 0 from rfl, or_zero h.c hc])
  rw [HC.out]
  clear hc
  have R0 := Lib.hid fun W => rplace_lit 2097156 8192 128 (-1) (by decide +kernel) W
  have R1 := Lib.hid fun W => rplace_lit 2097156 2097152 4096 (-1) (by decide +kernel) W
  have R2 := Lib.hid fun W => rplace_lit 2097156 2097156 4096 (0) (by decide +kernel) W
  go_enter Try.func47, Try.ntmps47
  go_upto_region 1 with (fail)
  have X := Lib.hid (Own.new W h)
  generalize (W.alloc (plO h)).alloc zeroO = w0 at *
  go_wp2_with (first | (with_reducible refine wpList_load_by rfl rfl (Own.load X.out) rfl ?_) | (with_reducible refine wpList_load_by rfl rfl (Own.load_c X.out) rfl ?_) | (go_at_call 65; (with_reducible refine (R0.out _).mono ?_); rintro e w' ⟨rfl, rfl⟩) | (go_at_call 65; (with_reducible refine (R1.out _).mono ?_); rintro e w' ⟨rfl, rfl⟩) | (go_at_call 65; (with_reducible refine (R2.out _).mono ?_); rintro e w' ⟨rfl, rfl⟩) | (go_at_call 46; (with_reducible refine (Q9.out _).mono ?_); rintro e w2 ⟨rfl, k2⟩; have X := Lib.hid (X.out.next k2)) | (with_reducible refine wpList_store_ex rfl rfl (Own.store_c X.out _) rfl rfl ?_; intro wy hy; have X := Lib.hid hy; clear hy) | (with_reducible refine wpList_store_ex rfl rfl (Own.tell X.out rfl _) rfl rfl ?_; intro wy hy; have X := Lib.hid hy; clear hy) | fail)
  exact bodyPost_ret (v := .tuple #[plV (h), .int .u64 (0), .bool true]) (results_three Try.results47 _ _ (W.heap.size + 1) _ _ _ rfl X.out.result rfl rfl) rfl ⟨rfl, X.out.below⟩
set_option maxRecDepth 100000 in
set_option maxHeartbeats 1000000 in
theorem rload_b0_1 (h : Pl) (s : Int) (hb : bestF h s 0 = 1) (W : World) : Calls Try.prog 47 #[plV h, .int .u32 s, .int .u64 203423748, .int .i64 4] W fun e W' => e = .returned (.tuple #[plV (ldF h s 203423748 4).1, .int .u64 (ldF h s 203423748 4).2.1, .bool (ldF h s 203423748 4).2.2]) ∧ Below W.heap.size W W' := by
  have q := rbest_any h s 0
  rw [ldF_b0, hb]
  rw [hb] at q
  have Q9 := Lib.hid q
  clear q hb
  have R0 := Lib.hid fun W => rplace_lit 2097156 8192 128 (-1) (by decide +kernel) W
  have R1 := Lib.hid fun W => rplace_lit 2097156 2097152 4096 (-1) (by decide +kernel) W
  have R2 := Lib.hid fun W => rplace_lit 2097156 2097156 4096 (0) (by decide +kernel) W
  go_enter Try.func47, Try.ntmps47
  go_upto_region 1 with (fail)
  have X := Lib.hid (Own.new W h)
  generalize (W.alloc (plO h)).alloc zeroO = w0 at *
  go_wp2_with (first | (with_reducible refine wpList_load_by rfl rfl (Own.load X.out) rfl ?_) | (with_reducible refine wpList_load_by rfl rfl (Own.load_c X.out) rfl ?_) | (go_at_call 65; (with_reducible refine (R0.out _).mono ?_); rintro e w' ⟨rfl, rfl⟩) | (go_at_call 65; (with_reducible refine (R1.out _).mono ?_); rintro e w' ⟨rfl, rfl⟩) | (go_at_call 65; (with_reducible refine (R2.out _).mono ?_); rintro e w' ⟨rfl, rfl⟩) | (go_at_call 46; (with_reducible refine (Q9.out _).mono ?_); rintro e w2 ⟨rfl, k2⟩; have X := Lib.hid (X.out.next k2)) | (with_reducible refine wpList_store_ex rfl rfl (Own.store_c X.out _) rfl rfl ?_; intro wy hy; have X := Lib.hid hy; clear hy) | (with_reducible refine wpList_store_ex rfl rfl (Own.tell X.out rfl _) rfl rfl ?_; intro wy hy; have X := Lib.hid hy; clear hy) | fail)
  exact bodyPost_ret (v := .tuple #[plV ({ h with c := bits .or .u32 h.c (wt 1) }), .int .u64 (1), .bool true]) (results_three Try.results47 _ _ (W.heap.size + 1) _ _ _ rfl X.out.result rfl rfl) rfl ⟨rfl, X.out.below⟩
set_option maxRecDepth 100000 in
set_option maxHeartbeats 1000000 in
theorem rload_b0_2 (h : Pl) (s : Int) (hb : bestF h s 0 = 2) (W : World) : Calls Try.prog 47 #[plV h, .int .u32 s, .int .u64 203423748, .int .i64 4] W fun e W' => e = .returned (.tuple #[plV (ldF h s 203423748 4).1, .int .u64 (ldF h s 203423748 4).2.1, .bool (ldF h s 203423748 4).2.2]) ∧ Below W.heap.size W W' := by
  have q := rbest_any h s 0
  rw [ldF_b0, hb]
  rw [hb] at q
  have Q9 := Lib.hid q
  clear q hb
  have R0 := Lib.hid fun W => rplace_lit 2097156 8192 128 (-1) (by decide +kernel) W
  have R1 := Lib.hid fun W => rplace_lit 2097156 2097152 4096 (-1) (by decide +kernel) W
  have R2 := Lib.hid fun W => rplace_lit 2097156 2097156 4096 (0) (by decide +kernel) W
  go_enter Try.func47, Try.ntmps47
  go_upto_region 1 with (fail)
  have X := Lib.hid (Own.new W h)
  generalize (W.alloc (plO h)).alloc zeroO = w0 at *
  go_wp2_with (first | (with_reducible refine wpList_load_by rfl rfl (Own.load X.out) rfl ?_) | (with_reducible refine wpList_load_by rfl rfl (Own.load_c X.out) rfl ?_) | (go_at_call 65; (with_reducible refine (R0.out _).mono ?_); rintro e w' ⟨rfl, rfl⟩) | (go_at_call 65; (with_reducible refine (R1.out _).mono ?_); rintro e w' ⟨rfl, rfl⟩) | (go_at_call 65; (with_reducible refine (R2.out _).mono ?_); rintro e w' ⟨rfl, rfl⟩) | (go_at_call 46; (with_reducible refine (Q9.out _).mono ?_); rintro e w2 ⟨rfl, k2⟩; have X := Lib.hid (X.out.next k2)) | (with_reducible refine wpList_store_ex rfl rfl (Own.store_c X.out _) rfl rfl ?_; intro wy hy; have X := Lib.hid hy; clear hy) | (with_reducible refine wpList_store_ex rfl rfl (Own.tell X.out rfl _) rfl rfl ?_; intro wy hy; have X := Lib.hid hy; clear hy) | fail)
  exact bodyPost_ret (v := .tuple #[plV ({ h with c := bits .or .u32 h.c (wt 2) }), .int .u64 (2), .bool true]) (results_three Try.results47 _ _ (W.heap.size + 1) _ _ _ rfl X.out.result rfl rfl) rfl ⟨rfl, X.out.below⟩
set_option maxRecDepth 100000 in
set_option maxHeartbeats 1000000 in
theorem rload_b0_3 (h : Pl) (s : Int) (hb : bestF h s 0 = 3) (W : World) : Calls Try.prog 47 #[plV h, .int .u32 s, .int .u64 203423748, .int .i64 4] W fun e W' => e = .returned (.tuple #[plV (ldF h s 203423748 4).1, .int .u64 (ldF h s 203423748 4).2.1, .bool (ldF h s 203423748 4).2.2]) ∧ Below W.heap.size W W' := by
  have q := rbest_any h s 0
  rw [ldF_b0, hb]
  rw [hb] at q
  have Q9 := Lib.hid q
  clear q hb
  have R0 := Lib.hid fun W => rplace_lit 2097156 8192 128 (-1) (by decide +kernel) W
  have R1 := Lib.hid fun W => rplace_lit 2097156 2097152 4096 (-1) (by decide +kernel) W
  have R2 := Lib.hid fun W => rplace_lit 2097156 2097156 4096 (0) (by decide +kernel) W
  go_enter Try.func47, Try.ntmps47
  go_upto_region 1 with (fail)
  have X := Lib.hid (Own.new W h)
  generalize (W.alloc (plO h)).alloc zeroO = w0 at *
  go_wp2_with (first | (with_reducible refine wpList_load_by rfl rfl (Own.load X.out) rfl ?_) | (with_reducible refine wpList_load_by rfl rfl (Own.load_c X.out) rfl ?_) | (go_at_call 65; (with_reducible refine (R0.out _).mono ?_); rintro e w' ⟨rfl, rfl⟩) | (go_at_call 65; (with_reducible refine (R1.out _).mono ?_); rintro e w' ⟨rfl, rfl⟩) | (go_at_call 65; (with_reducible refine (R2.out _).mono ?_); rintro e w' ⟨rfl, rfl⟩) | (go_at_call 46; (with_reducible refine (Q9.out _).mono ?_); rintro e w2 ⟨rfl, k2⟩; have X := Lib.hid (X.out.next k2)) | (with_reducible refine wpList_store_ex rfl rfl (Own.store_c X.out _) rfl rfl ?_; intro wy hy; have X := Lib.hid hy; clear hy) | (with_reducible refine wpList_store_ex rfl rfl (Own.tell X.out rfl _) rfl rfl ?_; intro wy hy; have X := Lib.hid hy; clear hy) | fail)
  exact bodyPost_ret (v := .tuple #[plV ({ h with c := bits .or .u32 h.c (wt 3) }), .int .u64 (3), .bool true]) (results_three Try.results47 _ _ (W.heap.size + 1) _ _ _ rfl X.out.result rfl rfl) rfl ⟨rfl, X.out.below⟩
theorem rload_b0 (h : Pl) (s : Int) (hc : U32 h.c) (W : World) : Calls Try.prog 47 #[plV h, .int .u32 s, .int .u64 203423748, .int .i64 4] W fun e W' => e = .returned (.tuple #[plV (ldF h s 203423748 4).1, .int .u64 (ldF h s 203423748 4).2.1, .bool (ldF h s 203423748 4).2.2]) ∧ Below W.heap.size W W' := by
  have r := best_range h s 0
  rcases (show bestF h s 0 = 0 ∨ bestF h s 0 = 1 ∨ bestF h s 0 = 2 ∨ bestF h s 0 = 3 by omega) with e | e | e | e
  · exact rload_b0_0 h s hc e W
  · exact rload_b0_1 h s e W
  · exact rload_b0_2 h s e W
  · exact rload_b0_3 h s e W
set_option maxRecDepth 100000 in
set_option maxHeartbeats 1000000 in
theorem rload_b1_0 (h : Pl) (s : Int) (hc : U32 h.c) (hb : bestF h s 1 = 0) (W : World) : Calls Try.prog 47 #[plV h, .int .u32 s, .int .u64 203427844, .int .i64 4] W fun e W' => e = .returned (.tuple #[plV (ldF h s 203427844 4).1, .int .u64 (ldF h s 203427844 4).2.1, .bool (ldF h s 203427844 4).2.2]) ∧ Below W.heap.size W W' := by
  have q := rbest_any h s 1
  rw [ldF_b1, hb]
  rw [hb] at q
  have Q9 := Lib.hid q
  clear q hb
  have HC : RowKit.Hid (({ h with c := bits .or .u32 h.c (wt 0) } : Pl) = h) := Lib.hid (by rw [show wt 0 = 0 from rfl, or_zero h.c hc])
  rw [HC.out]
  clear hc
  have R0 := Lib.hid fun W => rplace_lit 2101252 8192 128 (-1) (by decide +kernel) W
  have R1 := Lib.hid fun W => rplace_lit 2101252 2097152 4096 (-1) (by decide +kernel) W
  have R2 := Lib.hid fun W => rplace_lit 2101252 2097156 4096 (1) (by decide +kernel) W
  go_enter Try.func47, Try.ntmps47
  go_upto_region 1 with (fail)
  have X := Lib.hid (Own.new W h)
  generalize (W.alloc (plO h)).alloc zeroO = w0 at *
  go_wp2_with (first | (with_reducible refine wpList_load_by rfl rfl (Own.load X.out) rfl ?_) | (with_reducible refine wpList_load_by rfl rfl (Own.load_c X.out) rfl ?_) | (go_at_call 65; (with_reducible refine (R0.out _).mono ?_); rintro e w' ⟨rfl, rfl⟩) | (go_at_call 65; (with_reducible refine (R1.out _).mono ?_); rintro e w' ⟨rfl, rfl⟩) | (go_at_call 65; (with_reducible refine (R2.out _).mono ?_); rintro e w' ⟨rfl, rfl⟩) | (go_at_call 46; (with_reducible refine (Q9.out _).mono ?_); rintro e w2 ⟨rfl, k2⟩; have X := Lib.hid (X.out.next k2)) | (with_reducible refine wpList_store_ex rfl rfl (Own.store_c X.out _) rfl rfl ?_; intro wy hy; have X := Lib.hid hy; clear hy) | (with_reducible refine wpList_store_ex rfl rfl (Own.tell X.out rfl _) rfl rfl ?_; intro wy hy; have X := Lib.hid hy; clear hy) | fail)
  exact bodyPost_ret (v := .tuple #[plV (h), .int .u64 (0), .bool true]) (results_three Try.results47 _ _ (W.heap.size + 1) _ _ _ rfl X.out.result rfl rfl) rfl ⟨rfl, X.out.below⟩
set_option maxRecDepth 100000 in
set_option maxHeartbeats 1000000 in
theorem rload_b1_1 (h : Pl) (s : Int) (hb : bestF h s 1 = 1) (W : World) : Calls Try.prog 47 #[plV h, .int .u32 s, .int .u64 203427844, .int .i64 4] W fun e W' => e = .returned (.tuple #[plV (ldF h s 203427844 4).1, .int .u64 (ldF h s 203427844 4).2.1, .bool (ldF h s 203427844 4).2.2]) ∧ Below W.heap.size W W' := by
  have q := rbest_any h s 1
  rw [ldF_b1, hb]
  rw [hb] at q
  have Q9 := Lib.hid q
  clear q hb
  have R0 := Lib.hid fun W => rplace_lit 2101252 8192 128 (-1) (by decide +kernel) W
  have R1 := Lib.hid fun W => rplace_lit 2101252 2097152 4096 (-1) (by decide +kernel) W
  have R2 := Lib.hid fun W => rplace_lit 2101252 2097156 4096 (1) (by decide +kernel) W
  go_enter Try.func47, Try.ntmps47
  go_upto_region 1 with (fail)
  have X := Lib.hid (Own.new W h)
  generalize (W.alloc (plO h)).alloc zeroO = w0 at *
  go_wp2_with (first | (with_reducible refine wpList_load_by rfl rfl (Own.load X.out) rfl ?_) | (with_reducible refine wpList_load_by rfl rfl (Own.load_c X.out) rfl ?_) | (go_at_call 65; (with_reducible refine (R0.out _).mono ?_); rintro e w' ⟨rfl, rfl⟩) | (go_at_call 65; (with_reducible refine (R1.out _).mono ?_); rintro e w' ⟨rfl, rfl⟩) | (go_at_call 65; (with_reducible refine (R2.out _).mono ?_); rintro e w' ⟨rfl, rfl⟩) | (go_at_call 46; (with_reducible refine (Q9.out _).mono ?_); rintro e w2 ⟨rfl, k2⟩; have X := Lib.hid (X.out.next k2)) | (with_reducible refine wpList_store_ex rfl rfl (Own.store_c X.out _) rfl rfl ?_; intro wy hy; have X := Lib.hid hy; clear hy) | (with_reducible refine wpList_store_ex rfl rfl (Own.tell X.out rfl _) rfl rfl ?_; intro wy hy; have X := Lib.hid hy; clear hy) | fail)
  exact bodyPost_ret (v := .tuple #[plV ({ h with c := bits .or .u32 h.c (wt 1) }), .int .u64 (1), .bool true]) (results_three Try.results47 _ _ (W.heap.size + 1) _ _ _ rfl X.out.result rfl rfl) rfl ⟨rfl, X.out.below⟩
set_option maxRecDepth 100000 in
set_option maxHeartbeats 1000000 in
theorem rload_b1_2 (h : Pl) (s : Int) (hb : bestF h s 1 = 2) (W : World) : Calls Try.prog 47 #[plV h, .int .u32 s, .int .u64 203427844, .int .i64 4] W fun e W' => e = .returned (.tuple #[plV (ldF h s 203427844 4).1, .int .u64 (ldF h s 203427844 4).2.1, .bool (ldF h s 203427844 4).2.2]) ∧ Below W.heap.size W W' := by
  have q := rbest_any h s 1
  rw [ldF_b1, hb]
  rw [hb] at q
  have Q9 := Lib.hid q
  clear q hb
  have R0 := Lib.hid fun W => rplace_lit 2101252 8192 128 (-1) (by decide +kernel) W
  have R1 := Lib.hid fun W => rplace_lit 2101252 2097152 4096 (-1) (by decide +kernel) W
  have R2 := Lib.hid fun W => rplace_lit 2101252 2097156 4096 (1) (by decide +kernel) W
  go_enter Try.func47, Try.ntmps47
  go_upto_region 1 with (fail)
  have X := Lib.hid (Own.new W h)
  generalize (W.alloc (plO h)).alloc zeroO = w0 at *
  go_wp2_with (first | (with_reducible refine wpList_load_by rfl rfl (Own.load X.out) rfl ?_) | (with_reducible refine wpList_load_by rfl rfl (Own.load_c X.out) rfl ?_) | (go_at_call 65; (with_reducible refine (R0.out _).mono ?_); rintro e w' ⟨rfl, rfl⟩) | (go_at_call 65; (with_reducible refine (R1.out _).mono ?_); rintro e w' ⟨rfl, rfl⟩) | (go_at_call 65; (with_reducible refine (R2.out _).mono ?_); rintro e w' ⟨rfl, rfl⟩) | (go_at_call 46; (with_reducible refine (Q9.out _).mono ?_); rintro e w2 ⟨rfl, k2⟩; have X := Lib.hid (X.out.next k2)) | (with_reducible refine wpList_store_ex rfl rfl (Own.store_c X.out _) rfl rfl ?_; intro wy hy; have X := Lib.hid hy; clear hy) | (with_reducible refine wpList_store_ex rfl rfl (Own.tell X.out rfl _) rfl rfl ?_; intro wy hy; have X := Lib.hid hy; clear hy) | fail)
  exact bodyPost_ret (v := .tuple #[plV ({ h with c := bits .or .u32 h.c (wt 2) }), .int .u64 (2), .bool true]) (results_three Try.results47 _ _ (W.heap.size + 1) _ _ _ rfl X.out.result rfl rfl) rfl ⟨rfl, X.out.below⟩
set_option maxRecDepth 100000 in
set_option maxHeartbeats 1000000 in
theorem rload_b1_3 (h : Pl) (s : Int) (hb : bestF h s 1 = 3) (W : World) : Calls Try.prog 47 #[plV h, .int .u32 s, .int .u64 203427844, .int .i64 4] W fun e W' => e = .returned (.tuple #[plV (ldF h s 203427844 4).1, .int .u64 (ldF h s 203427844 4).2.1, .bool (ldF h s 203427844 4).2.2]) ∧ Below W.heap.size W W' := by
  have q := rbest_any h s 1
  rw [ldF_b1, hb]
  rw [hb] at q
  have Q9 := Lib.hid q
  clear q hb
  have R0 := Lib.hid fun W => rplace_lit 2101252 8192 128 (-1) (by decide +kernel) W
  have R1 := Lib.hid fun W => rplace_lit 2101252 2097152 4096 (-1) (by decide +kernel) W
  have R2 := Lib.hid fun W => rplace_lit 2101252 2097156 4096 (1) (by decide +kernel) W
  go_enter Try.func47, Try.ntmps47
  go_upto_region 1 with (fail)
  have X := Lib.hid (Own.new W h)
  generalize (W.alloc (plO h)).alloc zeroO = w0 at *
  go_wp2_with (first | (with_reducible refine wpList_load_by rfl rfl (Own.load X.out) rfl ?_) | (with_reducible refine wpList_load_by rfl rfl (Own.load_c X.out) rfl ?_) | (go_at_call 65; (with_reducible refine (R0.out _).mono ?_); rintro e w' ⟨rfl, rfl⟩) | (go_at_call 65; (with_reducible refine (R1.out _).mono ?_); rintro e w' ⟨rfl, rfl⟩) | (go_at_call 65; (with_reducible refine (R2.out _).mono ?_); rintro e w' ⟨rfl, rfl⟩) | (go_at_call 46; (with_reducible refine (Q9.out _).mono ?_); rintro e w2 ⟨rfl, k2⟩; have X := Lib.hid (X.out.next k2)) | (with_reducible refine wpList_store_ex rfl rfl (Own.store_c X.out _) rfl rfl ?_; intro wy hy; have X := Lib.hid hy; clear hy) | (with_reducible refine wpList_store_ex rfl rfl (Own.tell X.out rfl _) rfl rfl ?_; intro wy hy; have X := Lib.hid hy; clear hy) | fail)
  exact bodyPost_ret (v := .tuple #[plV ({ h with c := bits .or .u32 h.c (wt 3) }), .int .u64 (3), .bool true]) (results_three Try.results47 _ _ (W.heap.size + 1) _ _ _ rfl X.out.result rfl rfl) rfl ⟨rfl, X.out.below⟩
theorem rload_b1 (h : Pl) (s : Int) (hc : U32 h.c) (W : World) : Calls Try.prog 47 #[plV h, .int .u32 s, .int .u64 203427844, .int .i64 4] W fun e W' => e = .returned (.tuple #[plV (ldF h s 203427844 4).1, .int .u64 (ldF h s 203427844 4).2.1, .bool (ldF h s 203427844 4).2.2]) ∧ Below W.heap.size W W' := by
  have r := best_range h s 1
  rcases (show bestF h s 1 = 0 ∨ bestF h s 1 = 1 ∨ bestF h s 1 = 2 ∨ bestF h s 1 = 3 by omega) with e | e | e | e
  · exact rload_b1_0 h s hc e W
  · exact rload_b1_1 h s e W
  · exact rload_b1_2 h s e W
  · exact rload_b1_3 h s e W
set_option maxRecDepth 100000 in
set_option maxHeartbeats 1000000 in
theorem rload_z1 (h : Pl) (s t z : Int) (hz : (z != 4) = true) (ht : ¬ t < 201326592) (W : World) : Calls Try.prog 47 #[plV h, .int .u32 s, .int .u64 t, .int .i64 z] W fun e W' => e = .returned (.tuple #[plV (ldF h s t z).1, .int .u64 (ldF h s t z).2.1, .bool (ldF h s t z).2.2]) ∧ Below W.heap.size W W' := by
  rw [ldF_none h s t z (.inl (by simpa using hz))]
  go_enter Try.func47, Try.ntmps47
  go_upto_region 1 with (fail)
  have X := Lib.hid (Own.new W h)
  generalize (W.alloc (plO h)).alloc zeroO = w0 at *
  go_wp2_with (first | (with_reducible refine wpList_store_ex rfl rfl (Own.zero X.out rfl) rfl rfl ?_; intro wy hy; have X := Lib.hid hy; clear hy) | fail)
  exact bodyPost_ret (v := .tuple #[plV (zeroP), .int .u64 (0), .bool false]) (results_three Try.results47 _ _ (W.heap.size + 1) _ _ _ rfl X.out.result rfl rfl) rfl ⟨rfl, X.out.below⟩
set_option maxRecDepth 100000 in
set_option maxHeartbeats 1000000 in
theorem rload_z2 (h : Pl) (s t z : Int) (ht : t < 201326592) (hl : ldF h s t z = (zeroP, 0, false)) (W : World) : Calls Try.prog 47 #[plV h, .int .u32 s, .int .u64 t, .int .i64 z] W fun e W' => e = .returned (.tuple #[plV (ldF h s t z).1, .int .u64 (ldF h s t z).2.1, .bool (ldF h s t z).2.2]) ∧ Below W.heap.size W W' := by
  rw [hl]
  go_enter Try.func47, Try.ntmps47
  go_upto_region 1 with (fail)
  have X := Lib.hid (Own.new W h)
  generalize (W.alloc (plO h)).alloc zeroO = w0 at *
  go_wp2_with (first | (with_reducible refine wpList_store_ex rfl rfl (Own.zero X.out rfl) rfl rfl ?_; intro wy hy; have X := Lib.hid hy; clear hy) | fail)
  exact bodyPost_ret (v := .tuple #[plV (zeroP), .int .u64 (0), .bool false]) (results_three Try.results47 _ _ (W.heap.size + 1) _ _ _ rfl X.out.result rfl rfl) rfl ⟨rfl, X.out.below⟩
set_option maxRecDepth 100000 in
set_option maxHeartbeats 1000000 in
theorem rload_na (h : Pl) (s o : Int) (ho : 0 ≤ o ∧ o < 18446744073508225024) (hx : o < 4) (hn : NoPlace (201326592 + o)) (W : World) : Calls Try.prog 47 #[plV h, .int .u32 s, .int .u64 (201326592 + o), .int .i64 4] W fun e W' => e = .returned (.tuple #[plV (ldF h s (201326592 + o) 4).1, .int .u64 (ldF h s (201326592 + o) 4).2.1, .bool (ldF h s (201326592 + o) 4).2.2]) ∧ Below W.heap.size W W' := by
  rw [ldF_none h s _ 4 (.inr hn)]
  have hw : IntKind.u64.wrap (201326592 + o - 201326592) = o := by rw [IntKind.wrap_u64]; omega
  have n4 : ¬ o = 4 := by have := hn.n_p1; omega
  have n8 : ¬ o = 8 := by have := hn.n_p2; omega
  have n12 : ¬ o = 12 := by have := hn.n_p3; omega
  have n4096 : ¬ o = 4096 := by have := hn.n_wait; omega
  have n8192 : ¬ o = 8192 := by have := hn.n_e0; omega
  have n8320 : ¬ o = 8320 := by have := hn.n_e1; omega
  have n2097152 : ¬ o = 2097152 := by have := hn.n_l0; omega
  have n2101248 : ¬ o = 2101248 := by have := hn.n_l1; omega
  have n2097156 : ¬ o = 2097156 := by have := hn.n_b0; omega
  have n2101252 : ¬ o = 2101252 := by have := hn.n_b1; omega
  have r0 : rplV o 8192 128 = -1 := by unfold rplV; rw [if_neg (by simp only [beq_iff_eq]; omega), if_neg (by simp only [beq_iff_eq, IntKind.wrap_u64]; omega)]
  have R0 := Lib.hid fun W => rplace_lit o 8192 128 (-1) r0 W
  have r1 : rplV o 2097152 4096 = -1 := by unfold rplV; rw [if_neg (by simp only [beq_iff_eq]; omega), if_neg (by simp only [beq_iff_eq, IntKind.wrap_u64]; omega)]
  have R1 := Lib.hid fun W => rplace_lit o 2097152 4096 (-1) r1 W
  have r2 : rplV o 2097156 4096 = -1 := by unfold rplV; rw [if_neg (by simp only [beq_iff_eq]; omega), if_neg (by simp only [beq_iff_eq, IntKind.wrap_u64]; omega)]
  have R2 := Lib.hid fun W => rplace_lit o 2097156 4096 (-1) r2 W
  have h0 : ¬ 201326592 + o < 201326592 := by omega
  clear n4 n8 n12 n8192 n8320 n2097152 n2101248 n2097156 n2101252 r0 r1 r2
  go_enter Try.func47, Try.ntmps47
  go_upto_region 1 with (fail)
  have X := Lib.hid (Own.new W h)
  generalize (W.alloc (plO h)).alloc zeroO = w0 at *
  go_wp2_with (first | (go_at_call 65; (with_reducible refine (R0.out _).mono ?_); rintro e w' ⟨rfl, rfl⟩) | (go_at_call 65; (with_reducible refine (R1.out _).mono ?_); rintro e w' ⟨rfl, rfl⟩) | (go_at_call 65; (with_reducible refine (R2.out _).mono ?_); rintro e w' ⟨rfl, rfl⟩) | (with_reducible refine wpList_store_ex rfl rfl (Own.zero X.out rfl) rfl rfl ?_; intro wy hy; have X := Lib.hid hy; clear hy) | fail)
  exact bodyPost_ret (v := .tuple #[plV (zeroP), .int .u64 (0), .bool false]) (results_three Try.results47 _ _ (W.heap.size + 1) _ _ _ rfl X.out.result rfl rfl) rfl ⟨rfl, X.out.below⟩
set_option maxRecDepth 100000 in
set_option maxHeartbeats 1000000 in
theorem rload_nb (h : Pl) (s o : Int) (ho : 0 ≤ o ∧ o < 18446744073508225024) (hx : 12 < o) (hn : NoPlace (201326592 + o)) (W : World) : Calls Try.prog 47 #[plV h, .int .u32 s, .int .u64 (201326592 + o), .int .i64 4] W fun e W' => e = .returned (.tuple #[plV (ldF h s (201326592 + o) 4).1, .int .u64 (ldF h s (201326592 + o) 4).2.1, .bool (ldF h s (201326592 + o) 4).2.2]) ∧ Below W.heap.size W W' := by
  rw [ldF_none h s _ 4 (.inr hn)]
  have hw : IntKind.u64.wrap (201326592 + o - 201326592) = o := by rw [IntKind.wrap_u64]; omega
  have n4 : ¬ o = 4 := by have := hn.n_p1; omega
  have n8 : ¬ o = 8 := by have := hn.n_p2; omega
  have n12 : ¬ o = 12 := by have := hn.n_p3; omega
  have n4096 : ¬ o = 4096 := by have := hn.n_wait; omega
  have n8192 : ¬ o = 8192 := by have := hn.n_e0; omega
  have n8320 : ¬ o = 8320 := by have := hn.n_e1; omega
  have n2097152 : ¬ o = 2097152 := by have := hn.n_l0; omega
  have n2101248 : ¬ o = 2101248 := by have := hn.n_l1; omega
  have n2097156 : ¬ o = 2097156 := by have := hn.n_b0; omega
  have n2101252 : ¬ o = 2101252 := by have := hn.n_b1; omega
  have r0 : rplV o 8192 128 = -1 := by unfold rplV; rw [if_neg (by simp only [beq_iff_eq]; omega), if_neg (by simp only [beq_iff_eq, IntKind.wrap_u64]; omega)]
  have R0 := Lib.hid fun W => rplace_lit o 8192 128 (-1) r0 W
  have r1 : rplV o 2097152 4096 = -1 := by unfold rplV; rw [if_neg (by simp only [beq_iff_eq]; omega), if_neg (by simp only [beq_iff_eq, IntKind.wrap_u64]; omega)]
  have R1 := Lib.hid fun W => rplace_lit o 2097152 4096 (-1) r1 W
  have r2 : rplV o 2097156 4096 = -1 := by unfold rplV; rw [if_neg (by simp only [beq_iff_eq]; omega), if_neg (by simp only [beq_iff_eq, IntKind.wrap_u64]; omega)]
  have R2 := Lib.hid fun W => rplace_lit o 2097156 4096 (-1) r2 W
  have h0 : ¬ 201326592 + o < 201326592 := by omega
  clear n4 n8 n12 n8192 n8320 n2097152 n2101248 n2097156 n2101252 r0 r1 r2
  go_enter Try.func47, Try.ntmps47
  go_upto_region 1 with (fail)
  have X := Lib.hid (Own.new W h)
  generalize (W.alloc (plO h)).alloc zeroO = w0 at *
  go_wp2_with (first | (go_at_call 65; (with_reducible refine (R0.out _).mono ?_); rintro e w' ⟨rfl, rfl⟩) | (go_at_call 65; (with_reducible refine (R1.out _).mono ?_); rintro e w' ⟨rfl, rfl⟩) | (go_at_call 65; (with_reducible refine (R2.out _).mono ?_); rintro e w' ⟨rfl, rfl⟩) | (with_reducible refine wpList_store_ex rfl rfl (Own.zero X.out rfl) rfl rfl ?_; intro wy hy; have X := Lib.hid hy; clear hy) | fail)
  exact bodyPost_ret (v := .tuple #[plV (zeroP), .int .u64 (0), .bool false]) (results_three Try.results47 _ _ (W.heap.size + 1) _ _ _ rfl X.out.result rfl rfl) rfl ⟨rfl, X.out.below⟩
set_option maxRecDepth 100000 in
set_option maxHeartbeats 1000000 in
theorem rload_nc (h : Pl) (s o : Int) (ho : 0 ≤ o ∧ o < 18446744073508225024) (hx : ¬ o < 4) (hy : ¬ 12 < o) (hn : NoPlace (201326592 + o)) (W : World) : Calls Try.prog 47 #[plV h, .int .u32 s, .int .u64 (201326592 + o), .int .i64 4] W fun e W' => e = .returned (.tuple #[plV (ldF h s (201326592 + o) 4).1, .int .u64 (ldF h s (201326592 + o) 4).2.1, .bool (ldF h s (201326592 + o) 4).2.2]) ∧ Below W.heap.size W W' := by
  rw [ldF_none h s _ 4 (.inr hn)]
  have hw : IntKind.u64.wrap (201326592 + o - 201326592) = o := by rw [IntKind.wrap_u64]; omega
  have n4 : ¬ o = 4 := by have := hn.n_p1; omega
  have n8 : ¬ o = 8 := by have := hn.n_p2; omega
  have n12 : ¬ o = 12 := by have := hn.n_p3; omega
  have n4096 : ¬ o = 4096 := by have := hn.n_wait; omega
  have n8192 : ¬ o = 8192 := by have := hn.n_e0; omega
  have n8320 : ¬ o = 8320 := by have := hn.n_e1; omega
  have n2097152 : ¬ o = 2097152 := by have := hn.n_l0; omega
  have n2101248 : ¬ o = 2101248 := by have := hn.n_l1; omega
  have n2097156 : ¬ o = 2097156 := by have := hn.n_b0; omega
  have n2101252 : ¬ o = 2101252 := by have := hn.n_b1; omega
  have r0 : rplV o 8192 128 = -1 := by unfold rplV; rw [if_neg (by simp only [beq_iff_eq]; omega), if_neg (by simp only [beq_iff_eq, IntKind.wrap_u64]; omega)]
  have R0 := Lib.hid fun W => rplace_lit o 8192 128 (-1) r0 W
  have r1 : rplV o 2097152 4096 = -1 := by unfold rplV; rw [if_neg (by simp only [beq_iff_eq]; omega), if_neg (by simp only [beq_iff_eq, IntKind.wrap_u64]; omega)]
  have R1 := Lib.hid fun W => rplace_lit o 2097152 4096 (-1) r1 W
  have r2 : rplV o 2097156 4096 = -1 := by unfold rplV; rw [if_neg (by simp only [beq_iff_eq]; omega), if_neg (by simp only [beq_iff_eq, IntKind.wrap_u64]; omega)]
  have R2 := Lib.hid fun W => rplace_lit o 2097156 4096 (-1) r2 W
  have h0 : ¬ 201326592 + o < 201326592 := by omega
  have hm : (o % 4 == 0) = false := by rw [beq_eq_false_iff_ne]; omega
  have hp : 4 ≤ o := by omega
  have hq : o ≤ 12 := by omega
  clear n4 n8 n12 n8192 n8320 n2097152 n2101248 n2097156 n2101252 r0 r1 r2
  go_enter Try.func47, Try.ntmps47
  go_upto_region 1 with (fail)
  have X := Lib.hid (Own.new W h)
  generalize (W.alloc (plO h)).alloc zeroO = w0 at *
  go_wp2_with (first | (go_at_call 65; (with_reducible refine (R0.out _).mono ?_); rintro e w' ⟨rfl, rfl⟩) | (go_at_call 65; (with_reducible refine (R1.out _).mono ?_); rintro e w' ⟨rfl, rfl⟩) | (go_at_call 65; (with_reducible refine (R2.out _).mono ?_); rintro e w' ⟨rfl, rfl⟩) | (with_reducible refine wpList_store_ex rfl rfl (Own.zero X.out rfl) rfl rfl ?_; intro wy hy; have X := Lib.hid hy; clear hy) | fail)
  exact bodyPost_ret (v := .tuple #[plV (zeroP), .int .u64 (0), .bool false]) (results_three Try.results47 _ _ (W.heap.size + 1) _ _ _ rfl X.out.result rfl rfl) rfl ⟨rfl, X.out.below⟩
theorem rload_any (h : Pl) (s t z : Int) (hc : U32 h.c) (ht : 0 ≤ t ∧ t < 18446744073709551616) (W : World) : Calls Try.prog 47 #[plV h, .int .u32 s, .int .u64 t, .int .i64 z] W fun e W' => e = .returned (.tuple #[plV (ldF h s t z).1, .int .u64 (ldF h s t z).2.1, .bool (ldF h s t z).2.2]) ∧ Below W.heap.size W W' := by
  by_cases hb : t < 201326592
  · refine rload_z2 h s t z hb (ldF_none h s t z (.inr ⟨by omega, by omega, by omega, by omega, by omega, by omega, by omega, by omega, by omega, by omega⟩)) W
  by_cases hz : z = 4
  · subst hz
    by_cases h_p1 : t = 201326596
    · subst h_p1; exact rload_p1 h s W
    by_cases h_p2 : t = 201326600
    · subst h_p2; exact rload_p2 h s W
    by_cases h_p3 : t = 201326604
    · subst h_p3; exact rload_p3 h s W
    by_cases h_wait : t = 201330688
    · subst h_wait; exact rload_wait h s W
    by_cases h_e0 : t = 201334784
    · subst h_e0; exact rload_e0 h s W
    by_cases h_e1 : t = 201334912
    · subst h_e1; exact rload_e1 h s W
    by_cases h_l0 : t = 203423744
    · subst h_l0; exact rload_l0 h s W
    by_cases h_l1 : t = 203427840
    · subst h_l1; exact rload_l1 h s W
    by_cases h_b0 : t = 203423748
    · subst h_b0; exact rload_b0 h s hc W
    by_cases h_b1 : t = 203427844
    · subst h_b1; exact rload_b1 h s hc W
    have hn : NoPlace t := ⟨h_p1, h_p2, h_p3, h_wait, h_e0, h_e1, h_l0, h_l1, h_b0, h_b1⟩
    have e : t = 201326592 + (t - 201326592) := by omega
    generalize t - 201326592 = o at e
    subst e
    by_cases hx : o < 4
    · exact rload_na h s o (by omega) hx hn W
    by_cases hy : 12 < o
    · exact rload_nb h s o (by omega) hy hn W
    · exact rload_nc h s o (by omega) hx hy hn W
  · exact rload_z1 h s t z (by simpa using hz) hb W

end Go.Proofs.Ytnedhjaphfjdmaa.Pc
