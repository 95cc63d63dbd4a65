/- DevLooks walked. -/
import Derived.Test.YtmbaimcneffnlaaU
import Derived.Test.YtmbaimcneffnlaaR
import Derived.BigQuiet
namespace Go.Proofs.Ytmbaimcneffnlaa
open Go.RowKit Go.Deep Go.Joins

end Go.Proofs.Ytmbaimcneffnlaa
namespace Go
theorem calls_told {P : Program} {f : FuncId} {args : Array Value} {w : World} {v : Value} (h : Calls P f args w fun e w' => e = .returned v ∧ RowKit.Below w.heap.size w w') : Calls P f args w fun e w' => ∃ u, e = .returned u ∧ (u = v ∧ RowKit.Below w.heap.size w w') := h.mono fun _ _ h => ⟨v, h.1, rfl, h.2⟩

end Go
namespace Go.Proofs.Ytmbaimcneffnlaa
open Go.RowKit Go.Deep Go.Joins
theorem eq_string (d : Nat) (t : TypeId) (s : ByteArray) (w : World) (h : Try.prog.underlying t = some .string) : (Op.equalIn (d + 1) t (.string s) (.string s)).run Try.prog w = .ok true w := by
  rw [run_equalIn_string w d t s s h]
  simp
theorem eq_eff (k : Int) (s : ByteArray) (w : World) : (Op.equalIn 10000 42 (effV k s) (effV k s)).run Try.prog w = .ok true w := by
  rw [run_equalIn_struct w 9999 42 _ _ (by kernel_rfl) (by kernel_rfl)]
  refine eqFields_refl _ _ _ _ fun f hf => ?_
  have hm : (f.type, f.offset) ∈ (Try.prog.fieldsOf 42).toList.map (fun f => (f.type, f.offset)) := List.mem_map_of_mem hf
  rw [fields42] at hm
  simp only [List.mem_cons, List.not_mem_nil, or_false, Prod.mk.injEq] at hm
  rcases hm with ⟨e1, e2⟩ | ⟨e1, e2⟩
  all_goals rw [e1, e2]
  · exact ⟨_, part_cell 3 _ _ 0 _ w Try.underlying3 rfl rfl, eq_int 9998 3 .i64 _ w Try.underlying3⟩
  · exact ⟨_, part_cell 9 _ _ 1 _ w Try.underlying9 rfl rfl, eq_string 9998 9 _ w Try.underlying9⟩
theorem exec_eff {ρ : Operand → Value} {o : Oper} {x y : Operand} {t2 : TypeId} (k : Int) (s : ByteArray) (w : World) (ho : o.op = .binOp .eql 42 x y t2) (hx : ρ x = effV k s) (hy : ρ y = effV k s) : (execOp ρ o).run Try.prog w = .ok (.value (.bool true)) w := by
  unfold execOp
  simp [ho, hx, hy, Sem.run_bind, run_eqGuard_agg, run_eql_struct, eq_eff, Result.andThen]
theorem calls_copied {f : FuncId} {args : Array Value} {w : World} {b : Bd} {F : List ByteArray} (h : Calls Try.prog f args w (Copied w b F)) : Calls Try.prog f args w fun e w' => ∃ u, e = .returned u ∧ (∃ p c, u = bdV (b.at p F.length c) ∧ OwnF w' w.heap.size (.slice p F.length c) F ∧ Below w.heap.size w w') :=
  h.mono fun _ _ ⟨p, c, he, ho, hb⟩ => ⟨_, he, p, c, rfl, ho, hb⟩
set_option maxRecDepth 100000 in
set_option maxHeartbeats 2000000 in
theorem looks_walk (b xb sb : Bd) (F xF sF : List ByteArray) (t s v n num k : Int) (rg ok ok2 : Bool) (u cl : Int) (es : ByteArray) (W : World)
    (c8 : RowKit.Hid (∀ W', Below W.heap.size W W' → Calls Try.prog 8 #[bdV b] W' fun e W'' => e = .returned (.bool rg) ∧ Below W'.heap.size W' W''))
    (c9 : RowKit.Hid (∀ W', Below W.heap.size W W' → Calls Try.prog 9 #[bdV b] W' fun e W'' => e = .returned (.bool rg) ∧ Below W'.heap.size W' W''))
    (c10 : RowKit.Hid (∀ W', Below W.heap.size W W' → Calls Try.prog 10 #[bdV b] W' fun e W'' => e = .returned (.int .u32 u) ∧ Below W'.heap.size W' W''))
    (c11 : RowKit.Hid (∀ W', Below W.heap.size W W' → Calls Try.prog 11 #[bdV b] W' fun e W'' => e = .returned (.int .u32 u) ∧ Below W'.heap.size W' W''))
    (c12 : RowKit.Hid (∀ W', Below W.heap.size W W' → Calls Try.prog 12 #[bdV b, .int .u64 n] W' fun e W'' => e = .returned (.int .u64 cl) ∧ Below W'.heap.size W' W''))
    (c13 : RowKit.Hid (∀ W', Below W.heap.size W W' → Calls Try.prog 13 #[bdV b, .int .u64 n] W' fun e W'' => e = .returned (.int .u64 cl) ∧ Below W'.heap.size W' W''))
    (c14 : RowKit.Hid (∀ W', Below W.heap.size W W' → Calls Try.prog 14 #[bdV b] W' (Copied W' b F)))
    (c15 : RowKit.Hid (∀ W' p c, FAt W' (.slice p F.length c) F → Calls Try.prog 15 #[bdV (b.at p F.length c), .int .u64 t, .int .i64 s, .int .u64 n] W' (Told W' xb xF (fun x => .tuple #[x, .int .u64 num, .bool ok]))))
    (c16 : RowKit.Hid (∀ W', Below W.heap.size W W' → Calls Try.prog 16 #[bdV b, .int .u64 t, .int .i64 s, .int .u64 n] W' (Told W' xb xF (fun x => .tuple #[x, .int .u64 num, .bool ok]))))
    (c18 : RowKit.Hid (∀ W' p c, FAt W' (.slice p F.length c) F → Calls Try.prog 18 #[bdV (b.at p F.length c), .int .u64 t, .int .i64 s, .int .u64 v] W' (Told W' sb sF (fun x => .tuple #[x, effV k es, .bool ok2]))))
    (c19 : RowKit.Hid (∀ W', Below W.heap.size W W' → Calls Try.prog 19 #[bdV b, .int .u64 t, .int .i64 s, .int .u64 v] W' (Told W' sb sF (fun x => .tuple #[x, effV k es, .bool ok2]))))
    (c20 : RowKit.Hid (∀ W' p c, FAt W' (.slice p F.length c) F → Calls Try.prog 20 #[bdV (b.at p F.length c)] W' (Copied W' b F)))
    (cs : RowKit.Hid (∀ W' p c, FAt W' (.slice p F.length c) F → Below W.heap.size W W' → Calls Try.prog 17 #[bdV (b.at p F.length c), bdV b] W' fun e W'' => e = .returned (.bool true) ∧ Below W'.heap.size W' W'')) :
    Calls Try.prog 3 #[bdV b, .agg (lookC t s v), .int .u64 n] W fun e W' => e = .returned (.bool true) ∧ Below W.heap.size W W' := by
  have h0 := ((Mem.start W).new (bdC b) 30 (by decide)).new (lookC t s v) 32 (by decide)
  rw [World.size_alloc] at h0
  have X := Lib.hid h0
  clear h0
  go_enter Try.func3, Try.ntmps3
  go_upto_region 1 with (fail)
  generalize (W.alloc (bdO b)).alloc (Obj.cells _ 32) = w0 at *
  have hne : Nonempty (Near w0) := ⟨⟨w0, Below.refl _ _⟩⟩
  have HB := Lib.hid (fun (p : Near w0) => below_then X.out.below p.near)
  refine wp_region_near (by kernel_rfl) (by kernel_rfl) ?_
  repeat (first | (go_big_quiet_want; (with_reducible refine quiet_by _ (fun w hw => exec_load (t := 30) rfl (near_load X.out.b1 w hw) rfl) ?_); simp only [Act.put, List.setIfInBounds_toArray, List.set_cons_zero, List.set_cons_succ]; go_big_quiet_on) | go_big_quiet_step (first | (go_at_call 7; exact near_call (awake_any _)) | (go_at_call 8; exact near_call (c8.out _ (HB.out _))) | (go_at_call 9; exact near_call (c9.out _ (HB.out _))) | (go_at_call 10; exact near_call (c10.out _ (HB.out _))) | (go_at_call 11; exact near_call (c11.out _ (HB.out _))) | (go_at_call 12; exact near_call (c12.out _ (HB.out _))) | (go_at_call 13; exact near_call (c13.out _ (HB.out _)))))
  refine wpQuiet_nil ?_
  rintro _ ⟨pn, rfl⟩
  replace X := Lib.hid (X.out.next pn.near)
  clear hne HB
  generalize pn.wx = w1 at X ⊢
  go_upto_region 4 with (first | (with_reducible refine wpList_load_by rfl rfl (Box.load X.out.b1) rfl ?_) | (go_at_call 14; (with_reducible refine (c14.out _ X.out.below).mono ?_); rintro e w2 ⟨p2, cc2, rfl, ho, kk⟩; have X := Lib.hid (((X.out.next kk).addrow ho X.out.below.size (by decide)).newZ); clear ho kk) | (with_reducible refine w_box X.out.b0 rfl rfl rfl rfl ?_; intro wy hwy; have X := Lib.hid (X.out.p0 hwy); clear hwy) | fail)
  go_upto_region 5 with (first | (with_reducible refine wpList_load_by rfl rfl (Box.load X.out.b0) rfl ?_) | (with_reducible refine wpList_load_by rfl rfl (LK0 X.out.g1) rfl ?_) | (with_reducible refine wpList_load_by rfl rfl (LK1 X.out.g1) rfl ?_) | (with_reducible refine wpList_load_by rfl rfl (LK2 X.out.g1) rfl ?_) | (with_reducible refine wpList_load_by rfl rfl (LK0 X.out.g2) rfl ?_) | (with_reducible refine wpList_load_by rfl rfl (LK1 X.out.g2) rfl ?_) | (with_reducible refine wpList_load_by rfl rfl (LK2 X.out.g2) rfl ?_) | (go_at_call 15; (with_reducible refine (c15.out _ _ _ (FAt.of X.out.r0)).mono ?_); rintro e w3 ⟨p3, cc3, rfl, ho, kk⟩; have X := Lib.hid (((X.out.next kk).addrow ho X.out.below.size (by decide)).newZ); clear ho kk) | (with_reducible refine w_box X.out.b0 rfl rfl rfl rfl ?_; intro wy hwy; have X := Lib.hid (X.out.p0 hwy); clear hwy) | fail)
  go_upto_region 6 with (first | (with_reducible refine wpList_load_by rfl rfl (Box.load X.out.b3) rfl ?_) | (with_reducible refine wpList_load_by rfl rfl (LK0 X.out.g2) rfl ?_) | (with_reducible refine wpList_load_by rfl rfl (LK1 X.out.g2) rfl ?_) | (with_reducible refine wpList_load_by rfl rfl (LK2 X.out.g2) rfl ?_) | (with_reducible refine wpList_load_by rfl rfl (LK0 X.out.g3) rfl ?_) | (with_reducible refine wpList_load_by rfl rfl (LK1 X.out.g3) rfl ?_) | (with_reducible refine wpList_load_by rfl rfl (LK2 X.out.g3) rfl ?_) | (go_at_call 16; (with_reducible refine (c16.out _ X.out.below).mono ?_); rintro e w4 ⟨p4, cc4, rfl, ho, kk⟩; have X := Lib.hid (((X.out.next kk).addrow ho X.out.below.size (by decide)).newZ); clear ho kk) | (with_reducible refine w_box X.out.b0 rfl rfl rfl rfl ?_; intro wy hwy; have X := Lib.hid (X.out.p0 hwy); clear hwy) | fail)
  go_upto_region 8 with (first | (with_reducible refine wpList_load_by rfl rfl (Box.load X.out.b1) rfl ?_) | (with_reducible refine wpList_load_by rfl rfl (Box.load X.out.b0) rfl ?_) | (go_at_call 17; (with_reducible refine (same_any _ _ _ _ _ _ _ _ (FAt.of X.out.r1) (FAt.of X.out.r0)).mono ?_); rintro e ws ⟨rfl, kk⟩; have X := Lib.hid (X.out.next kk); clear kk) | fail)
  go_upto_region 9 with (first | (with_reducible refine wpList_load_by rfl rfl (Box.load X.out.b2) rfl ?_) | (with_reducible refine wpList_load_by rfl rfl (LK0 X.out.g3) rfl ?_) | (with_reducible refine wpList_load_by rfl rfl (LK1 X.out.g3) rfl ?_) | (with_reducible refine wpList_load_by rfl rfl (LK2 X.out.g3) rfl ?_) | (go_at_call 18; (with_reducible refine (c18.out _ _ _ (FAt.of X.out.r2)).mono ?_); rintro e w5 ⟨p5, cc5, rfl, ho, kk⟩; have X := Lib.hid (((X.out.next kk).addrow ho X.out.below.size (by decide)).newE); clear ho kk) | (with_reducible refine w_box X.out.b2 rfl rfl rfl rfl ?_; intro wy hwy; have X := Lib.hid (X.out.p2 hwy); clear hwy) | (with_reducible refine EBox.w_all X.out.e0 rfl rfl rfl rfl ?_; intro wy hwy; have X := Lib.hid (X.out.p0 hwy); clear hwy) | fail)
  go_upto_region 10 with (first | (with_reducible refine wpList_load_by rfl rfl (Box.load X.out.b5) rfl ?_) | (with_reducible refine wpList_load_by rfl rfl (LK0 X.out.g4) rfl ?_) | (with_reducible refine wpList_load_by rfl rfl (LK1 X.out.g4) rfl ?_) | (with_reducible refine wpList_load_by rfl rfl (LK2 X.out.g4) rfl ?_) | (with_reducible refine wpList_load_by rfl rfl (LK0 X.out.g5) rfl ?_) | (with_reducible refine wpList_load_by rfl rfl (LK1 X.out.g5) rfl ?_) | (with_reducible refine wpList_load_by rfl rfl (LK2 X.out.g5) rfl ?_) | (go_at_call 19; (with_reducible refine (c19.out _ X.out.below).mono ?_); rintro e w6 ⟨p6, cc6, rfl, ho, kk⟩; have X := Lib.hid (((X.out.next kk).addrow ho X.out.below.size (by decide)).newE); clear ho kk) | (with_reducible refine w_box X.out.b2 rfl rfl rfl rfl ?_; intro wy hwy; have X := Lib.hid (X.out.p2 hwy); clear hwy) | (with_reducible refine EBox.w_all X.out.e0 rfl rfl rfl rfl ?_; intro wy hwy; have X := Lib.hid (X.out.p0 hwy); clear hwy) | fail)
  refine wp_region_held (S := fun w => Below wy.heap.size wy w) (by kernel_rfl) ?_
  have hd : { wy with drawn := wy.drawn + 1 } = wy.drew := rfl
  rw [hd]
  clear hd
  have hS : Below wy.heap.size wy wy.drew := (Below.refl _ _).drew
  have X0 := X
  replace X := Lib.hid (X.out.next hS)
  generalize wy.drew = wz at X hS ⊢
  refine wpAnyH_take (i := 0) (oi := ⟨some 103, Op.load 30 (.tmp 8), _, _, _, _⟩) (v := _) rfl (by kernel_rfl) (by kernel_rfl) (by kernel_rfl) (fun _ _ _ h => h) (yields_loadw (by kernel_rfl) rfl rfl (fun w hw => (X0.out.b3.next hw).load)) hS ?_
  simp only [Act.put, List.setIfInBounds_toArray, List.set_cons_zero, List.set_cons_succ]
  refine wpAnyH_take (i := 1) (oi := ⟨some 104, Op.load 30 (.tmp 11), _, _, _, _⟩) (v := _) rfl (by kernel_rfl) (by kernel_rfl) (by kernel_rfl) (fun _ _ _ h => h) (yields_loadw (by kernel_rfl) rfl rfl (fun w hw => (X0.out.b2.next hw).load)) hS ?_
  simp only [Act.put, List.setIfInBounds_toArray, List.set_cons_zero, List.set_cons_succ]
  refine held_calls (i := 2) (o := ⟨some 105, Op.call { callee := .value (.func 17), args := #[.tmp 103, .tmp 104], argTypes := #[30, 30] }, _, _, _, _⟩) (by kernel_rfl) rfl (by kernel_rfl) (by go_simp) (calls_told (same_any sb _ _ _ _ _ _ sF (FAt.of X.out.r1) (FAt.of X.out.r0))) ?_
  rintro v' w' ⟨hv', kk⟩
  subst hv'
  refine ⟨below_then hS kk, fun hS' => ?_⟩
  replace X := Lib.hid (X.out.next kk)
  clear hS kk
  have hS := hS'
  clear hS'
  simp only [Act.put, List.setIfInBounds_toArray, List.set_cons_zero, List.set_cons_succ]
  refine wpAnyH_take (i := 3) (oi := ⟨some 106, Op.move (.tmp 105), _, _, _, _⟩) (v := ?_) rfl (by kernel_rfl) (by kernel_rfl) (by kernel_rfl) (fun _ _ _ h => h) (Or.inl ⟨by rfl, ?_⟩) hS ?_
  rotate_left
  · (intro w hSw; (try dsimp only at hSw); go_simp; try with_reducible rfl)
  simp only [Act.put, List.setIfInBounds_toArray, List.set_cons_zero, List.set_cons_succ]
  refine wpAnyH_take (i := 4) (oi := ⟨some 107, Op.load 42 (.tmp 14), _, _, _, _⟩) (v := _) rfl (by kernel_rfl) (by kernel_rfl) (by kernel_rfl) (fun _ _ _ h => h) (yields_loadw (by kernel_rfl) rfl rfl (fun w hw => (X0.out.e1.next hw).load)) hS ?_
  simp only [Act.put, List.setIfInBounds_toArray, List.set_cons_zero, List.set_cons_succ]
  refine wpAnyH_take (i := 5) (oi := ⟨some 108, Op.load 42 (.tmp 15), _, _, _, _⟩) (v := _) rfl (by kernel_rfl) (by kernel_rfl) (by kernel_rfl) (fun _ _ _ h => h) (yields_loadw (by kernel_rfl) rfl rfl (fun w hw => (X0.out.e0.next hw).load)) hS ?_
  simp only [Act.put, List.setIfInBounds_toArray, List.set_cons_zero, List.set_cons_succ]
  refine wpAnyH_take (i := 6) (oi := ⟨some 109, Op.binOp .eql 42 (.tmp 107) (.tmp 108) 42, _, _, _, _⟩) (v := _) rfl (by kernel_rfl) (by kernel_rfl) (by kernel_rfl) (fun _ _ _ h => h) (.inl ⟨by kernel_rfl, fun w _ => exec_eff k es w rfl rfl rfl⟩) hS ?_
  simp only [Act.put, List.setIfInBounds_toArray, List.set_cons_zero, List.set_cons_succ]
  refine wpAnyH_take (i := 7) (oi := ⟨some 110, Op.pick (.tmp 106) (.tmp 109) (.const (.bool false)), _, _, _, _⟩) (v := ?_) rfl (by kernel_rfl) (by kernel_rfl) (by kernel_rfl) (fun _ _ _ h => h) (Or.inl ⟨by rfl, ?_⟩) hS ?_
  rotate_left
  · (intro w hSw; (try dsimp only at hSw); go_simp; try with_reducible rfl)
  simp only [Act.put, List.setIfInBounds_toArray, List.set_cons_zero, List.set_cons_succ]
  refine wpAnyH_take (i := 8) (oi := ⟨some 111, Op.move (.tmp 110), _, _, _, _⟩) (v := ?_) rfl (by kernel_rfl) (by kernel_rfl) (by kernel_rfl) (fun _ _ _ h => h) (Or.inl ⟨by rfl, ?_⟩) hS ?_
  rotate_left
  · (intro w hSw; (try dsimp only at hSw); go_simp; try with_reducible rfl)
  simp only [Act.put, List.setIfInBounds_toArray, List.set_cons_zero, List.set_cons_succ]
  refine wpAnyH_take (i := 9) (oi := ⟨some 112, Op.move (.tmp 10), _, _, _, _⟩) (v := ?_) rfl (by kernel_rfl) (by kernel_rfl) (by kernel_rfl) (fun _ _ _ h => h) (Or.inl ⟨by rfl, ?_⟩) hS ?_
  rotate_left
  · (intro w hSw; (try dsimp only at hSw); go_simp; try with_reducible rfl)
  simp only [Act.put, List.setIfInBounds_toArray, List.set_cons_zero, List.set_cons_succ]
  refine wpAnyH_take (i := 10) (oi := ⟨some 113, Op.move (.tmp 13), _, _, _, _⟩) (v := ?_) rfl (by kernel_rfl) (by kernel_rfl) (by kernel_rfl) (fun _ _ _ h => h) (Or.inl ⟨by rfl, ?_⟩) hS ?_
  rotate_left
  · (intro w hSw; (try dsimp only at hSw); go_simp; try with_reducible rfl)
  simp only [Act.put, List.setIfInBounds_toArray, List.set_cons_zero, List.set_cons_succ]
  refine wpAnyH_take (i := 11) (oi := ⟨some 114, Op.binOp .eql 4 (.tmp 112) (.tmp 113) 4, _, _, _, _⟩) (v := ?_) rfl (by kernel_rfl) (by kernel_rfl) (by kernel_rfl) (fun _ _ _ h => h) (Or.inl ⟨by rfl, ?_⟩) hS ?_
  rotate_left
  · (intro w hSw; (try dsimp only at hSw); go_simp; try with_reducible rfl)
  simp only [Act.put, List.setIfInBounds_toArray, List.set_cons_zero, List.set_cons_succ]
  refine wpAnyH_take (i := 12) (oi := ⟨some 115, Op.pick (.tmp 111) (.tmp 114) (.const (.bool false)), _, _, _, _⟩) (v := ?_) rfl (by kernel_rfl) (by kernel_rfl) (by kernel_rfl) (fun _ _ _ h => h) (Or.inl ⟨by rfl, ?_⟩) hS ?_
  rotate_left
  · (intro w hSw; (try dsimp only at hSw); go_simp; try with_reducible rfl)
  simp only [Act.put, List.setIfInBounds_toArray, List.set_cons_zero, List.set_cons_succ]
  refine wpAnyH_take (i := 13) (oi := ⟨some 116, Op.move (.tmp 115), _, _, _, _⟩) (v := ?_) rfl (by kernel_rfl) (by kernel_rfl) (by kernel_rfl) (fun _ _ _ h => h) (Or.inl ⟨by rfl, ?_⟩) hS ?_
  rotate_left
  · (intro w hSw; (try dsimp only at hSw); go_simp; try with_reducible rfl)
  simp only [Act.put, List.setIfInBounds_toArray, List.set_cons_zero, List.set_cons_succ]
  refine wpAnyH_take (i := 14) (oi := ⟨some 117, Op.load 30 (.tmp 7), _, _, _, _⟩) (v := _) rfl (by kernel_rfl) (by kernel_rfl) (by kernel_rfl) (fun _ _ _ h => h) (yields_loadw (by kernel_rfl) rfl rfl (fun w hw => (X0.out.b4.next hw).load)) hS ?_
  simp only [Act.put, List.setIfInBounds_toArray, List.set_cons_zero, List.set_cons_succ]
  refine wpAnyH_take (i := 15) (oi := ⟨some 118, Op.load 30 (.tmp 3), _, _, _, _⟩) (v := _) rfl (by kernel_rfl) (by kernel_rfl) (by kernel_rfl) (fun _ _ _ h => h) (yields_loadw (by kernel_rfl) rfl rfl (fun w hw => (X0.out.b6.next hw).load)) hS ?_
  simp only [Act.put, List.setIfInBounds_toArray, List.set_cons_zero, List.set_cons_succ]
  refine held_calls (i := 16) (o := ⟨some 119, Op.call { callee := .value (.func 17), args := #[.tmp 117, .tmp 118], argTypes := #[30, 30] }, _, _, _, _⟩) (by kernel_rfl) rfl (by kernel_rfl) (by go_simp) (calls_told (cs.out _ _ _ (FAt.of X.out.r4) X.out.below)) ?_
  rintro v' w' ⟨hv', kk⟩
  subst hv'
  refine ⟨below_then hS kk, fun hS' => ?_⟩
  replace X := Lib.hid (X.out.next kk)
  clear hS kk
  have hS := hS'
  clear hS'
  simp only [Act.put, List.setIfInBounds_toArray, List.set_cons_zero, List.set_cons_succ]
  refine wpAnyH_take (i := 17) (oi := ⟨some 120, Op.pick (.tmp 116) (.tmp 119) (.const (.bool false)), _, _, _, _⟩) (v := ?_) rfl (by kernel_rfl) (by kernel_rfl) (by kernel_rfl) (fun _ _ _ h => h) (Or.inl ⟨by rfl, ?_⟩) hS ?_
  rotate_left
  · (intro w hSw; (try dsimp only at hSw); go_simp; try with_reducible rfl)
  simp only [Act.put, List.setIfInBounds_toArray, List.set_cons_zero, List.set_cons_succ]
  refine wpAnyH_take (i := 18) (oi := ⟨some 121, Op.move (.tmp 120), _, _, _, _⟩) (v := ?_) rfl (by kernel_rfl) (by kernel_rfl) (by kernel_rfl) (fun _ _ _ h => h) (Or.inl ⟨by rfl, ?_⟩) hS ?_
  rotate_left
  · (intro w hSw; (try dsimp only at hSw); go_simp; try with_reducible rfl)
  simp only [Act.put, List.setIfInBounds_toArray, List.set_cons_zero, List.set_cons_succ]
  refine wpAnyH_take (i := 19) (oi := ⟨some 122, Op.load 30 (.tmp 7), _, _, _, _⟩) (v := _) rfl (by kernel_rfl) (by kernel_rfl) (by kernel_rfl) (fun _ _ _ h => h) (yields_loadw (by kernel_rfl) rfl rfl (fun w hw => (X0.out.b4.next hw).load)) hS ?_
  simp only [Act.put, List.setIfInBounds_toArray, List.set_cons_zero, List.set_cons_succ]
  refine wpAnyH_take (i := 21) (oi := ⟨some 124, Op.load 30 (.tmp 3), _, _, _, _⟩) (v := _) rfl (by kernel_rfl) (by kernel_rfl) (by kernel_rfl) (fun _ _ _ h => h) (yields_loadw (by kernel_rfl) rfl rfl (fun w hw => (X0.out.b6.next hw).load)) hS ?_
  simp only [Act.put, List.setIfInBounds_toArray, List.set_cons_zero, List.set_cons_succ]
  refine held_calls (i := 20) (o := ⟨some 123, Op.call { callee := .value (.func 20), args := #[.tmp 122], argTypes := #[30] }, _, _, _, _⟩) (by kernel_rfl) rfl (by kernel_rfl) (by go_simp) (calls_copied (c20.out _ _ _ (FAt.of X.out.r4))) ?_
  rintro v' w' ⟨p9, cc9, hv', ho, kk⟩
  subst hv'
  refine ⟨below_then hS kk, fun hS' => ?_⟩
  replace X := Lib.hid ((X.out.next kk).addrow ho X.out.below.size (by decide))
  clear hS kk ho
  have hS := hS'
  clear hS'
  simp only [Act.put, List.setIfInBounds_toArray, List.set_cons_zero, List.set_cons_succ]
  refine held_calls (i := 22) (o := ⟨some 125, Op.call { callee := .value (.func 17), args := #[.tmp 123, .tmp 124], argTypes := #[30, 30] }, _, _, _, _⟩) (by kernel_rfl) rfl (by kernel_rfl) (by go_simp) (calls_told (cs.out _ _ _ (FAt.of X.out.r0) X.out.below)) ?_
  rintro v' w' ⟨hv', kk⟩
  subst hv'
  refine ⟨below_then hS kk, fun hS' => ?_⟩
  replace X := Lib.hid (X.out.next kk)
  clear hS kk
  have hS := hS'
  clear hS'
  simp only [Act.put, List.setIfInBounds_toArray, List.set_cons_zero, List.set_cons_succ]
  refine wpAnyH_take (i := 23) (oi := ⟨some 126, Op.pick (.tmp 121) (.tmp 125) (.const (.bool false)), _, _, _, _⟩) (v := ?_) rfl (by kernel_rfl) (by kernel_rfl) (by kernel_rfl) (fun _ _ _ h => h) (Or.inl ⟨by rfl, ?_⟩) hS ?_
  rotate_left
  · (intro w hSw; (try dsimp only at hSw); go_simp; try with_reducible rfl)
  simp only [Act.put, List.setIfInBounds_toArray, List.set_cons_zero, List.set_cons_succ]
  refine wpAnyH_take (i := 24) (oi := ⟨some 6, Op.assign (.tmp 126), _, _, _, _⟩) (v := ?_) rfl (by kernel_rfl) (by kernel_rfl) (by kernel_rfl) (fun _ _ _ h => h) (Or.inl ⟨by rfl, ?_⟩) hS ?_
  rotate_left
  · (intro w hSw; (try dsimp only at hSw); go_simp; try with_reducible rfl)
  simp only [Act.put, List.setIfInBounds_toArray, List.set_cons_zero, List.set_cons_succ]
  refine wpAnyH_done (by kernel_rfl) ?_ _
  go_wp2_with fail
  go_ret
  exact ⟨rfl, X.out.below⟩

end Go.Proofs.Ytmbaimcneffnlaa
