/- TrapTells walked. -/
import Derived.Test.YtbdoiomnoajnpaaMB
import Derived.Test.YtbdoiomnoajnpaaMC
import Derived.BigQuiet
namespace Go.Proofs.Ytbdoiomnoajnpaa
open Go.RowKit Go.Deep Go.Joins
theorem hartG : Try.prog.eqGuardType Try.prog.depth 27 = false := by kernel_rfl
/-- A world in which all that was there is as it was. -/
structure Near (w : World) where
  wx : World
  near : Below w.heap.size w wx
theorem wp_region_near {P : Program} {id : Nat} {Q : Exit → Act → World → Prop} {a : Act} {w : World} {l : List Oper} (hm : P.follows .mixedOrders = true) (hB : Region.lexB .any l.toArray = true)
    (h : wpQuiet P l.toArray (fun w' => ∃ p : Near w, w' = p.wx) (fun a' => ∀ w', (∃ p : Near w, w' = p.wx) → Q .normal a' w') l a) : (Code.region id l.toArray true).wp P Q a w :=
  wp_region_quiet (C := fun w' => ∃ p : Near w, w' = p.wx) hm hB ⟨⟨w.drew, (Below.refl _ _).drew⟩, rfl⟩ (by simpa using h)
theorem near_call {P : Program} {f : FuncId} {args : Array Value} {w : World} {p : Near w} {v : Value} (h : Calls P f args p.wx fun e w' => e = .returned v ∧ Below p.wx.heap.size p.wx w') :
    Calls P f args p.wx fun e w'' => e = .returned v ∧ ∃ p : Near w, w'' = p.wx :=
  h.mono fun _ _ ⟨he, hb⟩ => ⟨he, ⟨_, below_then p.near (Nat.le_refl _) hb⟩, rfl⟩
theorem quiet_by {P : Program} {a : Act} {C : World → Prop} {o : Oper} {K : Act → Prop} (r : Value) (hrun : ∀ w, C w → (execOp a.eval o).run P w = .ok (.value r) w) (hk : K (a.put o.dst r)) : o.quiet P a C K :=
  ⟨r, fun w hw => by unfold Oper.quietAt; rw [hrun w hw]; exact ⟨rfl, rfl⟩, hk⟩
theorem exec_load {P : Program} {ρ : Operand → Value} {o : Oper} {t : TypeId} {p : Operand} (ho : o.op = .load t p) {v r : Value} {w : World} (hrun : (Instr.loadAt t v).run P w = .ok r w) (hp : ρ p = v) : (execOp ρ o).run P w = .ok (.value r) w := by
  unfold execOp
  simp [ho, hp, hrun, Result.andThen]
theorem exec_neq {ρ : Operand → Value} {o : Oper} {x y : Operand} {t2 : TypeId} (h : Hart) (w : World) (ho : o.op = .binOp .neq 27 x y t2) (hx : ρ x = hartV h) (hy : ρ y = hartV h) : (execOp ρ o).run Try.prog w = .ok (.value (.bool false)) w := by
  unfold execOp
  simp [ho, hx, hy, Sem.run_bind, run_eqGuard_agg, run_neq_struct, eq_hart, Result.andThen]
theorem exec_eql {ρ : Operand → Value} {o : Oper} {x y : Operand} {t2 : TypeId} (h : Hart) (w : World) (ho : o.op = .binOp .eql 27 x y t2) (hx : ρ x = hartV h) (hy : ρ y = hartV h) : (execOp ρ o).run Try.prog w = .ok (.value (.bool true)) w := by
  unfold execOp
  simp [ho, hx, hy, Sem.run_bind, run_eqGuard_agg, run_eql_struct, eq_hart, Result.andThen]
theorem wpList_exec {w : World} {ops : Array Oper} {rest : List Oper} {o : Oper} {a : Act} {Q : Exit → Act → World → Prop} (hgd : Region.wanted o (yielded ops a.tmps) = true) {r : Value} (hrun : (execOp a.eval o).run Try.prog w = .ok (.value r) w)
    (h : wpList Try.prog ops Q rest (a.put o.dst r) w) : wpList Try.prog ops Q (o :: rest) a w := by
  refine wpList_step fun K hK => ?_
  rw [if_pos hgd]
  unfold Oper.wp
  rw [hrun]
  exact hK _ _ h
theorem near_load {w : World} {b : Nat} {h : Hart} (k : Box w b h) (w' : World) (hw : ∃ p : Near w, w' = p.wx) : (Instr.loadAt 27 (.pointer (some ⟨b, 0, none⟩))).run Try.prog w' = .ok (hartV h) w' := by
  obtain ⟨p, rfl⟩ := hw
  exact (k.next p.near).load
set_option maxRecDepth 100000 in
set_option maxHeartbeats 1000000 in
theorem tells_walk (h t a b : Hart) (c v l p : Int) (it r s : Bool) (c8 : RowKit.Hid (∀ W, Calls Try.prog 8 #[hartV h, .int .u64 l] W fun e W' => e = .returned (.int .i64 p) ∧ Below W.heap.size W W')) (c9 : RowKit.Hid (∀ W, Calls Try.prog 9 #[hartV h, .int .u64 l] W fun e W' => e = .returned (.int .i64 p) ∧ Below W.heap.size W W')) (c10 : RowKit.Hid (∀ W, Calls Try.prog 10 #[hartV h, .int .i64 c, .bool it, .int .u64 v] W fun e W' => e = .returned (hartV t) ∧ Below W.heap.size W W')) (c11 : RowKit.Hid (∀ W, Calls Try.prog 11 #[hartV h, .int .i64 c, .bool it, .int .u64 v] W fun e W' => e = .returned (hartV t) ∧ Below W.heap.size W W')) (c12 : RowKit.Hid (∀ W, Calls Try.prog 12 #[hartV h] W fun e W' => e = .returned (.tuple #[hartV a, .bool r]) ∧ Below W.heap.size W W')) (c13 : RowKit.Hid (∀ W, Calls Try.prog 13 #[hartV h] W fun e W' => e = .returned (.tuple #[hartV a, .bool r]) ∧ Below W.heap.size W W')) (c14 : RowKit.Hid (∀ W, Calls Try.prog 14 #[hartV h] W fun e W' => e = .returned (.tuple #[hartV b, .bool s]) ∧ Below W.heap.size W W')) (c15 : RowKit.Hid (∀ W, Calls Try.prog 15 #[hartV h] W fun e W' => e = .returned (.tuple #[hartV b, .bool s]) ∧ Below W.heap.size W W')) (W : World) :
    Calls Try.prog 3 #[hartV h, .int .i64 c, .bool it, .int .u64 v, .int .u64 l] W fun e W' => e = .returned (.bool true) ∧ Below W.heap.size W W' := by
  go_enter Try.func3, Try.ntmps3
  go_upto_region 1 with (fail)
  have x0 := Box.new W h
  have b0 : Below W.heap.size W (W.alloc (hartO h)) := (Below.refl _ _).alloc (Nat.le_refl _) _
  have X0 := Lib.hid x0
  have BB0 := Lib.hid b0
  clear x0 b0
  generalize W.alloc (hartO h) = w0 at *
  have hne : Nonempty (Near w0) := ⟨⟨w0, Below.refl _ _⟩⟩
  refine wp_region_near (by kernel_rfl) (by kernel_rfl) ?_
  repeat (first | (go_big_quiet_want; (with_reducible refine quiet_by _ (fun w hw => exec_load (t := 27) rfl (near_load X0.out w hw) rfl) ?_); simp only [Act.put, List.setIfInBounds_toArray, List.set_cons_zero, List.set_cons_succ]; go_big_quiet_on) | (go_big_quiet_want; (with_reducible refine quiet_by _ (fun w _ => exec_neq t w rfl rfl rfl) ?_); simp only [Act.put, List.setIfInBounds_toArray, List.set_cons_zero, List.set_cons_succ]; go_big_quiet_on) | go_big_quiet_step (first | (go_at_call 7; exact near_call (awake_any _)) | (go_at_call 8; exact near_call (c8.out _)) | (go_at_call 9; exact near_call (c9.out _)) | (go_at_call 10; exact near_call (c10.out _)) | (go_at_call 11; exact near_call (c11.out _))))
  refine wpQuiet_nil ?_
  rintro _ ⟨pn, rfl⟩
  have X1 := Lib.hid (X0.out.next pn.near)
  have B1 := Lib.hid (below_then BB0.out (Nat.le_refl _) pn.near)
  clear X0 BB0 hne
  generalize pn.wx = w1 at *
  go_wp2_with (first | (with_reducible show wpList _ _ _ (⟨some 44, Op.load 27 (.tmp 5), 27, _, _, none⟩ :: _) _ _; refine wpList_load_by rfl rfl (Box.load (X1.out)) rfl ?_) | (go_at_call 12; (with_reducible refine (c12.out _).mono ?_); rintro e w2 ⟨rfl, k2⟩) | (with_reducible refine wpList_store_by rfl rfl (store_new w2 _) rfl rfl ?_) | (with_reducible show wpList _ _ _ (⟨some 49, Op.load 27 (.tmp 5), 27, _, _, none⟩ :: _) _ _; refine wpList_load_by rfl rfl (Box.load (((X1.out.next k2).alloc _))) rfl ?_) | (go_at_call 13; (with_reducible refine (c13.out _).mono ?_); rintro e w3 ⟨rfl, k3⟩) | (with_reducible refine wpList_store_by rfl rfl (store_new w3 _) rfl rfl ?_) | (with_reducible show wpList _ _ _ (⟨some 54, Op.load 27 (.tmp 5), 27, _, _, none⟩ :: _) _ _; refine wpList_load_by rfl rfl (Box.load (((((X1.out.next k2).alloc _).next k3).alloc _))) rfl ?_) | (go_at_call 14; (with_reducible refine (c14.out _).mono ?_); rintro e w4 ⟨rfl, k4⟩) | (with_reducible refine wpList_store_by rfl rfl (store_new w4 _) rfl rfl ?_) | (with_reducible show wpList _ _ _ (⟨some 59, Op.load 27 (.tmp 5), 27, _, _, none⟩ :: _) _ _; refine wpList_load_by rfl rfl (Box.load (((((((X1.out.next k2).alloc _).next k3).alloc _).next k4).alloc _))) rfl ?_) | (go_at_call 15; (with_reducible refine (c15.out _).mono ?_); rintro e w5 ⟨rfl, k5⟩) | (with_reducible refine wpList_store_by rfl rfl (store_new w5 _) rfl rfl ?_) | (with_reducible refine wpList_exec (by kernel_rfl) (exec_eql a _ rfl rfl rfl) ?_; simp only [Act.put, List.setIfInBounds_toArray, List.set_cons_zero, List.set_cons_succ]) | (with_reducible refine wpList_exec (by kernel_rfl) (exec_eql b _ rfl rfl rfl) ?_; simp only [Act.put, List.setIfInBounds_toArray, List.set_cons_zero, List.set_cons_succ]) | (with_reducible show wpList _ _ _ (⟨some 63, Op.load 27 (.tmp 11), 27, _, _, none⟩ :: _) _ _; refine wpList_load_by rfl rfl (Box.load ((((((((Box.new w2 a).next k3).alloc _).next k4).alloc _).next k5).alloc _))) rfl ?_; simp only [Act.put, List.setIfInBounds_toArray, List.set_cons_zero, List.set_cons_succ]) | (with_reducible show wpList _ _ _ (⟨some 64, Op.load 27 (.tmp 13), 27, _, _, none⟩ :: _) _ _; refine wpList_load_by rfl rfl (Box.load ((((((Box.new w3 a).next k4).alloc _).next k5).alloc _))) rfl ?_; simp only [Act.put, List.setIfInBounds_toArray, List.set_cons_zero, List.set_cons_succ]) | (with_reducible show wpList _ _ _ (⟨some 72, Op.load 27 (.tmp 15), 27, _, _, _⟩ :: _) _ _; refine wpList_load_wanted (by kernel_rfl) rfl (Box.load ((((Box.new w4 b).next k5).alloc _))) rfl ?_; simp only [Act.put, List.setIfInBounds_toArray, List.set_cons_zero, List.set_cons_succ]) | (with_reducible show wpList _ _ _ (⟨some 73, Op.load 27 (.tmp 17), 27, _, _, _⟩ :: _) _ _; refine wpList_load_wanted (by kernel_rfl) rfl (Box.load ((Box.new w5 b))) rfl ?_; simp only [Act.put, List.setIfInBounds_toArray, List.set_cons_zero, List.set_cons_succ]) | fail)
  go_ret
  have b2 := below_then B1.out (Nat.le_refl _) k2
  have b3 := below_then (b2.alloc b2.size (hartO a)) (Nat.le_refl _) k3
  have b4 := below_then (b3.alloc b3.size (hartO a)) (Nat.le_refl _) k4
  have b5 := below_then (b4.alloc b4.size (hartO b)) (Nat.le_refl _) k5
  exact ⟨rfl, b5.alloc b5.size _⟩

end Go.Proofs.Ytbdoiomnoajnpaa
