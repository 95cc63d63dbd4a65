/- TrapDown walked. -/
import Derived.Test.YtbdoiomnoajnpaaME
import Derived.Deep.QuietTactic
namespace Go.Proofs.Ytbdoiomnoajnpaa
open Go.RowKit Go.Deep Go.Joins
theorem exec_neq_x {ρ : Operand → Value} {o : Oper} {x y : Operand} {t2 : TypeId} (h : Hart) (w : World) (ho : o.op = .binOp .neq 23 x y t2) (hx : ρ x = .agg (xC h)) (hy : ρ y = .agg (xC h)) : (execOp ρ o).run Try.prog w = .ok (.value (.bool false)) w := by
  unfold execOp
  simp [ho, hx, hy, Sem.run_bind, run_eqGuard_agg, run_neq_struct, eq_x, Result.andThen]
theorem exec_eql_x {ρ : Operand → Value} {o : Oper} {x y : Operand} {t2 : TypeId} (h : Hart) (w : World) (ho : o.op = .binOp .eql 23 x y t2) (hx : ρ x = .agg (xC h)) (hy : ρ y = .agg (xC h)) : (execOp ρ o).run Try.prog w = .ok (.value (.bool true)) w := by
  unfold execOp
  simp [ho, hx, hy, Sem.run_bind, run_eqGuard_agg, run_eql_struct, eq_x, Result.andThen]
set_option maxRecDepth 100000 in
set_option maxHeartbeats 1000000 in
theorem back_not (h : Hart) (k v : Int) (it : Bool) (c16 : RowKit.Hid (∀ W, Calls Try.prog 16 #[hartV h] W fun e W' => e = .returned (.bool false) ∧ Below W.heap.size W W')) (W : World) : Calls Try.prog 4 #[hartV h, .int .i64 k, .bool it, .int .u64 v] W fun e W' => e = .returned (.bool true) ∧ Below W.heap.size W W' := by
  go_enter Try.func4, Try.ntmps4
  go_wp2_with (first | (go_at_call 7; (with_reducible refine (awake_any _).mono ?_); rintro e w1 ⟨rfl, k1⟩) | (with_reducible show wpList _ _ _ (⟨some 16, Op.load 27 (.tmp 4), 27, _, _, none⟩ :: _) _ _; refine wpList_load_by rfl rfl (Box.load ((Box.new W h).next k1)) rfl ?_) | (go_at_call 16; (with_reducible refine (c16.out _).mono ?_); rintro e w2 ⟨rfl, k2⟩) | fail)
  go_ret
  exact ⟨rfl, below_then (below_then ((Below.refl _ _).alloc (Nat.le_refl _) (hartO h)) (Nat.le_refl _) k1) (Nat.le_refl _) k2⟩
set_option maxRecDepth 100000 in
set_option maxHeartbeats 1000000 in
theorem back_out (h : Hart) (k v : Int) (it : Bool) (c16 : RowKit.Hid (∀ W, Calls Try.prog 16 #[hartV h] W fun e W' => e = .returned (.bool true) ∧ Below W.heap.size W W')) (hk : k < 0 ∨ 63 < k) (W : World) : Calls Try.prog 4 #[hartV h, .int .i64 k, .bool it, .int .u64 v] W fun e W' => e = .returned (.bool true) ∧ Below W.heap.size W W' := by
  rcases hk with hk | hk
  all_goals
    go_enter Try.func4, Try.ntmps4
    go_wp2_with (first | (go_at_call 7; (with_reducible refine (awake_any _).mono ?_); rintro e w1 ⟨rfl, k1⟩) | (with_reducible show wpList _ _ _ (⟨some 16, Op.load 27 (.tmp 4), 27, _, _, none⟩ :: _) _ _; refine wpList_load_by rfl rfl (Box.load ((Box.new W h).next k1)) rfl ?_) | (go_at_call 16; (with_reducible refine (c16.out _).mono ?_); rintro e w2 ⟨rfl, k2⟩) | fail)
    go_ret
    exact ⟨rfl, below_then (below_then ((Below.refl _ _).alloc (Nat.le_refl _) (hartO h)) (Nat.le_refl _) k1) (Nat.le_refl _) k2⟩
set_option maxRecDepth 100000 in
set_option maxHeartbeats 1000000 in
theorem down_not (h : Hart) (k v : Int) (it : Bool) (c16 : RowKit.Hid (∀ W, Calls Try.prog 16 #[hartV h] W fun e W' => e = .returned (.bool false) ∧ Below W.heap.size W W')) (W : World) : Calls Try.prog 5 #[hartV h, .int .i64 k, .bool it, .int .u64 v] W fun e W' => e = .returned (.bool true) ∧ Below W.heap.size W W' := by
  go_enter Try.func5, Try.ntmps5
  go_wp2_with (first | (go_at_call 7; (with_reducible refine (awake_any _).mono ?_); rintro e w1 ⟨rfl, k1⟩) | (with_reducible show wpList _ _ _ (⟨some 13, Op.load 27 (.tmp 4), 27, _, _, none⟩ :: _) _ _; refine wpList_load_by rfl rfl (Box.load ((Box.new W h).next k1)) rfl ?_) | (go_at_call 16; (with_reducible refine (c16.out _).mono ?_); rintro e w2 ⟨rfl, k2⟩) | fail)
  go_ret
  exact ⟨rfl, below_then (below_then ((Below.refl _ _).alloc (Nat.le_refl _) (hartO h)) (Nat.le_refl _) k1) (Nat.le_refl _) k2⟩
set_option maxRecDepth 100000 in
set_option maxHeartbeats 1000000 in
theorem down_out (h : Hart) (k v : Int) (it : Bool) (c16 : RowKit.Hid (∀ W, Calls Try.prog 16 #[hartV h] W fun e W' => e = .returned (.bool true) ∧ Below W.heap.size W W')) (hk : k < 0 ∨ 63 < k) (W : World) : Calls Try.prog 5 #[hartV h, .int .i64 k, .bool it, .int .u64 v] W fun e W' => e = .returned (.bool true) ∧ Below W.heap.size W W' := by
  rcases hk with hk | hk
  all_goals
    go_enter Try.func5, Try.ntmps5
    go_wp2_with (first | (go_at_call 7; (with_reducible refine (awake_any _).mono ?_); rintro e w1 ⟨rfl, k1⟩) | (with_reducible show wpList _ _ _ (⟨some 13, Op.load 27 (.tmp 4), 27, _, _, none⟩ :: _) _ _; refine wpList_load_by rfl rfl (Box.load ((Box.new W h).next k1)) rfl ?_) | (go_at_call 16; (with_reducible refine (c16.out _).mono ?_); rintro e w2 ⟨rfl, k2⟩) | fail)
    go_ret
    exact ⟨rfl, below_then (below_then ((Below.refl _ _).alloc (Nat.le_refl _) (hartO h)) (Nat.le_refl _) k1) (Nat.le_refl _) k2⟩
set_option maxRecDepth 100000 in
set_option maxHeartbeats 1000000 in
theorem down_yes_true (h t : Hart) (k : Nat) (v : Int) (hk : k ≤ 63) (c16 : RowKit.Hid (∀ W, Calls Try.prog 16 #[hartV h] W fun e W' => e = .returned (.bool true) ∧ Below W.heap.size W W')) (c10 : RowKit.Hid (∀ W, Calls Try.prog 10 #[hartV h, .int .i64 k, .bool true, .int .u64 v] W fun e W' => e = .returned (hartV t) ∧ Below W.heap.size W W')) (hm : h.mode ≤ 1) (hl : (bits .and .u64 (h.c.s2 / 2 ^ k) 1 == 1) = true) (tm : t.mode = 1) (tu : t.c.s12 = h.pc) (tv : t.c.s14 = v) (tx : t.c.s7 = h.c.s7) (tc : t.c.s13 / 9223372036854775808 = 1) (W : World) : Calls Try.prog 5 #[hartV h, .int .i64 k, .bool true, .int .u64 v] W fun e W' => e = .returned (.bool true) ∧ Below W.heap.size W W' := by
  have hw : IntKind.u64.wrap (k : Int) = k := by rw [IntKind.wrap_u64]; omega
  have hk0 : 0 ≤ (k : Int) := by omega
  have hk1 : (k : Int) ≤ 63 := by omega
  have TM := Lib.hid tm
  have TO := Lib.hid tu
  have TV := Lib.hid tv
  have TX := Lib.hid tx
  clear tm tu tv tx
  go_enter Try.func5, Try.ntmps5
  go_upto_region 9 with (first | (go_at_call 7; (with_reducible refine (awake_any _).mono ?_); rintro e w1 ⟨rfl, k1⟩) | (with_reducible show wpList _ _ _ (⟨some 13, Op.load 27 (.tmp 4), 27, _, _, none⟩ :: _) _ _; refine wpList_load_by rfl rfl (Box.load ((Box.new W h).next k1)) rfl ?_) | (go_at_call 16; (with_reducible refine (c16.out _).mono ?_); rintro e w2 ⟨rfl, k2⟩; have f_w2_0_4 : w2.cell? ⟨W.heap.size, 36, none⟩ = some (.int .u64 h.c.s2) := (((Box.new W h).next k1).next k2).cell 4; have f_w2_1_3 : w2.cell? ⟨W.heap.size, 35, none⟩ = some (.int .u64 h.c.s1) := (((Box.new W h).next k1).next k2).cell 3) | (with_reducible show wpList _ _ _ (⟨some 31, Op.load 27 (.tmp 4), 27, _, _, none⟩ :: _) _ _; refine wpList_load_by rfl rfl (Box.load ((((Box.new W h).next k1).next k2))) rfl ?_) | (go_at_call 10; (with_reducible refine (c10.out _).mono ?_); rintro e w3 ⟨rfl, k3⟩) | ((with_reducible refine wpList_store_by rfl rfl (store_new w3 _) rfl rfl ?_); have XH : Box (w3.alloc (hartO t)) W.heap.size h := ((((Box.new W h).next k1).next k2).next k3).alloc _; have XT := Box.new w3 t; have HB : Below W.heap.size W (w3.alloc (hartO t)) := (below_then (below_then (below_then ((Below.refl _ _).alloc (Nat.le_refl _) (hartO h)) (Nat.le_refl _) k1) (Nat.le_refl _) k2) (Nat.le_refl _) k3).alloc (below_then (below_then (below_then ((Below.refl _ _).alloc (Nat.le_refl _) (hartO h)) (Nat.le_refl _) k1) (Nat.le_refl _) k2) (Nat.le_refl _) k3).size _; have HBB := Lib.hid HB; clear HB; generalize w3.alloc (hartO t) = v3 at *; generalize w3.heap.size = b3 at *; have h_mode : v3.cell? ⟨W.heap.size, 33, none⟩ = some (.int .i64 h.mode) := XH.cell 1; have h_pc : v3.cell? ⟨W.heap.size, 32, none⟩ = some (.int .u64 h.pc) := XH.cell 0; have h_o : v3.cell? ⟨W.heap.size, 41, none⟩ = some (.int .u64 h.c.s7) := XH.cell 9; have t_m : v3.cell? ⟨b3, 33, none⟩ = some (.int .i64 1) := (XT.cell 1).trans (by show some (Value.int _ t.mode) = _; rw [TM.out]); have t_o : v3.cell? ⟨b3, 46, none⟩ = some (.int .u64 h.pc) := (XT.cell 14).trans (by show some (Value.int _ t.c.s12) = _; rw [TO.out]); have t_v : v3.cell? ⟨b3, 48, none⟩ = some (.int .u64 v) := (XT.cell 16).trans (by show some (Value.int _ t.c.s14) = _; rw [TV.out]); have t_x : v3.cell? ⟨b3, 41, none⟩ = some (.int .u64 h.c.s7) := (XT.cell 9).trans (by show some (Value.int _ t.c.s7) = _; rw [TX.out]); have t_c : v3.cell? ⟨b3, 47, none⟩ = some (.int .u64 t.c.s13) := XT.cell 15) | fail)
  go_upto_region 10 with (fail)
  go_quiet ((go_at_call 17; exact Calls.quiet_of_same ((bit_any _ _).mono fun _ _ h => And.intro h.1 h.2.symm)))
  go_wp2_with fail
  go_ret
  exact ⟨rfl, below_drewN HBB.out _⟩
set_option maxRecDepth 100000 in
set_option maxHeartbeats 1000000 in
theorem down_no1_true (h t : Hart) (k : Nat) (v : Int) (hk : k ≤ 63) (c16 : RowKit.Hid (∀ W, Calls Try.prog 16 #[hartV h] W fun e W' => e = .returned (.bool true) ∧ Below W.heap.size W W')) (c10 : RowKit.Hid (∀ W, Calls Try.prog 10 #[hartV h, .int .i64 k, .bool true, .int .u64 v] W fun e W' => e = .returned (hartV t) ∧ Below W.heap.size W W')) (hm : ¬ h.mode ≤ 1)  (tm : t.mode = 3) (tu : t.c.s7 = h.pc) (tv : t.c.s9 = v) (tx : t.c.s12 = h.c.s12) (tc : t.c.s8 / 9223372036854775808 = 1) (W : World) : Calls Try.prog 5 #[hartV h, .int .i64 k, .bool true, .int .u64 v] W fun e W' => e = .returned (.bool true) ∧ Below W.heap.size W W' := by
  have hw : IntKind.u64.wrap (k : Int) = k := by rw [IntKind.wrap_u64]; omega
  have hk0 : 0 ≤ (k : Int) := by omega
  have hk1 : (k : Int) ≤ 63 := by omega
  have TM := Lib.hid tm
  have TO := Lib.hid tu
  have TV := Lib.hid tv
  have TX := Lib.hid tx
  clear tm tu tv tx
  go_enter Try.func5, Try.ntmps5
  go_upto_region 9 with (first | (go_at_call 7; (with_reducible refine (awake_any _).mono ?_); rintro e w1 ⟨rfl, k1⟩) | (with_reducible show wpList _ _ _ (⟨some 13, Op.load 27 (.tmp 4), 27, _, _, none⟩ :: _) _ _; refine wpList_load_by rfl rfl (Box.load ((Box.new W h).next k1)) rfl ?_) | (go_at_call 16; (with_reducible refine (c16.out _).mono ?_); rintro e w2 ⟨rfl, k2⟩; have f_w2_0_4 : w2.cell? ⟨W.heap.size, 36, none⟩ = some (.int .u64 h.c.s2) := (((Box.new W h).next k1).next k2).cell 4; have f_w2_1_3 : w2.cell? ⟨W.heap.size, 35, none⟩ = some (.int .u64 h.c.s1) := (((Box.new W h).next k1).next k2).cell 3) | (with_reducible show wpList _ _ _ (⟨some 31, Op.load 27 (.tmp 4), 27, _, _, none⟩ :: _) _ _; refine wpList_load_by rfl rfl (Box.load ((((Box.new W h).next k1).next k2))) rfl ?_) | (go_at_call 10; (with_reducible refine (c10.out _).mono ?_); rintro e w3 ⟨rfl, k3⟩) | ((with_reducible refine wpList_store_by rfl rfl (store_new w3 _) rfl rfl ?_); have XH : Box (w3.alloc (hartO t)) W.heap.size h := ((((Box.new W h).next k1).next k2).next k3).alloc _; have XT := Box.new w3 t; have HB : Below W.heap.size W (w3.alloc (hartO t)) := (below_then (below_then (below_then ((Below.refl _ _).alloc (Nat.le_refl _) (hartO h)) (Nat.le_refl _) k1) (Nat.le_refl _) k2) (Nat.le_refl _) k3).alloc (below_then (below_then (below_then ((Below.refl _ _).alloc (Nat.le_refl _) (hartO h)) (Nat.le_refl _) k1) (Nat.le_refl _) k2) (Nat.le_refl _) k3).size _; have HBB := Lib.hid HB; clear HB; generalize w3.alloc (hartO t) = v3 at *; generalize w3.heap.size = b3 at *; have h_mode : v3.cell? ⟨W.heap.size, 33, none⟩ = some (.int .i64 h.mode) := XH.cell 1; have h_pc : v3.cell? ⟨W.heap.size, 32, none⟩ = some (.int .u64 h.pc) := XH.cell 0; have h_o : v3.cell? ⟨W.heap.size, 46, none⟩ = some (.int .u64 h.c.s12) := XH.cell 14; have t_m : v3.cell? ⟨b3, 33, none⟩ = some (.int .i64 3) := (XT.cell 1).trans (by show some (Value.int _ t.mode) = _; rw [TM.out]); have t_o : v3.cell? ⟨b3, 41, none⟩ = some (.int .u64 h.pc) := (XT.cell 9).trans (by show some (Value.int _ t.c.s7) = _; rw [TO.out]); have t_v : v3.cell? ⟨b3, 43, none⟩ = some (.int .u64 v) := (XT.cell 11).trans (by show some (Value.int _ t.c.s9) = _; rw [TV.out]); have t_x : v3.cell? ⟨b3, 46, none⟩ = some (.int .u64 h.c.s12) := (XT.cell 14).trans (by show some (Value.int _ t.c.s12) = _; rw [TX.out]); have t_c : v3.cell? ⟨b3, 42, none⟩ = some (.int .u64 t.c.s8) := XT.cell 10) | fail)
  go_upto_region 11 with (fail)
  go_quiet ((go_at_call 17; exact Calls.quiet_of_same ((bit_any _ _).mono fun _ _ h => And.intro h.1 h.2.symm)))
  go_wp2_with fail
  go_ret
  exact ⟨rfl, below_drewN HBB.out _⟩
set_option maxRecDepth 100000 in
set_option maxHeartbeats 1000000 in
theorem down_no2_true (h t : Hart) (k : Nat) (v : Int) (hk : k ≤ 63) (c16 : RowKit.Hid (∀ W, Calls Try.prog 16 #[hartV h] W fun e W' => e = .returned (.bool true) ∧ Below W.heap.size W W')) (c10 : RowKit.Hid (∀ W, Calls Try.prog 10 #[hartV h, .int .i64 k, .bool true, .int .u64 v] W fun e W' => e = .returned (hartV t) ∧ Below W.heap.size W W')) (hm : h.mode ≤ 1) (hl : (bits .and .u64 (h.c.s2 / 2 ^ k) 1 == 1) = false) (tm : t.mode = 3) (tu : t.c.s7 = h.pc) (tv : t.c.s9 = v) (tx : t.c.s12 = h.c.s12) (tc : t.c.s8 / 9223372036854775808 = 1) (W : World) : Calls Try.prog 5 #[hartV h, .int .i64 k, .bool true, .int .u64 v] W fun e W' => e = .returned (.bool true) ∧ Below W.heap.size W W' := by
  have hw : IntKind.u64.wrap (k : Int) = k := by rw [IntKind.wrap_u64]; omega
  have hk0 : 0 ≤ (k : Int) := by omega
  have hk1 : (k : Int) ≤ 63 := by omega
  have TM := Lib.hid tm
  have TO := Lib.hid tu
  have TV := Lib.hid tv
  have TX := Lib.hid tx
  clear tm tu tv tx
  go_enter Try.func5, Try.ntmps5
  go_upto_region 9 with (first | (go_at_call 7; (with_reducible refine (awake_any _).mono ?_); rintro e w1 ⟨rfl, k1⟩) | (with_reducible show wpList _ _ _ (⟨some 13, Op.load 27 (.tmp 4), 27, _, _, none⟩ :: _) _ _; refine wpList_load_by rfl rfl (Box.load ((Box.new W h).next k1)) rfl ?_) | (go_at_call 16; (with_reducible refine (c16.out _).mono ?_); rintro e w2 ⟨rfl, k2⟩; have f_w2_0_4 : w2.cell? ⟨W.heap.size, 36, none⟩ = some (.int .u64 h.c.s2) := (((Box.new W h).next k1).next k2).cell 4; have f_w2_1_3 : w2.cell? ⟨W.heap.size, 35, none⟩ = some (.int .u64 h.c.s1) := (((Box.new W h).next k1).next k2).cell 3) | (with_reducible show wpList _ _ _ (⟨some 31, Op.load 27 (.tmp 4), 27, _, _, none⟩ :: _) _ _; refine wpList_load_by rfl rfl (Box.load ((((Box.new W h).next k1).next k2))) rfl ?_) | (go_at_call 10; (with_reducible refine (c10.out _).mono ?_); rintro e w3 ⟨rfl, k3⟩) | ((with_reducible refine wpList_store_by rfl rfl (store_new w3 _) rfl rfl ?_); have XH : Box (w3.alloc (hartO t)) W.heap.size h := ((((Box.new W h).next k1).next k2).next k3).alloc _; have XT := Box.new w3 t; have HB : Below W.heap.size W (w3.alloc (hartO t)) := (below_then (below_then (below_then ((Below.refl _ _).alloc (Nat.le_refl _) (hartO h)) (Nat.le_refl _) k1) (Nat.le_refl _) k2) (Nat.le_refl _) k3).alloc (below_then (below_then (below_then ((Below.refl _ _).alloc (Nat.le_refl _) (hartO h)) (Nat.le_refl _) k1) (Nat.le_refl _) k2) (Nat.le_refl _) k3).size _; have HBB := Lib.hid HB; clear HB; generalize w3.alloc (hartO t) = v3 at *; generalize w3.heap.size = b3 at *; have h_mode : v3.cell? ⟨W.heap.size, 33, none⟩ = some (.int .i64 h.mode) := XH.cell 1; have h_pc : v3.cell? ⟨W.heap.size, 32, none⟩ = some (.int .u64 h.pc) := XH.cell 0; have h_o : v3.cell? ⟨W.heap.size, 46, none⟩ = some (.int .u64 h.c.s12) := XH.cell 14; have t_m : v3.cell? ⟨b3, 33, none⟩ = some (.int .i64 3) := (XT.cell 1).trans (by show some (Value.int _ t.mode) = _; rw [TM.out]); have t_o : v3.cell? ⟨b3, 41, none⟩ = some (.int .u64 h.pc) := (XT.cell 9).trans (by show some (Value.int _ t.c.s7) = _; rw [TO.out]); have t_v : v3.cell? ⟨b3, 43, none⟩ = some (.int .u64 v) := (XT.cell 11).trans (by show some (Value.int _ t.c.s9) = _; rw [TV.out]); have t_x : v3.cell? ⟨b3, 46, none⟩ = some (.int .u64 h.c.s12) := (XT.cell 14).trans (by show some (Value.int _ t.c.s12) = _; rw [TX.out]); have t_c : v3.cell? ⟨b3, 42, none⟩ = some (.int .u64 t.c.s8) := XT.cell 10) | fail)
  go_upto_region 11 with (fail)
  go_quiet ((go_at_call 17; exact Calls.quiet_of_same ((bit_any _ _).mono fun _ _ h => And.intro h.1 h.2.symm)))
  go_wp2_with fail
  go_ret
  exact ⟨rfl, below_drewN HBB.out _⟩
set_option maxRecDepth 100000 in
set_option maxHeartbeats 1000000 in
theorem down_yes_false (h t : Hart) (k : Nat) (v : Int) (hk : k ≤ 63) (c16 : RowKit.Hid (∀ W, Calls Try.prog 16 #[hartV h] W fun e W' => e = .returned (.bool true) ∧ Below W.heap.size W W')) (c10 : RowKit.Hid (∀ W, Calls Try.prog 10 #[hartV h, .int .i64 k, .bool false, .int .u64 v] W fun e W' => e = .returned (hartV t) ∧ Below W.heap.size W W')) (hm : h.mode ≤ 1) (hl : (bits .and .u64 (h.c.s1 / 2 ^ k) 1 == 1) = true) (tm : t.mode = 1) (tu : t.c.s12 = h.pc) (tv : t.c.s14 = v) (tx : t.c.s7 = h.c.s7) (tc : t.c.s13 / 9223372036854775808 = 0) (W : World) : Calls Try.prog 5 #[hartV h, .int .i64 k, .bool false, .int .u64 v] W fun e W' => e = .returned (.bool true) ∧ Below W.heap.size W W' := by
  have hw : IntKind.u64.wrap (k : Int) = k := by rw [IntKind.wrap_u64]; omega
  have hk0 : 0 ≤ (k : Int) := by omega
  have hk1 : (k : Int) ≤ 63 := by omega
  have TM := Lib.hid tm
  have TO := Lib.hid tu
  have TV := Lib.hid tv
  have TX := Lib.hid tx
  clear tm tu tv tx
  go_enter Try.func5, Try.ntmps5
  go_upto_region 9 with (first | (go_at_call 7; (with_reducible refine (awake_any _).mono ?_); rintro e w1 ⟨rfl, k1⟩) | (with_reducible show wpList _ _ _ (⟨some 13, Op.load 27 (.tmp 4), 27, _, _, none⟩ :: _) _ _; refine wpList_load_by rfl rfl (Box.load ((Box.new W h).next k1)) rfl ?_) | (go_at_call 16; (with_reducible refine (c16.out _).mono ?_); rintro e w2 ⟨rfl, k2⟩; have f_w2_0_3 : w2.cell? ⟨W.heap.size, 35, none⟩ = some (.int .u64 h.c.s1) := (((Box.new W h).next k1).next k2).cell 3) | (with_reducible show wpList _ _ _ (⟨some 31, Op.load 27 (.tmp 4), 27, _, _, none⟩ :: _) _ _; refine wpList_load_by rfl rfl (Box.load ((((Box.new W h).next k1).next k2))) rfl ?_) | (go_at_call 10; (with_reducible refine (c10.out _).mono ?_); rintro e w3 ⟨rfl, k3⟩) | ((with_reducible refine wpList_store_by rfl rfl (store_new w3 _) rfl rfl ?_); have XH : Box (w3.alloc (hartO t)) W.heap.size h := ((((Box.new W h).next k1).next k2).next k3).alloc _; have XT := Box.new w3 t; have HB : Below W.heap.size W (w3.alloc (hartO t)) := (below_then (below_then (below_then ((Below.refl _ _).alloc (Nat.le_refl _) (hartO h)) (Nat.le_refl _) k1) (Nat.le_refl _) k2) (Nat.le_refl _) k3).alloc (below_then (below_then (below_then ((Below.refl _ _).alloc (Nat.le_refl _) (hartO h)) (Nat.le_refl _) k1) (Nat.le_refl _) k2) (Nat.le_refl _) k3).size _; have HBB := Lib.hid HB; clear HB; generalize w3.alloc (hartO t) = v3 at *; generalize w3.heap.size = b3 at *; have h_mode : v3.cell? ⟨W.heap.size, 33, none⟩ = some (.int .i64 h.mode) := XH.cell 1; have h_pc : v3.cell? ⟨W.heap.size, 32, none⟩ = some (.int .u64 h.pc) := XH.cell 0; have h_o : v3.cell? ⟨W.heap.size, 41, none⟩ = some (.int .u64 h.c.s7) := XH.cell 9; have t_m : v3.cell? ⟨b3, 33, none⟩ = some (.int .i64 1) := (XT.cell 1).trans (by show some (Value.int _ t.mode) = _; rw [TM.out]); have t_o : v3.cell? ⟨b3, 46, none⟩ = some (.int .u64 h.pc) := (XT.cell 14).trans (by show some (Value.int _ t.c.s12) = _; rw [TO.out]); have t_v : v3.cell? ⟨b3, 48, none⟩ = some (.int .u64 v) := (XT.cell 16).trans (by show some (Value.int _ t.c.s14) = _; rw [TV.out]); have t_x : v3.cell? ⟨b3, 41, none⟩ = some (.int .u64 h.c.s7) := (XT.cell 9).trans (by show some (Value.int _ t.c.s7) = _; rw [TX.out]); have t_c : v3.cell? ⟨b3, 47, none⟩ = some (.int .u64 t.c.s13) := XT.cell 15) | fail)
  go_upto_region 10 with (fail)
  go_quiet ((go_at_call 17; exact Calls.quiet_of_same ((bit_any _ _).mono fun _ _ h => And.intro h.1 h.2.symm)))
  go_wp2_with fail
  go_ret
  exact ⟨rfl, below_drewN HBB.out _⟩
set_option maxRecDepth 100000 in
set_option maxHeartbeats 1000000 in
theorem down_no1_false (h t : Hart) (k : Nat) (v : Int) (hk : k ≤ 63) (c16 : RowKit.Hid (∀ W, Calls Try.prog 16 #[hartV h] W fun e W' => e = .returned (.bool true) ∧ Below W.heap.size W W')) (c10 : RowKit.Hid (∀ W, Calls Try.prog 10 #[hartV h, .int .i64 k, .bool false, .int .u64 v] W fun e W' => e = .returned (hartV t) ∧ Below W.heap.size W W')) (hm : ¬ h.mode ≤ 1)  (tm : t.mode = 3) (tu : t.c.s7 = h.pc) (tv : t.c.s9 = v) (tx : t.c.s12 = h.c.s12) (tc : t.c.s8 / 9223372036854775808 = 0) (W : World) : Calls Try.prog 5 #[hartV h, .int .i64 k, .bool false, .int .u64 v] W fun e W' => e = .returned (.bool true) ∧ Below W.heap.size W W' := by
  have hw : IntKind.u64.wrap (k : Int) = k := by rw [IntKind.wrap_u64]; omega
  have hk0 : 0 ≤ (k : Int) := by omega
  have hk1 : (k : Int) ≤ 63 := by omega
  have TM := Lib.hid tm
  have TO := Lib.hid tu
  have TV := Lib.hid tv
  have TX := Lib.hid tx
  clear tm tu tv tx
  go_enter Try.func5, Try.ntmps5
  go_upto_region 9 with (first | (go_at_call 7; (with_reducible refine (awake_any _).mono ?_); rintro e w1 ⟨rfl, k1⟩) | (with_reducible show wpList _ _ _ (⟨some 13, Op.load 27 (.tmp 4), 27, _, _, none⟩ :: _) _ _; refine wpList_load_by rfl rfl (Box.load ((Box.new W h).next k1)) rfl ?_) | (go_at_call 16; (with_reducible refine (c16.out _).mono ?_); rintro e w2 ⟨rfl, k2⟩; have f_w2_0_3 : w2.cell? ⟨W.heap.size, 35, none⟩ = some (.int .u64 h.c.s1) := (((Box.new W h).next k1).next k2).cell 3) | (with_reducible show wpList _ _ _ (⟨some 31, Op.load 27 (.tmp 4), 27, _, _, none⟩ :: _) _ _; refine wpList_load_by rfl rfl (Box.load ((((Box.new W h).next k1).next k2))) rfl ?_) | (go_at_call 10; (with_reducible refine (c10.out _).mono ?_); rintro e w3 ⟨rfl, k3⟩) | ((with_reducible refine wpList_store_by rfl rfl (store_new w3 _) rfl rfl ?_); have XH : Box (w3.alloc (hartO t)) W.heap.size h := ((((Box.new W h).next k1).next k2).next k3).alloc _; have XT := Box.new w3 t; have HB : Below W.heap.size W (w3.alloc (hartO t)) := (below_then (below_then (below_then ((Below.refl _ _).alloc (Nat.le_refl _) (hartO h)) (Nat.le_refl _) k1) (Nat.le_refl _) k2) (Nat.le_refl _) k3).alloc (below_then (below_then (below_then ((Below.refl _ _).alloc (Nat.le_refl _) (hartO h)) (Nat.le_refl _) k1) (Nat.le_refl _) k2) (Nat.le_refl _) k3).size _; have HBB := Lib.hid HB; clear HB; generalize w3.alloc (hartO t) = v3 at *; generalize w3.heap.size = b3 at *; have h_mode : v3.cell? ⟨W.heap.size, 33, none⟩ = some (.int .i64 h.mode) := XH.cell 1; have h_pc : v3.cell? ⟨W.heap.size, 32, none⟩ = some (.int .u64 h.pc) := XH.cell 0; have h_o : v3.cell? ⟨W.heap.size, 46, none⟩ = some (.int .u64 h.c.s12) := XH.cell 14; have t_m : v3.cell? ⟨b3, 33, none⟩ = some (.int .i64 3) := (XT.cell 1).trans (by show some (Value.int _ t.mode) = _; rw [TM.out]); have t_o : v3.cell? ⟨b3, 41, none⟩ = some (.int .u64 h.pc) := (XT.cell 9).trans (by show some (Value.int _ t.c.s7) = _; rw [TO.out]); have t_v : v3.cell? ⟨b3, 43, none⟩ = some (.int .u64 v) := (XT.cell 11).trans (by show some (Value.int _ t.c.s9) = _; rw [TV.out]); have t_x : v3.cell? ⟨b3, 46, none⟩ = some (.int .u64 h.c.s12) := (XT.cell 14).trans (by show some (Value.int _ t.c.s12) = _; rw [TX.out]); have t_c : v3.cell? ⟨b3, 42, none⟩ = some (.int .u64 t.c.s8) := XT.cell 10) | fail)
  go_upto_region 11 with (fail)
  go_quiet ((go_at_call 17; exact Calls.quiet_of_same ((bit_any _ _).mono fun _ _ h => And.intro h.1 h.2.symm)))
  go_wp2_with fail
  go_ret
  exact ⟨rfl, below_drewN HBB.out _⟩
set_option maxRecDepth 100000 in
set_option maxHeartbeats 1000000 in
theorem down_no2_false (h t : Hart) (k : Nat) (v : Int) (hk : k ≤ 63) (c16 : RowKit.Hid (∀ W, Calls Try.prog 16 #[hartV h] W fun e W' => e = .returned (.bool true) ∧ Below W.heap.size W W')) (c10 : RowKit.Hid (∀ W, Calls Try.prog 10 #[hartV h, .int .i64 k, .bool false, .int .u64 v] W fun e W' => e = .returned (hartV t) ∧ Below W.heap.size W W')) (hm : h.mode ≤ 1) (hl : (bits .and .u64 (h.c.s1 / 2 ^ k) 1 == 1) = false) (tm : t.mode = 3) (tu : t.c.s7 = h.pc) (tv : t.c.s9 = v) (tx : t.c.s12 = h.c.s12) (tc : t.c.s8 / 9223372036854775808 = 0) (W : World) : Calls Try.prog 5 #[hartV h, .int .i64 k, .bool false, .int .u64 v] W fun e W' => e = .returned (.bool true) ∧ Below W.heap.size W W' := by
  have hw : IntKind.u64.wrap (k : Int) = k := by rw [IntKind.wrap_u64]; omega
  have hk0 : 0 ≤ (k : Int) := by omega
  have hk1 : (k : Int) ≤ 63 := by omega
  have TM := Lib.hid tm
  have TO := Lib.hid tu
  have TV := Lib.hid tv
  have TX := Lib.hid tx
  clear tm tu tv tx
  go_enter Try.func5, Try.ntmps5
  go_upto_region 9 with (first | (go_at_call 7; (with_reducible refine (awake_any _).mono ?_); rintro e w1 ⟨rfl, k1⟩) | (with_reducible show wpList _ _ _ (⟨some 13, Op.load 27 (.tmp 4), 27, _, _, none⟩ :: _) _ _; refine wpList_load_by rfl rfl (Box.load ((Box.new W h).next k1)) rfl ?_) | (go_at_call 16; (with_reducible refine (c16.out _).mono ?_); rintro e w2 ⟨rfl, k2⟩; have f_w2_0_3 : w2.cell? ⟨W.heap.size, 35, none⟩ = some (.int .u64 h.c.s1) := (((Box.new W h).next k1).next k2).cell 3) | (with_reducible show wpList _ _ _ (⟨some 31, Op.load 27 (.tmp 4), 27, _, _, none⟩ :: _) _ _; refine wpList_load_by rfl rfl (Box.load ((((Box.new W h).next k1).next k2))) rfl ?_) | (go_at_call 10; (with_reducible refine (c10.out _).mono ?_); rintro e w3 ⟨rfl, k3⟩) | ((with_reducible refine wpList_store_by rfl rfl (store_new w3 _) rfl rfl ?_); have XH : Box (w3.alloc (hartO t)) W.heap.size h := ((((Box.new W h).next k1).next k2).next k3).alloc _; have XT := Box.new w3 t; have HB : Below W.heap.size W (w3.alloc (hartO t)) := (below_then (below_then (below_then ((Below.refl _ _).alloc (Nat.le_refl _) (hartO h)) (Nat.le_refl _) k1) (Nat.le_refl _) k2) (Nat.le_refl _) k3).alloc (below_then (below_then (below_then ((Below.refl _ _).alloc (Nat.le_refl _) (hartO h)) (Nat.le_refl _) k1) (Nat.le_refl _) k2) (Nat.le_refl _) k3).size _; have HBB := Lib.hid HB; clear HB; generalize w3.alloc (hartO t) = v3 at *; generalize w3.heap.size = b3 at *; have h_mode : v3.cell? ⟨W.heap.size, 33, none⟩ = some (.int .i64 h.mode) := XH.cell 1; have h_pc : v3.cell? ⟨W.heap.size, 32, none⟩ = some (.int .u64 h.pc) := XH.cell 0; have h_o : v3.cell? ⟨W.heap.size, 46, none⟩ = some (.int .u64 h.c.s12) := XH.cell 14; have t_m : v3.cell? ⟨b3, 33, none⟩ = some (.int .i64 3) := (XT.cell 1).trans (by show some (Value.int _ t.mode) = _; rw [TM.out]); have t_o : v3.cell? ⟨b3, 41, none⟩ = some (.int .u64 h.pc) := (XT.cell 9).trans (by show some (Value.int _ t.c.s7) = _; rw [TO.out]); have t_v : v3.cell? ⟨b3, 43, none⟩ = some (.int .u64 v) := (XT.cell 11).trans (by show some (Value.int _ t.c.s9) = _; rw [TV.out]); have t_x : v3.cell? ⟨b3, 46, none⟩ = some (.int .u64 h.c.s12) := (XT.cell 14).trans (by show some (Value.int _ t.c.s12) = _; rw [TX.out]); have t_c : v3.cell? ⟨b3, 42, none⟩ = some (.int .u64 t.c.s8) := XT.cell 10) | fail)
  go_upto_region 11 with (fail)
  go_quiet ((go_at_call 17; exact Calls.quiet_of_same ((bit_any _ _).mono fun _ _ h => And.intro h.1 h.2.symm)))
  go_wp2_with fail
  go_ret
  exact ⟨rfl, below_drewN HBB.out _⟩

end Go.Proofs.Ytbdoiomnoajnpaa
