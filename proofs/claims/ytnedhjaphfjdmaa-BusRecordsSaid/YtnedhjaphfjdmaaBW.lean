/- awake. -/
import Derived.Test.YtnedhjaphfjdmaaBV
import Derived.Test.YtnedhjaphfjdmaaRY
namespace Go.Proofs.Ytnedhjaphfjdmaa
open Go.RowKit Go.Deep Go.Joins
def hart0 : Hart := ⟨List.replicate 32 0, rfl, 0, 0, ⟨0, 0, 0, 0, 0, 0, 0, 0, 0, 0, 0, 0, 0, 0, 0, 0⟩, false, 0⟩
def mc0 (dv mv : Value) : Mc := ⟨hart0, bdZ, dv, mv, 0, 0, 0, .slice none 0 0⟩
theorem built0 (dv mv : Value) : Try.prog.built 42 [(2, .agg #[dv, mv, .int .u64 0])] = some (mcC (mc0 dv mv)) := by kernel_rfl
theorem built1 : Try.prog.built 62 [(1, .int .i64 1), (2, .string ⟨#[65]⟩)] = some (rcC (0, 1, ⟨#[65]⟩)) := by kernel_rfl
theorem exec_build {P : Program} {ρ : Operand → Value} {o : Oper} {t : TypeId} {ps : Array (Nat × Operand)} {vs : Array (Nat × Value)} {cells : Array Value} {w : World} (ho : o.op = .build t ps) (hv : ps.map (fun p => (p.1, ρ p.2)) = vs) (h : P.built t vs.toList = some cells) : (execOp ρ o).run P w = .ok (.value (.agg cells)) w := by
  subst hv
  simp [execOp, ho, run_build w t _ cells h, Result.andThen]
theorem run_idx0 (w : World) (g off n c : Nat) (hj : 0 < n) : (Instr.indexAt 40 (.slice (some ⟨g, off, none⟩) n c) (.int .i64 0)).run Try.prog w = .ok (.pointer (some ⟨g, off, none⟩)) w := by
  have h := run_idx w g off n c 0 hj
  simpa using h
theorem exec_rec_eql {ρ : Operand → Value} {o : Oper} {x y : Operand} {t2 : TypeId} (r : Rec) (w : World) (ho : o.op = .binOp .eql 62 x y t2) (hx : ρ x = rcV r) (hy : ρ y = rcV r) : (execOp ρ o).run Try.prog w = .ok (.value (.bool true)) w := by
  unfold execOp
  simp [ho, hx, hy, Sem.run_bind, run_eqGuard_agg, run_eql_struct, eq_rec, Result.andThen]
def dAB : List UInt8 := spl (List.replicate (1 * 256) 0) 0 ⟨#[97, 98]⟩
theorem dAB_length : dAB.length = 256 := by decide +kernel
theorem dAB_ld : ldV dAB 2147483648 2 = 25185 := by decide +kernel
theorem ok0 (dv mv : Value) : POk (mc0 dv mv) ⟨[], dAB, [0], []⟩ :=
  ⟨(show BdOk bdZ from ⟨⟨by decide, by decide⟩, ⟨by decide, by decide⟩, ⟨by decide, by decide⟩⟩), (show Pc.U32 bdZ.pl.c from ⟨by decide, by decide⟩), (fun f hf => by cases hf), (show (0 : Nat) ≤ 8796093022208 by decide), (show dAB.length ≤ 140737488351232 by rw [dAB_length]; decide), (show (1 : Nat) ≤ 17592186043904 by decide)⟩
theorem awake_ld (m : Mc) (F : List ByteArray) (M : List Int) (O : List Rec) : ldM m ⟨F, dAB, M, O⟩ 2147483648 2 = (m, ⟨F, dAB, M, O⟩, 25185, true) := by
  unfold ldM
  rw [if_pos (show stE dAB.length 2147483648 2 = 0 by rw [dAB_length]; decide +kernel)]
  rw [dAB_ld]
theorem awake_st (m : Mc) (M : List Int) (hn : m.nxt = 0) : stM m ⟨[], dAB, M, []⟩ 268435456 1 65 = ({ m with nxt := 1 }, ⟨[], dAB, M, [(0, 1, ⟨#[65]⟩)]⟩, true) := by
  have h1 : okB 1 = true := by decide
  have h2 : putB dAB.length 268435456 (bytesN (65 : Int).toNat (1 : Int).toNat) = false := by rw [dAB_length]; decide +kernel
  have h3 : ofB 268435456 = false := by decide
  have h4 : stF m.b [] 268435456 1 65 = (m.b, [], 1, ⟨#[65]⟩, true) := by
    unfold stF
    rw [if_neg (by decide), if_neg (by decide), if_pos (by decide)]
    rfl
  unfold stM
  rw [if_neg (by rw [h1]; decide), if_neg (by show ¬ putB dAB.length _ _ = true; rw [h2]; decide), if_neg (by rw [h3]; decide)]
  show (if (stF m.b [] 268435456 1 65).2.2.2.2 = true then _ else _) = _
  rw [h4]
  unfold acM actF
  rw [hn]
  rfl
set_option maxRecDepth 100000 in
set_option maxHeartbeats 4000000 in
theorem awake_any (W : World) : Calls Try.prog 7 #[] W fun e W' => e = .returned (.bool true) ∧ Below W.heap.size W W' := by
  have C0 := Lib.hid (fun w => (show Calls Try.prog 18 #[.int .i64 1, .string ⟨#[97, 98]⟩] w (NewMem w dAB [0] 0 0) from rnew_any 1 ⟨#[97, 98]⟩ w (by omega) (by omega) (by decide)))
  have X := Lib.hid (Mem.start W)
  go_enter Try.func7, Try.ntmps7
  go_upto_region 2 with (first | (go_at_call 18; (with_reducible refine (C0.out _).mono ?_); rintro e wb ⟨dv, mv, rfl, hd, hm, kk⟩; obtain ⟨p2, c2, rfl⟩ := owns_shape hd; obtain ⟨q2, d2, rfl⟩ := owns_shape hm; have XB := X.out.below.size; have X := Lib.hid (((X.out.next kk).addrow hd XB (by decide)).addrow hm XB (by decide)); clear kk hd hm XB) | (with_reducible refine wpList_store_by rfl rfl (ram_store X.out.newR.g0 rfl) rfl rfl ?_) | fail)
  have X := Lib.hid (X.out.newR.p0 (cs' := ramC (.slice p2 dAB.length c2) (.slice q2 [(0 : Int)].length d2) 0) rfl)
  generalize wb.heap.size = y at X ⊢
  generalize (wb.alloc ramZO).setRow y (ramC (.slice p2 dAB.length c2) (.slice q2 [(0 : Int)].length d2) 0) = wc at X ⊢
  go_upto_region 3 with (first | (with_reducible refine wpList_load_by rfl rfl (ram_load X.out.g0) rfl ?_) | ((with_reducible show wpList _ _ _ (⟨some 12, Op.build 42 _, _, _, _, _⟩ :: _) _ _); refine wpList_exec (by kernel_rfl) (exec_build rfl rfl (built0 _ _)) ?_; simp only [Act.put, List.setIfInBounds_toArray, List.set_cons_zero, List.set_cons_succ]) | (with_reducible refine wpList_store_by rfl rfl (MBox.store (mc0 (.slice p2 dAB.length c2) (.slice q2 [(0 : Int)].length d2)) ⟨rfl, rfl, rfl⟩ (X.out.new Try.zeroCells42 42 (by decide)).g0 (by kernel_rfl)) rfl rfl ?_) | fail)
  have X := Lib.hid ((X.out.new Try.zeroCells42 42 (by decide)).p0 (cs' := mcC (mc0 (.slice p2 dAB.length c2) (.slice q2 [(0 : Int)].length d2))) rfl)
  generalize wc.heap.size = z at X ⊢
  generalize (wc.alloc (Obj.cells Try.zeroCells42 42)).setRow z (mcC (mc0 (.slice p2 dAB.length c2) (.slice q2 [(0 : Int)].length d2))) = we at X ⊢
  generalize hm0 : mc0 (.slice p2 dAB.length c2) (.slice q2 [(0 : Int)].length d2) = m0 at X
  have K0 : MS we W.heap.size z m0 ⟨[], dAB, [0], []⟩ := by
    subst hm0
    exact ⟨X.out.g0, X.out.big _ (List.mem_cons_self ..), ft_none _ _, X.out.r1, X.out.r0, World.ownsRow_nil _ _ _ _⟩
  have P0 : POk m0 ⟨[], dAB, [0], []⟩ := by
    subst hm0
    exact ok0 _ _
  have C1 := ld_any z W.heap.size m0 ⟨[], dAB, [0], []⟩ 2147483648 2 we K0 X.out.below.size P0 (by decide) (by decide)
  rw [awake_ld] at C1
  have C1 := Lib.hid C1
  have HB := Lib.hid X.out.below
  have HK := Lib.hid K0
  have HP := Lib.hid P0
  have HN := Lib.hid (show m0.nxt = 0 by rw [← hm0]; rfl)
  clear X K0 P0 hm0 C0
  go_upto_region 4 with (first | (go_at_call 17; (with_reducible refine C1.out.mono ?_); rintro e wf ⟨rfl, q, c, dv, mv, ov, K1, T1, O1⟩) | fail)
  have HB := Lib.hid (Touch.below HB.out T1 (fun k hk => (HK.out.lt hk).1) HB.out.size)
  have P1 : POk { m0 with b := m0.b.at q 0 c, dv := dv, mv := mv, ov := ov } ⟨[], dAB, [0], []⟩ := ⟨⟨HP.out.bd.addr, HP.out.bd.nicA, HP.out.bd.sector⟩, HP.out.c, HP.out.fz, HP.out.fl, HP.out.dl, HP.out.ml⟩
  have C2 := st_any z W.heap.size _ _ 268435456 1 65 wf K1 HB.out.size P1 (by decide) (by decide) (by decide)
  rw [awake_st { m0 with b := m0.b.at q ([] : List ByteArray).length c, dv := dv, mv := mv, ov := ov } [0] HN.out] at C2
  have C2 := Lib.hid C2
  have HK1 := Lib.hid K1
  clear C1 T1 O1 P1 K1 HK HP HN
  go_upto_region 5 with (first | (go_at_call 15; (with_reducible refine C2.out.mono ?_); rintro e wg ⟨rfl, q3, c3, dv3, mv3, ov3, K2, T2, O2⟩) | fail)
  have HB := Lib.hid (Touch.below HB.out T2 (fun k hk => (HK1.out.lt hk).1) HB.out.size)
  generalize hm2 : ({ { ({ m0 with b := m0.b.at q ([] : List ByteArray).length c, dv := dv, mv := mv, ov := ov } : Mc) with nxt := 1 } with b := (m0.b.at q ([] : List ByteArray).length c).at q3 ([] : List ByteArray).length c3, dv := dv3, mv := mv3, ov := ov3 } : Mc) = m2 at K2
  have h1 : m2.nxt = 1 := by rw [← hm2]
  obtain ⟨g, off, cap, hv, _, _, hg, hc⟩ := Reads.at (reads_of_owns K2.o) (by decide)
  have m_o : wg.cell? ⟨z, 78, none⟩ = some (.slice (some ⟨g, off, none⟩) 1 cap) := (K2.box.cell_t 5).trans (by show some m2.ov = _; rw [hv]; rfl)
  have m_nxt : wg.cell? ⟨z, 77, none⟩ = some (.int .u64 1) := (K2.box.cell_t 4).trans (by show some (Value.int .u64 m2.nxt) = _; rw [h1])
  have D1 := Lib.hid (run_load_cells wg g off 62 (rcL (0, 1, ⟨#[65]⟩)) _ Try.underlying62 rfl size62 fun j v hj => hc j v (by unfold oC; simpa using hj))
  clear hv hc hg K2 T2 O2 C2 HK1 hm2 h1
  go_wp2_with (first | ((with_reducible show wpList _ _ _ (⟨some 35, Op.indexAddr 40 _ _, _, _, _, _⟩ :: _) _ _); refine wpList_exec (by kernel_rfl) (exec_idx rfl rfl rfl (run_idx0 wg g off 1 cap (by decide))) ?_; simp only [Act.put, List.setIfInBounds_toArray, List.set_cons_zero, List.set_cons_succ]) | ((with_reducible show wpList _ _ _ (⟨some 36, Op.load 62 _, _, _, _, _⟩ :: _) _ _); refine wpList_load_wanted (by kernel_rfl) rfl D1.out rfl ?_; simp only [Act.put, List.setIfInBounds_toArray, List.set_cons_zero, List.set_cons_succ]) | ((with_reducible show wpList _ _ _ (⟨some 37, Op.build 62 _, _, _, _, _⟩ :: _) _ _); refine wpList_exec (by kernel_rfl) (exec_build rfl rfl built1) ?_; simp only [Act.put, List.setIfInBounds_toArray, List.set_cons_zero, List.set_cons_succ]) | ((with_reducible show wpList _ _ _ (⟨some 38, Op.binOp .eql 62 _ _ _, _, _, _, _⟩ :: _) _ _); refine wpList_exec (by kernel_rfl) (exec_rec_eql (0, 1, ⟨#[65]⟩) wg rfl rfl rfl) ?_; simp only [Act.put, List.setIfInBounds_toArray, List.set_cons_zero, List.set_cons_succ]) | fail)
  go_ret
  exact ⟨rfl, HB.out⟩

end Go.Proofs.Ytnedhjaphfjdmaa
