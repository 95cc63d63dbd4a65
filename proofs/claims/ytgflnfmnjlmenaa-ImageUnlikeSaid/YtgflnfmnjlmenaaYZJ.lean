/- The numbers of a processor. -/
import Derived.Test.YtgflnfmnjlmenaaYZI
import Derived.Test.YtgflnfmnjlmenaaYTS
namespace Go
open Go.RowKit Go.Deep Go.Joins
theorem exec_append {P : Program} {ρ : Operand → Value} {o : Oper} {t : TypeId} {s x : Operand} {v u r : Value} {w w' : World} (ho : o.op = .call { callee := .builtin .append, args := #[s, x], argTypes := #[t, t] }) (hs : ρ s = v) (hx : ρ x = u)
    (hrun : (Builtin.append_ #[t, t] o.type #[v, u]).run P w = .ok r w') : (execOp ρ o).run P w = .ok (.value r) w' := by
  simp [execOp, ho, resolve, invoke, builtin, hs, hx, hrun, Result.andThen]
theorem calls_quiet {P : Program} {f : FuncId} {args : Array Value} {w : World} {v : Value} (h : Calls P f args w fun e w' => e = .returned v ∧ w = w') : Calls P f args w fun e w' => ∃ u, e = .returned u ∧ (u = v ∧ w = w') := h.mono fun _ _ h => ⟨v, h.1, rfl, h.2⟩
end Go
namespace Go.Proofs.Ytgflnfmnjlmenaa
open Go.RowKit Go.Deep Go.Joins
set_option maxRecDepth 100000
/-- The control registers in a block. -/
abbrev regC (c : Reg) : Array Value := #[.int .u64 c.s0, .int .u64 c.s1, .int .u64 c.s2, .int .u64 c.s3, .int .u64 c.s4, .int .u64 c.s5, .int .u64 c.s6, .int .u64 c.s7, .int .u64 c.s8, .int .u64 c.s9, .int .u64 c.s10, .int .u64 c.s11, .int .u64 c.s12, .int .u64 c.s13, .int .u64 c.s14, .int .u64 c.s15]
def RBox (w : World) (g : Nat) (c : Reg) : Prop := w.heap[g]? = some (.cells (regC c) 25 (0, 0))
theorem RBox.next {w w' : World} {g : Nat} {c : Reg} (k : RBox w g c) (j : Below w.heap.size w w') : RBox w' g c := (j.block g (Array.getElem?_eq_some_iff.1 k).1).trans k
theorem rg_new (w : World) (c : Reg) (cs : Array Value) (hs : cs.size = 16) : (Instr.storeAt 25 (.pointer (some ⟨w.heap.size, 0, none⟩)) (regV c)).run Try.prog (w.alloc (.cells cs 25)) = .ok () (w.alloc (.cells (regC c) 25)) := by
  exact run_storeAt_new w 25 cs (regC c) (by rw [size25]; rfl) (by rw [hs]; rfl) (by simp [Value.oneCell'])
theorem RBox.s0 {w : World} {g : Nat} {c : Reg} (k : RBox w g c) : (Instr.loadAt 22 (.pointer (some ⟨g, 0, none⟩))).run Try.prog w = .ok (.int .u64 c.s0) w := run_load_cell w g 0 22 25 (regC c) _ _ k Try.underlying22 rfl rfl
theorem RBox.s1 {w : World} {g : Nat} {c : Reg} (k : RBox w g c) : (Instr.loadAt 22 (.pointer (some ⟨g, 1, none⟩))).run Try.prog w = .ok (.int .u64 c.s1) w := run_load_cell w g 1 22 25 (regC c) _ _ k Try.underlying22 rfl rfl
theorem RBox.s2 {w : World} {g : Nat} {c : Reg} (k : RBox w g c) : (Instr.loadAt 22 (.pointer (some ⟨g, 2, none⟩))).run Try.prog w = .ok (.int .u64 c.s2) w := run_load_cell w g 2 22 25 (regC c) _ _ k Try.underlying22 rfl rfl
theorem RBox.s3 {w : World} {g : Nat} {c : Reg} (k : RBox w g c) : (Instr.loadAt 22 (.pointer (some ⟨g, 3, none⟩))).run Try.prog w = .ok (.int .u64 c.s3) w := run_load_cell w g 3 22 25 (regC c) _ _ k Try.underlying22 rfl rfl
theorem RBox.s4 {w : World} {g : Nat} {c : Reg} (k : RBox w g c) : (Instr.loadAt 22 (.pointer (some ⟨g, 4, none⟩))).run Try.prog w = .ok (.int .u64 c.s4) w := run_load_cell w g 4 22 25 (regC c) _ _ k Try.underlying22 rfl rfl
theorem RBox.s5 {w : World} {g : Nat} {c : Reg} (k : RBox w g c) : (Instr.loadAt 22 (.pointer (some ⟨g, 5, none⟩))).run Try.prog w = .ok (.int .u64 c.s5) w := run_load_cell w g 5 22 25 (regC c) _ _ k Try.underlying22 rfl rfl
theorem RBox.s6 {w : World} {g : Nat} {c : Reg} (k : RBox w g c) : (Instr.loadAt 22 (.pointer (some ⟨g, 6, none⟩))).run Try.prog w = .ok (.int .u64 c.s6) w := run_load_cell w g 6 22 25 (regC c) _ _ k Try.underlying22 rfl rfl
theorem RBox.s7 {w : World} {g : Nat} {c : Reg} (k : RBox w g c) : (Instr.loadAt 22 (.pointer (some ⟨g, 7, none⟩))).run Try.prog w = .ok (.int .u64 c.s7) w := run_load_cell w g 7 22 25 (regC c) _ _ k Try.underlying22 rfl rfl
theorem RBox.s8 {w : World} {g : Nat} {c : Reg} (k : RBox w g c) : (Instr.loadAt 22 (.pointer (some ⟨g, 8, none⟩))).run Try.prog w = .ok (.int .u64 c.s8) w := run_load_cell w g 8 22 25 (regC c) _ _ k Try.underlying22 rfl rfl
theorem RBox.s9 {w : World} {g : Nat} {c : Reg} (k : RBox w g c) : (Instr.loadAt 22 (.pointer (some ⟨g, 9, none⟩))).run Try.prog w = .ok (.int .u64 c.s9) w := run_load_cell w g 9 22 25 (regC c) _ _ k Try.underlying22 rfl rfl
theorem RBox.s10 {w : World} {g : Nat} {c : Reg} (k : RBox w g c) : (Instr.loadAt 22 (.pointer (some ⟨g, 10, none⟩))).run Try.prog w = .ok (.int .u64 c.s10) w := run_load_cell w g 10 22 25 (regC c) _ _ k Try.underlying22 rfl rfl
theorem RBox.s11 {w : World} {g : Nat} {c : Reg} (k : RBox w g c) : (Instr.loadAt 22 (.pointer (some ⟨g, 11, none⟩))).run Try.prog w = .ok (.int .u64 c.s11) w := run_load_cell w g 11 22 25 (regC c) _ _ k Try.underlying22 rfl rfl
theorem RBox.s12 {w : World} {g : Nat} {c : Reg} (k : RBox w g c) : (Instr.loadAt 22 (.pointer (some ⟨g, 12, none⟩))).run Try.prog w = .ok (.int .u64 c.s12) w := run_load_cell w g 12 22 25 (regC c) _ _ k Try.underlying22 rfl rfl
theorem RBox.s13 {w : World} {g : Nat} {c : Reg} (k : RBox w g c) : (Instr.loadAt 22 (.pointer (some ⟨g, 13, none⟩))).run Try.prog w = .ok (.int .u64 c.s13) w := run_load_cell w g 13 22 25 (regC c) _ _ k Try.underlying22 rfl rfl
theorem RBox.s14 {w : World} {g : Nat} {c : Reg} (k : RBox w g c) : (Instr.loadAt 22 (.pointer (some ⟨g, 14, none⟩))).run Try.prog w = .ok (.int .u64 c.s14) w := run_load_cell w g 14 22 25 (regC c) _ _ k Try.underlying22 rfl rfl
theorem RBox.s15 {w : World} {g : Nat} {c : Reg} (k : RBox w g c) : (Instr.loadAt 22 (.pointer (some ⟨g, 15, none⟩))).run Try.prog w = .ok (.int .u64 c.s15) w := run_load_cell w g 15 22 25 (regC c) _ _ k Try.underlying22 rfl rfl
/-- The numbers of a processor, behind its registers. -/
def procT (h : Hart) : List Int := [h.pc, IntKind.u64.wrap h.mode, flV h.held, h.rat, h.c.s0, h.c.s1, h.c.s2, h.c.s3, h.c.s4, h.c.s5, h.c.s6, h.c.s7, h.c.s8, h.c.s9, h.c.s10, h.c.s11, h.c.s12, h.c.s13, h.c.s14, h.c.s15]
def procL (h : Hart) : List Int := h.x ++ procT h
theorem procL_length (h : Hart) : (procL h).length = 52 := by unfold procL; rw [List.length_append, h.hx]; rfl
theorem x_reads {w : World} {g : Nat} {h : Hart} (k : Tr.Box w g h) : MAt w (.slice (some ⟨g, 0, none⟩) 32 32) h.x := by
  have hl : h.x.length = 32 := h.hx
  refine ⟨by unfold mC; rw [List.length_map, Nat.mul_one], .inr ⟨⟨g, 0, none⟩, 32, by rw [hl], by omega, by decide, fun j u hu => ?_⟩⟩
  have hj : j < 32 := by
    have := (List.getElem?_eq_some_iff.1 hu).1
    unfold mC at this
    rw [List.length_map, hl] at this
    exact this
  rw [add_lit, Nat.zero_add, cell_of_row w g j _ 27 (0, 0) k, hartC_x h j hj]
  exact hu
def ProcR (L : List Int) (W : World) (e : Ending) (W' : World) : Prop := ∃ q c, e = .returned (.slice q L.length c) ∧ RowM W W' (.slice q L.length c) L
set_option maxHeartbeats 4000000 in
theorem proc_any (h : Hart) (W : World) : Calls Try.prog 20 #[hartV h] W (ProcR (procL h) W) := by
  have X := Lib.hid (Tr.Box.new W h)
  have B := Lib.hid (below1 W (Tr.hartO h))
  go_enter Try.func20, Try.ntmps20
  go_upto_region 1 with fail
  generalize W.alloc (Tr.hartO h) = wa at X B ⊢
  go_upto_region 2 with (first | (with_reducible refine wpList_load_by rfl rfl (Tr.Box.load_c X.out) rfl ?_) | (with_reducible refine wpList_store_by rfl rfl (rg_new wa h.c _ rfl) rfl rfl ?_) | fail)
  have X := Lib.hid (X.out.next (below1 wa (.cells (regC h.c) 25)))
  have B := Lib.hid (below_then B.out (below1 wa (.cells (regC h.c) 25)))
  have Y := Lib.hid (show RBox (wa.alloc (.cells (regC h.c) 25)) wa.heap.size h.c from heap_alloc_last wa _)
  generalize wa.heap.size = z at Y ⊢
  generalize wa.alloc (.cells (regC h.c) 25) = wb at X B Y ⊢
  obtain ⟨q, c, w2, hr, ho, ht⟩ := app_u (w := wb) (B := W.heap.size) (v := .slice none 0 0) (L := []) (World.ownsRow_nil ..) (x_reads X.out) (by rw [h.hx]; decide) B.out.size 37
  have hb2 : Below wb.heap.size wb w2 := Touch.below (Below.refl _ _) ht (fun _ hk => by cases hk) (Nat.le_refl _)
  rw [List.nil_append] at hr ho
  have HR := Lib.hid hr
  have HO := Lib.hid ho
  have X2 := Lib.hid (X.out.next hb2)
  have B2 := Lib.hid (below_then B.out hb2)
  have Y2 := Lib.hid (Y.out.next hb2)
  clear hr ho ht hb2
  go_upto_region 3 with (first | (at_builtin; (refine wpList_append_run rfl _ _ 37 rfl _ _ _ rfl rfl _ HR.out ?_)) | fail)
  clear X B Y HR
  refine dr (fun w => Tr.Box w W.heap.size h ∧ RBox w z h.c) fun wz hzz => ?_
  have hS : Tr.Box wz W.heap.size h ∧ RBox wz z h.c := ⟨X2.out.next hzz, Y2.out.next hzz⟩
  have BZ := Lib.hid (below_then B2.out hzz)
  have OZ := Lib.hid (owns_below HO.out hzz)
  clear hzz X2 Y2 B2 HO
  refine tk 0 hS ?_
  refine tk 1 hS ?_
  refine tl 2 hS (fun w hw => Tr.Box.load_pc hw.1) ?_
  refine tk 3 hS ?_
  refine tl 4 hS (fun w hw => Tr.Box.load_mode hw.1) ?_
  refine tk 5 hS ?_
  refine tk 6 hS ?_
  refine tl 7 hS (fun w hw => Tr.Box.load_held hw.1) ?_
  refine tk 9 hS ?_
  refine tl 10 hS (fun w hw => Tr.Box.load_rat hw.1) ?_
  refine tk 11 hS ?_
  refine tl 12 hS (fun w hw => RBox.s0 hw.2) ?_
  refine tk 13 hS ?_
  refine tl 14 hS (fun w hw => RBox.s1 hw.2) ?_
  refine tk 15 hS ?_
  refine tl 16 hS (fun w hw => RBox.s2 hw.2) ?_
  refine tk 17 hS ?_
  refine tl 18 hS (fun w hw => RBox.s3 hw.2) ?_
  refine tk 19 hS ?_
  refine tl 20 hS (fun w hw => RBox.s4 hw.2) ?_
  refine tk 21 hS ?_
  refine tl 22 hS (fun w hw => RBox.s5 hw.2) ?_
  refine tk 23 hS ?_
  refine tl 24 hS (fun w hw => RBox.s6 hw.2) ?_
  refine tk 25 hS ?_
  refine tl 26 hS (fun w hw => RBox.s7 hw.2) ?_
  refine tk 27 hS ?_
  refine tl 28 hS (fun w hw => RBox.s8 hw.2) ?_
  refine tk 29 hS ?_
  refine tl 30 hS (fun w hw => RBox.s9 hw.2) ?_
  refine tk 31 hS ?_
  refine tl 32 hS (fun w hw => RBox.s10 hw.2) ?_
  refine tk 33 hS ?_
  refine tl 34 hS (fun w hw => RBox.s11 hw.2) ?_
  refine tk 35 hS ?_
  refine tl 36 hS (fun w hw => RBox.s12 hw.2) ?_
  refine tk 37 hS ?_
  refine tl 38 hS (fun w hw => RBox.s13 hw.2) ?_
  refine tk 39 hS ?_
  refine tl 40 hS (fun w hw => RBox.s14 hw.2) ?_
  refine tk 41 hS ?_
  refine tl 42 hS (fun w hw => RBox.s15 hw.2) ?_
  refine hc 8 (calls_quiet (flag_any h.held wz)) ?_
  rintro v' wb' ⟨rfl, rfl⟩
  refine ⟨hS, fun hS => ?_⟩
  simp only [puts]
  have b3 := below1 wz (.cells #[.int .u64 (h.pc), .int .u64 (IntKind.u64.wrap h.mode), .int .u64 (flV h.held), .int .u64 (h.rat), .int .u64 (h.c.s0), .int .u64 (h.c.s1), .int .u64 (h.c.s2), .int .u64 (h.c.s3), .int .u64 (h.c.s4), .int .u64 (h.c.s5), .int .u64 (h.c.s6), .int .u64 (h.c.s7), .int .u64 (h.c.s8), .int .u64 (h.c.s9), .int .u64 (h.c.s10), .int .u64 (h.c.s11), .int .u64 (h.c.s12), .int .u64 (h.c.s13), .int .u64 (h.c.s14), .int .u64 (h.c.s15)] 22)
  have hS3 : Tr.Box (wz.alloc (.cells #[.int .u64 (h.pc), .int .u64 (IntKind.u64.wrap h.mode), .int .u64 (flV h.held), .int .u64 (h.rat), .int .u64 (h.c.s0), .int .u64 (h.c.s1), .int .u64 (h.c.s2), .int .u64 (h.c.s3), .int .u64 (h.c.s4), .int .u64 (h.c.s5), .int .u64 (h.c.s6), .int .u64 (h.c.s7), .int .u64 (h.c.s8), .int .u64 (h.c.s9), .int .u64 (h.c.s10), .int .u64 (h.c.s11), .int .u64 (h.c.s12), .int .u64 (h.c.s13), .int .u64 (h.c.s14), .int .u64 (h.c.s15)] 22)) W.heap.size h ∧ RBox (wz.alloc (.cells #[.int .u64 (h.pc), .int .u64 (IntKind.u64.wrap h.mode), .int .u64 (flV h.held), .int .u64 (h.rat), .int .u64 (h.c.s0), .int .u64 (h.c.s1), .int .u64 (h.c.s2), .int .u64 (h.c.s3), .int .u64 (h.c.s4), .int .u64 (h.c.s5), .int .u64 (h.c.s6), .int .u64 (h.c.s7), .int .u64 (h.c.s8), .int .u64 (h.c.s9), .int .u64 (h.c.s10), .int .u64 (h.c.s11), .int .u64 (h.c.s12), .int .u64 (h.c.s13), .int .u64 (h.c.s14), .int .u64 (h.c.s15)] 22)) z h.c := ⟨hS.1.next b3, hS.2.next b3⟩
  have hr3 : MAt (wz.alloc (.cells #[.int .u64 (h.pc), .int .u64 (IntKind.u64.wrap h.mode), .int .u64 (flV h.held), .int .u64 (h.rat), .int .u64 (h.c.s0), .int .u64 (h.c.s1), .int .u64 (h.c.s2), .int .u64 (h.c.s3), .int .u64 (h.c.s4), .int .u64 (h.c.s5), .int .u64 (h.c.s6), .int .u64 (h.c.s7), .int .u64 (h.c.s8), .int .u64 (h.c.s9), .int .u64 (h.c.s10), .int .u64 (h.c.s11), .int .u64 (h.c.s12), .int .u64 (h.c.s13), .int .u64 (h.c.s14), .int .u64 (h.c.s15)] 22)) (.slice (some ⟨wz.heap.size, 0, none⟩) 20 20) (procT h) := reads_of_owns (World.ownsRow_lit (base := 0) (e := 22) (size := 1) wz #[.int .u64 (h.pc), .int .u64 (IntKind.u64.wrap h.mode), .int .u64 (flV h.held), .int .u64 (h.rat), .int .u64 (h.c.s0), .int .u64 (h.c.s1), .int .u64 (h.c.s2), .int .u64 (h.c.s3), .int .u64 (h.c.s4), .int .u64 (h.c.s5), .int .u64 (h.c.s6), .int .u64 (h.c.s7), .int .u64 (h.c.s8), .int .u64 (h.c.s9), .int .u64 (h.c.s10), .int .u64 (h.c.s11), .int .u64 (h.c.s12), .int .u64 (h.c.s13), .int .u64 (h.c.s14), .int .u64 (h.c.s15)] 20 (Nat.zero_le _) (by unfold maxLen; omega) rfl)
  obtain ⟨q4, c4, w4, hr4, ho4, ht4⟩ := app_u (owns_below OZ.out b3) hr3 (by rw [h.hx]; show 32 + 20 ≤ _; decide) (Nat.le_trans BZ.out.size b3.size) 37
  rw [show h.x ++ procT h = procL h from rfl] at hr4 ho4
  have hS4 : Tr.Box w4 W.heap.size h ∧ RBox w4 z h.c := ⟨app_box (owns_below OZ.out b3) ht4 hS3.1 (by decide), app_box (owns_below OZ.out b3) ht4 hS3.2 (by decide)⟩
  refine ho 43 (w' := wz.alloc (.cells #[.int .u64 (h.pc), .int .u64 (IntKind.u64.wrap h.mode), .int .u64 (flV h.held), .int .u64 (h.rat), .int .u64 (h.c.s0), .int .u64 (h.c.s1), .int .u64 (h.c.s2), .int .u64 (h.c.s3), .int .u64 (h.c.s4), .int .u64 (h.c.s5), .int .u64 (h.c.s6), .int .u64 (h.c.s7), .int .u64 (h.c.s8), .int .u64 (h.c.s9), .int .u64 (h.c.s10), .int .u64 (h.c.s11), .int .u64 (h.c.s12), .int .u64 (h.c.s13), .int .u64 (h.c.s14), .int .u64 (h.c.s15)] 22)) (v := .slice (some ⟨wz.heap.size, 0, none⟩) 20 20) hS3 ?_
  refine ho 44 (w' := w4) (v := .slice q4 (procL h).length c4) hS4 ?_ (hrun := exec_append rfl rfl rfl hr4)
  refine tk 45 hS4 ?_
  refine wpAnyH_done (by kernel_rfl) ?_ _
  have R := Lib.hid (show RowM W w4 (.slice q4 (procL h).length c4) (procL h) from ⟨app_below (below_then BZ.out b3) (owns_below OZ.out b3) ht4, ho4⟩)
  clear hS3 hr3 hr4 ho4 ht4 hS4 b3 hS
  go_wp2_with fail
  go_ret
  exact ⟨q4, c4, rfl, R.out⟩
end Go.Proofs.Ytgflnfmnjlmenaa
