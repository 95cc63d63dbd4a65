/- HartInterrupted: the walk. -/
import Derived.Test.YtjohcpokmdofkaaGreatDoorYHD
namespace Go.Proofs.YtjohcpokmdofkaaGreatDoor
open Go.RowKit Go.Deep Go.Joins
set_option maxRecDepth 100000 in
set_option maxHeartbeats 4000000 in
theorem int_walk (m : Mc) (p : Pt) (L : List Int) (wq : Option Addr) (wl : Nat) (W : World) (K : MR W m p) (hF : p.F.length ≤ 8796093022208) (hD : p.D.length ≤ 140737488351232) (hM : p.M.length ≤ 17592186043904) (hO : p.O.length * 32 ≤ 140737488355328) (hL : Reads W (.slice wq L.length wl) 1 L.length (L.map (.int .u32))) (hu : ∀ n ∈ L, 0 ≤ n ∧ n < 4294967296) (hA : ∀ w, Below W.heap.size W w → Calls Tryz.prog 7 #[] w fun e w' => e = .returned (.bool true) ∧ Below w.heap.size w w') : Calls Tryz.prog 6 #[mcV m, .slice wq L.length wl] W fun e W' => e = .returned (.bool true) ∧ Below W.heap.size W W' := by
  have C0 := Lib.hid hA
  have C1 := Lib.hid (fun w (h : Below W.heap.size W w) => at_any m p L wq wl w (K.next h) hF hD hM hO (hL.below h) hu)
  have HSZ := Lib.hid (And.intro hF (And.intro hD (And.intro hM hO)))
  clear K hF hD hM hO hL hu hA
  go_enter Tryz.func6, Tryz.ntmps6
  go_upto_region 1 with (fail)
  have X := Lib.hid ((Mem.start W).new (mcC m) 42 (by decide))
  generalize W.alloc (Obj.cells (mcC m) 42) = wa at X ⊢
  go_upto_region 4 with (first | (go_at_call 7; (with_reducible refine (C0.out _ X.out.below).mono ?_); rintro e wb ⟨rfl, kk⟩; have X := Lib.hid (X.out.next kk); clear kk) | (with_reducible refine wpList_load_by rfl rfl (MBox.load X.out.m0) rfl ?_) | (go_at_call 8; (with_reducible refine (C1.out _ X.out.below).mono ?_); rintro e wn ⟨q, c, dv, mv, ov, D, M, rfl, hcp, hdl, hml, kk⟩; have CA := Lib.hid (hcp.base X.out.below.size); have HDL := Lib.hid (And.intro hdl hml); have HONE : RowKit.Hid (Mc1 { m with h := baseH m.h, b := m.b.at q p.F.length c, dv := dv, mv := mv, ov := ov }) := Lib.hid (CP.one (p := { p with D := D, M := M }) (m := { m with h := baseH m.h }) hcp); have X := Lib.hid (X.out.next kk); clear kk hcp hdl hml) | (with_reducible refine wpList_store_by rfl rfl (MBox.store { m with h := baseH m.h, b := m.b.at q p.F.length c, dv := dv, mv := mv, ov := ov } HONE.out X.out.newM.g0 (by kernel_rfl)) rfl rfl ?_) | fail)
  generalize hmb : ({ m with h := baseH m.h } : Mc) = mb
  have hpc : mb.h.pc = 2147483648 := by rw [← hmb]; rfl
  have hbx : ({ m with h := baseH m.h, b := m.b.at q p.F.length c, dv := dv, mv := mv, ov := ov } : Mc) = atM mb p.F.length q c dv mv ov := by rw [← hmb]
  rw [hbx]
  have HPC := Lib.hid hpc
  clear hpc hbx hmb
  have CA := Lib.hid ((CA.out.next (below1 wn mcZO)).over X.out.newM.g0 (mcC (atM mb p.F.length q c dv mv ov)))
  have X := Lib.hid (X.out.newM.p0 (cs' := mcC (atM mb p.F.length q c dv mv ov)) rfl)
  generalize wn.heap.size = z at X CA ⊢
  generalize (wn.alloc mcZO).setRow z (mcC (atM mb p.F.length q c dv mv ov)) = wd at X CA ⊢
  clear C0 C1
  obtain ⟨m0, hm0⟩ : ∃ m0, m0 = atM mb p.F.length q c dv mv ov := ⟨_, rfl⟩
  rw [← hm0] at X
  have HM0 := Lib.hid hm0
  clear hm0
  have S1 := Lib.hid (MBox.store_h (m' := { m0 with h := modeH m0.h }) X.out.m0 3 1 (.int .i64 0) size3 rfl rfl (by decide) rfl rfl rfl rfl)
  have X1 := Lib.hid (X.out.p0 (cs' := mcC { m0 with h := modeH m0.h }) rfl)
  have CA1 := Lib.hid (CA.out.over X.out.g0 (mcC { m0 with h := modeH m0.h }))
  generalize wd.setRow z (mcC { m0 with h := modeH m0.h }) = w1 at S1 X1 CA1
  have S2 := Lib.hid (MBox.store_h (m' := { m0 with h := delH (modeH m0.h) }) X1.out.m0 22 4 (.int .u64 0) size22 rfl rfl (by decide) rfl rfl rfl rfl)
  have X2 := Lib.hid (X1.out.p0 (cs' := mcC { m0 with h := delH (modeH m0.h) }) rfl)
  have CA2 := Lib.hid (CA1.out.over X1.out.g0 (mcC { m0 with h := delH (modeH m0.h) }))
  generalize w1.setRow z (mcC { m0 with h := delH (modeH m0.h) }) = w2 at S2 X2 CA2
  have S3 := Lib.hid (MBox.store_h (m' := { m0 with h := mieH (delH (modeH m0.h)) }) X2.out.m0 22 5 (.int .u64 (bits .or .u64 m0.h.c.s3 8)) size22 rfl rfl (by decide) rfl rfl rfl rfl)
  have m_ie : w2.cell? ⟨z, 37, none⟩ = some (.int .u64 m0.h.c.s3) := MBox.hcell X2.out.m0 5 (by decide)
  have X3 := Lib.hid (X2.out.p0 (cs' := mcC { m0 with h := mieH (delH (modeH m0.h)) }) rfl)
  have CA3 := Lib.hid (CA2.out.over X2.out.g0 (mcC { m0 with h := mieH (delH (modeH m0.h)) }))
  generalize w2.setRow z (mcC { m0 with h := mieH (delH (modeH m0.h)) }) = w3 at S3 X3 CA3
  have S4 : RowKit.Hid ((Instr.storeAt 4 (.pointer (some ⟨z, 52, none⟩)) (.bool true)).run Tryz.prog w3 = .ok () (w3.setRow z (mcC (lawM m0)))) := Lib.hid (MBox.store_msip X3.out.m0 true)
  have X4 := Lib.hid (X3.out.p0 (cs' := mcC (lawM m0)) rfl)
  have CA4 := Lib.hid (CA3.out.over X3.out.g0 (mcC (lawM m0)))
  generalize w3.setRow z (mcC (lawM m0)) = w4 at S4 X4 CA4
  clear X X1 X2 X3 CA CA1 CA2 CA3
  go_upto_region 7 with (first | (with_reducible refine wpList_store_by rfl rfl S1.out rfl rfl ?_) | (with_reducible refine wpList_store_by rfl rfl S2.out rfl rfl ?_) | (with_reducible refine wpList_store_by rfl rfl S3.out rfl rfl ?_) | (with_reducible refine wpList_store_by rfl rfl S4.out rfl rfl ?_) | fail)
  clear S1 S2 S3 S4 m_ie
  have KA := Lib.hid (show MS w4 W.heap.size z (lawM m0) { p with D := D, M := M } from by
    have k := CP.ms (m := lawM mb) CA4.out (X4.out.big _ (List.mem_cons_self ..)) (show MBox w4 z (atM (lawM mb) p.F.length q c dv mv ov) from by have h := X4.out.m0; rw [HM0.out] at h; exact h)
    rw [HM0.out]
    exact k)
  have HPN := Lib.hid (pend_law m0 { p with D := D, M := M })
  have HTK := Lib.hid (fun n hn => take_law m0 n hn)
  have HP2 := Lib.hid (show (lawM m0).h.pc = 2147483648 by rw [HM0.out]; exact HPC.out)
  clear CA4 HPC HM0
  generalize lawM m0 = A at KA X4 HPN HTK HP2 ⊢
  have HLN := Lib.hid (show ({ p with D := D, M := M } : Pt).F.length ≤ 8796093022208 ∧ ({ p with D := D, M := M } : Pt).D.length ≤ 140737488351232 ∧ ({ p with D := D, M := M } : Pt).M.length ≤ 17592186043904 ∧ ({ p with D := D, M := M } : Pt).O.length * 32 ≤ 140737488355328 from ⟨HSZ.out.1, by rw [show ({ p with D := D, M := M } : Pt).D.length = p.D.length from HDL.out.1]; exact HSZ.out.2.1, by rw [show ({ p with D := D, M := M } : Pt).M.length = p.M.length from HDL.out.2]; exact HSZ.out.2.2.1, HSZ.out.2.2.2⟩)
  generalize ({ p with D := D, M := M } : Pt) = P at KA HPN HLN
  clear HSZ HDL HONE
  have C6 := Lib.hid (fun w (h : Below w4.heap.size w4 w) => rmcopy_any A P w (KA.out.next h).rd HLN.out.1 HLN.out.2.1 HLN.out.2.2.1 HLN.out.2.2.2)
  have Y := Lib.hid (Mem.start w4)
  go_upto_region 8 with (first | (with_reducible refine wpList_load_by rfl rfl (MBox.load (KA.out.next Y.out.below).box) rfl ?_) | (go_at_call 16; (with_reducible refine (C6.out _ Y.out.below).mono ?_); rintro e wn ⟨q2, c2, dv2, mv2, ov2, rfl, h1, h2, h3, h4, kk⟩; have CB := Lib.hid (CP.base (CP.mk h1 h2 h3 h4) Y.out.below.size); have Y := Lib.hid (Y.out.next kk); clear kk h1 h2 h3 h4) | (with_reducible refine wpList_store_by rfl rfl (MBox.store (atM A P.F.length q2 c2 dv2 mv2 ov2) CB.out.one Y.out.newM.g0 (by kernel_rfl)) rfl rfl ?_) | fail)
  have CB := Lib.hid ((CB.out.next (below1 wn mcZO)).over Y.out.newM.g0 (mcC (atM A P.F.length q2 c2 dv2 mv2 ov2)))
  have Y := Lib.hid (Y.out.newM.p0 (cs' := mcC (atM A P.F.length q2 c2 dv2 mv2 ov2)) rfl)
  generalize wn.heap.size = y at Y CB ⊢
  generalize (wn.alloc mcZO).setRow y (mcC (atM A P.F.length q2 c2 dv2 mv2 ov2)) = w5 at Y CB ⊢
  clear C6
  have KA5 := Lib.hid (KA.out.next Y.out.below)
  have hyz : y ≠ z := by have h1 : w4.heap.size ≤ y := Y.out.big _ (List.mem_cons_self ..); have h2 := KA.out.box.lt; omega
  have HYZ := Lib.hid hyz
  have B5 := Lib.hid (below_then X4.out.below Y.out.below)
  clear hyz
  obtain ⟨n, hn, hpn⟩ : ∃ n : Nat, (n = 11 ∨ n = 3) ∧ Tr.pendV A.h (linesV A P) = n := by
    rcases HPN.out with h | h
    · exact ⟨11, .inl rfl, h⟩
    · exact ⟨3, .inr rfl, h⟩
  have C7 := Lib.hid (hstep_int z W.heap.size A P n w5 KA5.out hpn (by omega))
  have HT := Lib.hid (HTK.out n hn)
  clear hpn hn HTK HPN
  go_upto_region 9 with (first | (go_at_call 10; (with_reducible refine C7.out.mono ?_); rintro e w6 ⟨rfl, k6, t6⟩) | fail)
  have yb : MBox w6 y (atM A P.F.length q2 c2 dv2 mv2 ov2) := (t6.block y (Array.getElem?_eq_some_iff.1 Y.out.g0).1 HYZ.out).trans Y.out.g0
  have B6 := Lib.hid (show Below W.heap.size W w6 from Touch.below B5.out t6 (fun x hx => by subst hx; exact KA.out.big) B5.out.size)
  have CB6 : MR w6 (atM A P.F.length q2 c2 dv2 mv2 ov2) P := by
    have k5 : MS w5 w4.heap.size y (atM A P.F.length q2 c2 dv2 mv2 ov2) P := CB.out.ms (Y.out.big _ (List.mem_cons_self ..)) Y.out.m0
    exact (k5.keep fun g hg => t6.block g (k5.lt hg).2 fun e => by
      have h1 := (k5.lt hg).1
      have h2 := KA.out.box.lt
      omega).rd
  have CS := Lib.hid (same_true A.dv A.mv dv2 mv2 A.E P.D P.M w6 k6.rd.d k6.rd.mm CB6.d CB6.mm)
  obtain ⟨o1, l1, e1⟩ := owns_shape k6.o
  obtain ⟨o2, l2, e2⟩ := CB6.o.is
  have m_mode : w6.cell? ⟨z, 33, none⟩ = some (.int .i64 3) := (MBox.hcell k6.box 1 (by decide)).trans (by show some (Value.int .i64 (Tr.takeF A.h n true 0).mode) = _; rw [HT.out.mode])
  obtain ⟨cv, hcv⟩ : ∃ cv, (Tr.takeF A.h n true 0).c.s8 = cv := ⟨_, rfl⟩
  have m_cause : w6.cell? ⟨z, 42, none⟩ = some (.int .u64 cv) := (MBox.hcell k6.box 10 (by decide)).trans (by rw [← hcv]; rfl)
  have hcv1 : cv / 9223372036854775808 = 1 := by rw [← hcv]; exact HT.out.cause
  have m_epc : w6.cell? ⟨z, 41, none⟩ = some (.int .u64 2147483648) := (MBox.hcell k6.box 9 (by decide)).trans (by
    show some (Value.int .u64 (Tr.takeF A.h n true 0).c.s7) = _
    rw [HT.out.epc, HP2.out]
    rfl)
  have hx1 : xC (hintM A n).h = xC A.h := by
    unfold xC xL
    rw [show (hintM A n).h.x = A.h.x from HT.out.x]
  have LX := Lib.hid (show (Instr.loadAt 23 (.pointer (some ⟨z, 0, none⟩))).run Tryz.prog w6 = .ok (.agg (xC A.h)) w6 from hx1 ▸ MBox.load_x k6.box)
  have LY := Lib.hid (MBox.load_x yb)
  have RX := Lib.hid (show (Instr.loadAt 39 (.pointer (some ⟨z, 73, none⟩))).run Tryz.prog w6 = .ok (.agg #[A.dv, A.mv, .int .u64 A.E]) w6 from MBox.load_ram (m := hintM A n) k6.box)
  have RY := Lib.hid (show (Instr.loadAt 39 (.pointer (some ⟨y, 73, none⟩))).run Tryz.prog w6 = .ok (.agg #[dv2, mv2, .int .u64 A.E]) w6 from MBox.load_ram (m := atM A P.F.length q2 c2 dv2 mv2 ov2) yb)
  have OX := Lib.hid (fun w (h : Below w6.heap.size w6 w) => MBox.load_o' (k6.next h).box e1)
  have OY := Lib.hid (fun w (h : Below w6.heap.size w6 w) => MBox.load_o' (MBox.next yb h) e2)
  have V := Lib.hid (Below.refl w6.heap.size w6)
  clear k6 t6 yb CB6 e1 e2 hx1 hcv
  go_wp2_with (first | ((with_reducible show wpList _ _ _ (⟨some 52, Op.load 23 _, _, _, _, _⟩ :: _) _ _); refine wpList_load_wanted (by kernel_rfl) rfl LX.out rfl ?_; simp only [Act.put, List.setIfInBounds_toArray, List.set_cons_zero, List.set_cons_succ]) | ((with_reducible show wpList _ _ _ (⟨some 55, Op.load 23 _, _, _, _, _⟩ :: _) _ _); refine wpList_load_wanted (by kernel_rfl) rfl LY.out rfl ?_; simp only [Act.put, List.setIfInBounds_toArray, List.set_cons_zero, List.set_cons_succ]) | ((with_reducible show wpList _ _ _ (⟨some 56, Op.binOp .eql 23 _ _ _, _, _, _, _⟩ :: _) _ _); refine wpList_exec (by kernel_rfl) (exec_x A.h _ rfl rfl rfl) ?_; simp only [Act.put, List.setIfInBounds_toArray, List.set_cons_zero, List.set_cons_succ]) | ((with_reducible show wpList _ _ _ (⟨some 60, Op.load 39 _, _, _, _, _⟩ :: _) _ _); refine wpList_load_wanted (by kernel_rfl) rfl RX.out rfl ?_; simp only [Act.put, List.setIfInBounds_toArray, List.set_cons_zero, List.set_cons_succ]) | ((with_reducible show wpList _ _ _ (⟨some 62, Op.load 39 _, _, _, _, _⟩ :: _) _ _); refine wpList_load_wanted (by kernel_rfl) rfl RY.out rfl ?_; simp only [Act.put, List.setIfInBounds_toArray, List.set_cons_zero, List.set_cons_succ]) | (go_at_call 17; (with_reducible refine CS.out.mono ?_); rintro e wq ⟨rfl, kk⟩; have V := Lib.hid (below_then V.out kk); clear kk) | ((with_reducible show wpList _ _ _ (⟨some 67, Op.load 40 _, _, _, _, _⟩ :: _) _ _); refine wpList_load_wanted (by kernel_rfl) rfl (OX.out _ V.out) rfl ?_; simp only [Act.put, List.setIfInBounds_toArray, List.set_cons_zero, List.set_cons_succ]) | ((with_reducible show wpList _ _ _ (⟨some 70, Op.load 40 _, _, _, _, _⟩ :: _) _ _); refine wpList_load_wanted (by kernel_rfl) rfl (OY.out _ V.out) rfl ?_; simp only [Act.put, List.setIfInBounds_toArray, List.set_cons_zero, List.set_cons_succ]) | fail)
  go_ret
  exact ⟨rfl, below_then B6.out V.out⟩

end Go.Proofs.YtjohcpokmdofkaaGreatDoor
