/- Copy of a machine. Equal to itself. The same machine: true. awake. Nothing there, nothing done; copies of a machine. -/
import Derived.Test.YtnedhjaphfjdmaaYBT
import Derived.Test.YtnedhjaphfjdmaaYRD
import Derived.Test.YtnedhjaphfjdmaaYRY
namespace Go.Proofs.Ytnedhjaphfjdmaa
open Go.RowKit Go.Deep Go.Joins
/-- A machine's parts, to be read. -/
structure MR (w : World) (m : Mc) (p : Pt) : Prop where
  fr : FAt w (.slice m.b.fp m.b.fn m.b.fc) p.F
  d : DAt w m.dv p.D
  mm : MAt w m.mv p.M
  o : Reads w m.ov 3 p.O.length (oC p.O)
theorem MR.next {w w' : World} {m : Mc} {p : Pt} (h : MR w m p) (hb : Below w.heap.size w w') : MR w' m p := ⟨h.fr.next hb, h.d.below hb, h.mm.below hb, h.o.below hb⟩
theorem MS.rd {w : World} {B z : Nat} {m : Mc} {p : Pt} (h : MS w B z m p) : MR w m p := ⟨h.fr.rd, h.d.at, h.mm.at, reads_of_owns h.o⟩
theorem Mem.two {W : World} (cs cs' : Array Value) : Mem W ((W.alloc (.cells cs 42)).alloc (.cells cs' 42)) [(W.heap.size + 1, cs', 42), (W.heap.size, cs, 42)] [] := by
  have h := ((Mem.start W).new cs 42 (by decide)).new cs' 42 (by decide)
  rwa [World.size_alloc] at h
theorem Mem.m1 {W w : World} {x0 : Nat × Array Value × Nat} {k : Nat} {m : Mc} {l : List (Nat × Array Value × Nat)} {r : List (Nat × Value × Nat × List Value)} (h : Mem W w (x0 :: (k, mcC m, 42) :: l) r) : MBox w k m := h.g1
theorem MBox.load_b' {w : World} {g : Nat} {m : Mc} (k : MBox w g m) {b : Bd} (e : m.b = b) : (Instr.loadAt 35 (.pointer (some ⟨g, 52, none⟩))).run Try.prog w = .ok (bdV b) w := by subst e; exact k.load_b
theorem MBox.load_o' {w : World} {g : Nat} {m : Mc} (k : MBox w g m) {v : Value} (e : m.ov = v) : (Instr.loadAt 40 (.pointer (some ⟨g, 78, none⟩))).run Try.prog w = .ok v w := by subst e; exact k.load_o
theorem run_append_firstN (w : World) (t ty e : TypeId) (i : TypeInfo) (z : Value) (size bytes : Nat) (ht : Try.prog.underlying t = some (.slice e)) (hi : Try.prog.info? e = some i) (hz : i.zero = some z) (hsize : i.size = size) (hby : i.bytes = bytes) (hzs : z.cells.size = size) (h0 : 0 < size)
    (B g : Nat) (hg : w.heap[g]? = some (.cells #[] e (0, 0))) (hB : B ≤ g) (q : Option Addr) (n c : Nat) (cells : List Value) (hr : Reads w (.slice q n c) size n cells) (h1 : ∀ u ∈ cells, u.oneCell' = true) (h63 : n ≤ maxLen) (hbytes : n * bytes ≤ 140737488355328) (hbase : B ≤ w.heap.size) :
    ∃ p cap w', (Builtin.append_ #[t, t] ty #[.slice (some ⟨g, 0, none⟩) 0 0, .slice q n c]).run Try.prog w = .ok (.slice p n cap) w' ∧ w'.ownsRow B e size (.slice p n cap) n cells ∧ Touch w w' (fun k => k = g) := by
  have hown := owns_empty (w := w) (B := B) (size := size) hg hB
  have hl := hr.1
  rcases hr.2 with ⟨e1, rfl⟩ | ⟨a, c2, e1, _, _, hc⟩
  · simp only [Value.slice.injEq] at e1
    obtain ⟨rfl, _, rfl⟩ := e1
    obtain rfl : cells = [] := List.eq_nil_of_length_eq_zero (by rw [hl, Nat.zero_mul])
    refine ⟨_, _, w, run_append_owned_none (P := Try.prog) w B t ty e i size ht hi _ 0 [] hown, hown, Touch.refl _ _⟩
  · simp only [Value.slice.injEq, true_and] at e1
    obtain ⟨rfl, rfl⟩ := e1
    obtain ⟨v', w', hrun, ho, hgr, _⟩ := run_append_own (P := Try.prog) w B t ty e i z size bytes ht hi hz hsize hby hzs h0 _ 0 [] hown a n c cells hl hc h1 (by omega) (by rw [Nat.zero_add]; exact hbytes) hbase
    rw [Nat.zero_add, List.nil_append] at ho
    obtain ⟨p, cap, rfl⟩ := owns_shape ho
    exact ⟨p, cap, w', hrun, ho, (touch_of_grown hgr).mono (fun k _ hk => by cases hk; rfl)⟩
/-- The records, laid into a row of their own. -/
theorem run_recs (w : World) (q : Option Addr) (c : Nat) (O : List Rec) (hr : Reads w (.slice q O.length c) 3 O.length (oC O)) (hO : O.length * 32 ≤ 140737488355328) : ∃ p cap w', (Builtin.append_ #[40, 40] 40 #[.slice (some ⟨w.heap.size, 0, none⟩) 0 0, .slice q O.length c]).run Try.prog (w.alloc (.cells #[] 62)) = .ok (.slice p O.length cap) w' ∧ w'.ownsRow w.heap.size 62 3 (.slice p O.length cap) O.length (oC O) ∧ Below w.heap.size w w' := by
  obtain ⟨i, hi, hz, hs, hb⟩ := info62
  obtain ⟨p, cap, w2, hrun, ho, ht⟩ := run_append_firstN (w.alloc (.cells #[] 62)) 40 40 62 i (.agg rcZ) 3 32 Try.underlying40 hi hz hs hb rfl (by omega) w.heap.size w.heap.size (heap_alloc_last w _) (Nat.le_refl _) q O.length c (oC O) (hr.below (below1 w _)) (oC_one O) (by unfold maxLen; omega) hO (by simp)
  exact ⟨p, cap, w2, hrun, ho, Touch.below (below1 w _) ht (fun k hk => by omega) (by simp)⟩
set_option maxRecDepth 100000 in
set_option maxHeartbeats 4000000 in
theorem rmcopy_any (m : Mc) (p : Pt) (W : World) (K : MR W m p) (hF : p.F.length ≤ 8796093022208) (hD : p.D.length ≤ 140737488351232) (hM : p.M.length ≤ 17592186043904) (hO : p.O.length * 32 ≤ 140737488355328) : Calls Try.prog 12 #[mcV m] W fun e W' =>
    ∃ q c dv mv ov, e = .returned (mcV { m with b := m.b.at q p.F.length c, dv := dv, mv := mv, ov := ov }) ∧ FT W' W.heap.size (.slice q p.F.length c) p.F ∧ OwnD W' W.heap.size dv p.D ∧ OwnM W' W.heap.size mv p.M ∧ W'.ownsRow W.heap.size 62 3 ov p.O.length (oC p.O) ∧ Below W.heap.size W W' := by
  obtain ⟨qo, co, hov⟩ := K.o.is
  have C1 := Lib.hid (fun W' (h : Below W.heap.size W W') => rcopy_any m.dv m.mv m.E p.D p.M W' (K.next h).d (K.next h).mm hD hM)
  have C2 := Lib.hid (fun W' (h : Below W.heap.size W W') => rcopy_bd m.b p.F W' (K.next h).fr hF)
  have C3 := Lib.hid (fun W' (h : Below W.heap.size W W') => run_recs W' qo co p.O (hov ▸ (K.next h).o) hO)
  have HV := Lib.hid hov
  clear K hF hD hM hO hov
  go_enter Try.func12, Try.ntmps12
  go_upto_region 1 with (fail)
  have X := Lib.hid (Mem.two (W := W) (mcC m) Try.zeroCells42)
  generalize (W.alloc (Obj.cells (mcC m) 42)).alloc (Obj.cells Try.zeroCells42 42) = wa at X ⊢
  go_upto_region 2 with (first | (with_reducible refine wpList_load_by rfl rfl (MBox.load_ram X.out.m1) rfl ?_) | (go_at_call 28; (with_reducible refine (C1.out _ X.out.below).mono ?_); rintro e wb ⟨dv, mv, rfl, hd, hm, kk⟩; obtain ⟨p2, c2, rfl⟩ := owns_shape hd; obtain ⟨q2, d2, rfl⟩ := owns_shape hm; have XB := X.out.below.size; have X := Lib.hid (((X.out.next kk).addrow hd XB (by decide)).addrow hm XB (by decide)); clear kk hd hm XB) | (with_reducible refine wpList_store_by rfl rfl (MBox.store_ram X.out.m1 p2 q2 p.D.length c2 p.M.length d2 m.E) rfl rfl ?_) | fail)
  have X := Lib.hid (X.out.p1 (cs' := mcC { m with dv := .slice p2 p.D.length c2, mv := .slice q2 p.M.length d2 }) rfl)
  generalize wb.setRow W.heap.size (mcC { m with dv := .slice p2 p.D.length c2, mv := .slice q2 p.M.length d2 }) = wc at X ⊢
  go_upto_region 3 with (first | (with_reducible refine wpList_load_by rfl rfl (MBox.load_b' (b := m.b) X.out.m1 rfl) rfl ?_) | (go_at_call 29; (with_reducible refine (C2.out _ X.out.below).mono ?_); rintro e wd ⟨q, c, rfl, hf, kk⟩; have XB := X.out.below.size; have X := Lib.hid ((X.out.next kk).addrow hf XB (by decide)); clear kk hf XB) | (with_reducible refine wpList_store_by rfl rfl (MBox.store_b X.out.m1 (m.b.at q p.F.length c)) rfl rfl ?_) | fail)
  have X := Lib.hid (X.out.p1 (cs' := mcC { m with b := m.b.at q p.F.length c, dv := .slice p2 p.D.length c2, mv := .slice q2 p.M.length d2 }) rfl)
  generalize wd.setRow W.heap.size _ = we at X ⊢
  generalize hm5 : ({ m with b := m.b.at q p.F.length c, dv := .slice p2 p.D.length c2, mv := .slice q2 p.M.length d2 } : Mc) = m5 at X
  have hov : m5.ov = .slice qo p.O.length co := by rw [← hm5]; exact HV.out
  have X1 := Lib.hid (X.out.next (below1 we (.cells #[] 62)))
  obtain ⟨p4, c4, w4, hrun, ho, hb⟩ := C3.out we X.out.below
  have HR := Lib.hid hrun
  have X4 := Lib.hid (X.out.next hb)
  have HO := Lib.hid (owns_base ho X.out.below.size)
  have HV5 := Lib.hid hov
  have HM := Lib.hid hm5
  clear hrun ho hb hov hm5
  go_upto_region 4 with (first | (with_reducible refine wpList_load_by rfl rfl (MBox.load_o' X1.out.m1 HV5.out) rfl ?_) | (at_builtin; (refine wpList_append_run rfl _ _ 40 rfl _ _ _ rfl rfl _ HR.out ?_)) | (with_reducible refine wpList_store_by rfl rfl (MBox.store_o X4.out.m1 p4 p.O.length c4) rfl rfl ?_) | fail)
  have X5 := Lib.hid (X4.out.p1 (cs' := mcC { m5 with ov := .slice p4 p.O.length c4 }) rfl)
  have HO := Lib.hid (owns_over HO.out X4.out.g1 (by decide) (mcC { m5 with ov := .slice p4 p.O.length c4 }))
  generalize hm6 : ({ m5 with ov := .slice p4 p.O.length c4 } : Mc) = m6 at X5 HO ⊢
  generalize w4.setRow W.heap.size (mcC m6) = w5 at X5 HO ⊢
  have h1 : Mc1 m6 := by subst hm6; rw [← HM.out]; exact ⟨rfl, rfl, rfl⟩
  have HN := Lib.hid h1
  have HM6 := Lib.hid hm6
  clear X X1 X4 h1 hm6 C1 C2 C3
  go_wp2_with (first | (with_reducible refine wpList_load_by rfl rfl (MBox.load X5.out.m1) rfl ?_) | (with_reducible refine wpList_store_by rfl rfl (MBox.store m6 HN.out X5.out.g0 (by kernel_rfl)) rfl rfl ?_) | fail)
  have X6 := Lib.hid (X5.out.p0 (cs' := mcC m6) rfl)
  have HO := Lib.hid (owns_over HO.out X5.out.g0 (by decide) (mcC m6))
  generalize w5.setRow (W.heap.size + 1) (mcC m6) = w6 at X6 HO ⊢
  refine bodyPost_ret (v := mcV m6) (results_cell_row Try.results12 _ _ (W.heap.size + 1) 42 (mcC m6) (0, 0) _ rfl X6.out.g0 Try.underlying42 rfl (by rw [size42, mcC_size])) rfl ⟨q, c, .slice p2 p.D.length c2, .slice q2 p.M.length d2, .slice p4 p.O.length c4, ?_, FT.of X6.out.r0, X6.out.r2, X6.out.r1, HO.out, X6.out.below⟩
  rw [← HM6.out, ← HM.out]

end Go.Proofs.Ytnedhjaphfjdmaa
namespace Go.Proofs.Ytnedhjaphfjdmaa
open Go.RowKit Go.Deep Go.Joins
theorem fields33 : (Try.prog.fieldsOf 33).toList.map (fun f => (f.type, f.offset)) = [(30, 0), (31, 4), (31, 6), (29, 8)] := by kernel_rfl
theorem fields62 : (Try.prog.fieldsOf 62).toList.map (fun f => (f.type, f.offset)) = [(22, 0), (3, 1), (9, 2)] := by kernel_rfl
theorem size30 : (Try.prog.info? 30).map (·.size) = some 4 := by kernel_rfl
theorem size31 : (Try.prog.info? 31).map (·.size) = some 2 := by kernel_rfl
theorem cellsOf29 : Try.prog.cellsOf 29 = 1 := by kernel_rfl
theorem info29 : ∃ i, Try.prog.info? 29 = some i := by
  cases h : Try.prog.info? 29 with
  | none => have := (show (Try.prog.info? 29).map (·.size) = some 1 by kernel_rfl); rw [h] at this; cases this
  | some i => exact ⟨i, rfl⟩
theorem eq_arr (d t n : Nat) (hu : Try.prog.underlying t = some (.array n 29)) (cs : Array Value) (w : World) (h : ∀ i, i < n → ∃ a, cs[i]? = some (.int .u32 a)) : (Op.equalIn (d + 2) t (.agg cs) (.agg cs)).run Try.prog w = .ok true w := by
  obtain ⟨i, hi⟩ := info29
  rw [run_equalIn_array w (d + 1) cs cs hu hi]
  refine eqItems_refl _ _ _ _ _ _ fun j hj => ?_
  obtain ⟨a, ha⟩ := h j (by simpa using hj)
  rw [cellsOf29, Nat.mul_one]
  exact ⟨_, part_cell 29 _ cs j _ w Try.underlying29 rfl ha, eq_int d 29 .u32 a w Try.underlying29⟩
theorem plC_cell' (p : Pl) (i : Nat) (hi : i < 9) : ∃ a, (plC p)[i]? = some (.int .u32 a) := by
  match i, hi with
  | 0, _ => exact ⟨_, rfl⟩
  | 1, _ => exact ⟨_, rfl⟩
  | 2, _ => exact ⟨_, rfl⟩
  | 3, _ => exact ⟨_, rfl⟩
  | 4, _ => exact ⟨_, rfl⟩
  | 5, _ => exact ⟨_, rfl⟩
  | 6, _ => exact ⟨_, rfl⟩
  | 7, _ => exact ⟨_, rfl⟩
  | 8, _ => exact ⟨_, rfl⟩
  | i + 9, hi => omega
theorem eq_pl (p : Pl) (w : World) : (Op.equalIn 10000 33 (.agg (plC p)) (.agg (plC p))).run Try.prog w = .ok true w := by
  rw [run_equalIn_struct w 9999 33 (plC p) (plC p) (by kernel_rfl) (by kernel_rfl)]
  refine eqFields_refl _ _ _ _ fun f hf => ?_
  have hm : (f.type, f.offset) ∈ (Try.prog.fieldsOf 33).toList.map (fun f => (f.type, f.offset)) := List.mem_map_of_mem hf
  rw [fields33] at hm
  simp only [List.mem_cons, List.not_mem_nil, or_false, Prod.mk.injEq] at hm
  rcases hm with ⟨e1, e2⟩ | ⟨e1, e2⟩ | ⟨e1, e2⟩ | ⟨e1, e2⟩
  all_goals rw [e1, e2]
  · refine ⟨_, part_row 30 _ 4 (plC p) 0 w Try.underlying30 rfl size30, eq_arr 9997 30 4 Try.underlying30 _ w fun i hi => ?_⟩
    rw [extract_get _ 0 4 i hi (by show 0 + 4 ≤ 9; omega), Nat.zero_add]
    exact plC_cell' p i (by omega)
  · refine ⟨_, part_row 31 _ 2 (plC p) 4 w Try.underlying31 rfl size31, eq_arr 9997 31 2 Try.underlying31 _ w fun i hi => ?_⟩
    rw [extract_get _ 4 2 i hi (by show 4 + 2 ≤ 9; omega)]
    exact plC_cell' p _ (by omega)
  · refine ⟨_, part_row 31 _ 2 (plC p) 6 w Try.underlying31 rfl size31, eq_arr 9997 31 2 Try.underlying31 _ w fun i hi => ?_⟩
    rw [extract_get _ 6 2 i hi (by show 6 + 2 ≤ 9; omega)]
    exact plC_cell' p _ (by omega)
  · obtain ⟨a, ha⟩ := plC_cell' p 8 (by omega)
    exact ⟨_, part_cell 29 _ _ 8 _ w Try.underlying29 rfl ha, eq_int 9998 29 .u32 _ w Try.underlying29⟩
theorem eq_string (d : Nat) (t : TypeId) (s : ByteArray) (w : World) (h : Try.prog.underlying t = some .string) : (Op.equalIn (d + 1) t (.string s) (.string s)).run Try.prog w = .ok true w := by
  rw [run_equalIn_string w d t s s h]
  simp
theorem eq_rec (r : Rec) (w : World) : (Op.equalIn 10000 62 (rcV r) (rcV r)).run Try.prog w = .ok true w := by
  rw [run_equalIn_struct w 9999 62 (rcC r) (rcC r) (by kernel_rfl) (by kernel_rfl)]
  refine eqFields_refl _ _ _ _ fun f hf => ?_
  have hm : (f.type, f.offset) ∈ (Try.prog.fieldsOf 62).toList.map (fun f => (f.type, f.offset)) := List.mem_map_of_mem hf
  rw [fields62] at hm
  simp only [List.mem_cons, List.not_mem_nil, or_false, Prod.mk.injEq] at hm
  rcases hm with ⟨e1, e2⟩ | ⟨e1, e2⟩ | ⟨e1, e2⟩
  all_goals rw [e1, e2]
  · exact ⟨_, part_cell 22 _ _ 0 _ w Try.underlying22 rfl rfl, eq_int 9998 22 .u64 _ w Try.underlying22⟩
  · exact ⟨_, part_cell 3 _ _ 1 _ w Try.underlying3 rfl rfl, eq_int 9998 3 .i64 _ w Try.underlying3⟩
  · exact ⟨_, part_cell 9 _ _ 2 _ w Try.underlying9 rfl rfl, eq_string 9998 9 _ w Try.underlying9⟩
theorem exec_pl {ρ : Operand → Value} {o : Oper} {x y : Operand} {t2 : TypeId} (p : Pl) (w : World) (ho : o.op = .binOp .eql 33 x y t2) (hx : ρ x = .agg (plC p)) (hy : ρ y = .agg (plC p)) : (execOp ρ o).run Try.prog w = .ok (.value (.bool true)) w := by
  unfold execOp
  simp [ho, hx, hy, Sem.run_bind, run_eqGuard_agg, run_eql_struct, eq_pl, Result.andThen]
theorem exec_hart {ρ : Operand → Value} {o : Oper} {x y : Operand} {t2 : TypeId} (h : Hart) (w : World) (ho : o.op = .binOp .neq 27 x y t2) (hx : ρ x = hartV h) (hy : ρ y = hartV h) : (execOp ρ o).run Try.prog w = .ok (.value (.bool false)) w := by
  unfold execOp
  simp [ho, hx, hy, Sem.run_bind, run_eqGuard_agg, run_neq_struct, eq_hart, Result.andThen]
theorem exec_rec {ρ : Operand → Value} {o : Oper} {x y : Operand} {t2 : TypeId} (r : Rec) (w : World) (ho : o.op = .binOp .neq 62 x y t2) (hx : ρ x = rcV r) (hy : ρ y = rcV r) : (execOp ρ o).run Try.prog w = .ok (.value (.bool false)) w := by
  unfold execOp
  simp [ho, hx, hy, Sem.run_bind, run_eqGuard_agg, run_neq_struct, eq_rec, Result.andThen]
theorem wpList_exec {w : World} {ops : Array Oper} {rest : List Oper} {o : Oper} {a : Act} {Q : Exit → Act → World → Prop} (hgd : Region.wanted o (yielded ops a.tmps) = true) {r : Value} (hrun : (execOp a.eval o).run Try.prog w = .ok (.value r) w)
    (h : wpList Try.prog ops Q rest (a.put o.dst r) w) : wpList Try.prog ops Q (o :: rest) a w := by
  refine wpList_step fun K hK => ?_
  rw [if_pos hgd]
  unfold Oper.wp
  rw [hrun]
  exact hK _ _ h

end Go.Proofs.Ytnedhjaphfjdmaa
namespace Go.Proofs.Ytnedhjaphfjdmaa
open Go.RowKit Go.Deep Go.Joins
/-- Two machines that differ in where their parts lie alone. -/
structure Like (m r : Mc) : Prop where
  h : r.h = m.h
  b : r.b = m.b.at r.b.fp r.b.fn r.b.fc
  E : r.E = m.E
  cnt : r.cnt = m.cnt
  nxt : r.nxt = m.nxt
theorem Like.refl (m : Mc) : Like m m := ⟨rfl, rfl, rfl, rfl, rfl⟩
/-- What is loaded of a machine's variable. -/
structure Bx (w : World) (g : Nat) (h : Hart) (dv mv : Value) (E cnt nxt : Int) (ov fv : Value) (b : Bd) : Prop where
  hart : (Instr.loadAt 27 (.pointer (some ⟨g, 0, none⟩))).run Try.prog w = .ok (hartV h) w
  ram : (Instr.loadAt 39 (.pointer (some ⟨g, 73, none⟩))).run Try.prog w = .ok (.agg #[dv, mv, .int .u64 E]) w
  cnt : w.cell? ⟨g, 76, none⟩ = some (.int .u64 cnt)
  nxt : w.cell? ⟨g, 77, none⟩ = some (.int .u64 nxt)
  o : w.cell? ⟨g, 78, none⟩ = some ov
  lo : (Instr.loadAt 40 (.pointer (some ⟨g, 78, none⟩))).run Try.prog w = .ok ov w
  lf : (Instr.loadAt 28 (.pointer (some ⟨g, 61, none⟩))).run Try.prog w = .ok fv w
  fr : w.cell? ⟨g, 61, none⟩ = some fv
  b : (Instr.loadAt 35 (.pointer (some ⟨g, 52, none⟩))).run Try.prog w = .ok (bdV b) w
theorem MBox.bx {w : World} {g : Nat} {m r : Mc} (k : MBox w g r) (l : Like m r) : Bx w g m.h r.dv r.mv m.E m.cnt m.nxt r.ov (.slice r.b.fp r.b.fn r.b.fc) (m.b.at r.b.fp r.b.fn r.b.fc) :=
  ⟨l.h ▸ k.load_hart, l.E ▸ k.load_ram, l.cnt ▸ k.cell_t 3, l.nxt ▸ k.cell_t 4, k.cell_t 5, k.load_o, k.load_fr, (cell_of_row w g 61 (mcC r) 42 (0, 0) k).trans ((mcC_b r 9 (by omega)).trans (bdC_head r.b 9 (by omega))), by have := k.load_b; rwa [l.b] at this⟩
/-- The two machines that are compared, in memory. -/
def Both (W w : World) (m r : Mc) : Prop := MBox w W.heap.size m ∧ MBox w (W.heap.size + 1) r ∧ Below W.heap.size W w
theorem Both.new (W : World) (m r : Mc) : Both W ((W.alloc (mcO m)).alloc (mcO r)) m r := by
  have h := Mem.two (W := W) (mcC m) (mcC r)
  exact ⟨h.g1, h.g0, h.below⟩
theorem Both.next {W w w' : World} {m r : Mc} (h : Both W w m r) (hb : Below w.heap.size w w') : Both W w' m r := ⟨h.1.next hb, h.2.1.next hb, below_then h.2.2 hb⟩
theorem Box.cat_msip {w : World} {g n c : Nat} {p : Option Addr} {b : Bd} (k : Box w g (b.at p n c)) : w.cell? ⟨g, 0, none⟩ = some (.bool b.msip) := k.cell_msip
theorem Box.cat_cmp {w : World} {g n c : Nat} {p : Option Addr} {b : Bd} (k : Box w g (b.at p n c)) : w.cell? ⟨g, 1, none⟩ = some (.int .u64 b.cmp) := k.cell_cmp
theorem Box.cat_inn {w : World} {g n c : Nat} {p : Option Addr} {b : Bd} (k : Box w g (b.at p n c)) : w.cell? ⟨g, 2, none⟩ = some (.string b.inn) := k.cell_inn
theorem Box.cat_ier {w : World} {g n c : Nat} {p : Option Addr} {b : Bd} (k : Box w g (b.at p n c)) : w.cell? ⟨g, 3, none⟩ = some (.bool b.ier) := k.cell_ier
theorem Box.cat_sec {w : World} {g n c : Nat} {p : Option Addr} {b : Bd} (k : Box w g (b.at p n c)) : w.cell? ⟨g, 4, none⟩ = some (.string b.sec) := k.cell_sec
theorem Box.cat_sector {w : World} {g n c : Nat} {p : Option Addr} {b : Bd} (k : Box w g (b.at p n c)) : w.cell? ⟨g, 5, none⟩ = some (.int .u64 b.sector) := k.cell_sector
theorem Box.cat_addr {w : World} {g n c : Nat} {p : Option Addr} {b : Bd} (k : Box w g (b.at p n c)) : w.cell? ⟨g, 6, none⟩ = some (.int .u64 b.addr) := k.cell_addr
theorem Box.cat_done {w : World} {g n c : Nat} {p : Option Addr} {b : Bd} (k : Box w g (b.at p n c)) : w.cell? ⟨g, 7, none⟩ = some (.bool b.done) := k.cell_done
theorem Box.cat_bad {w : World} {g n c : Nat} {p : Option Addr} {b : Bd} (k : Box w g (b.at p n c)) : w.cell? ⟨g, 8, none⟩ = some (.bool b.bad) := k.cell_bad
theorem Box.cat_nicA {w : World} {g n c : Nat} {p : Option Addr} {b : Bd} (k : Box w g (b.at p n c)) : w.cell? ⟨g, 10, none⟩ = some (.int .u64 b.nicA) := k.cell_nicA
theorem Box.cat_nicL {w : World} {g n c : Nat} {p : Option Addr} {b : Bd} (k : Box w g (b.at p n c)) : w.cell? ⟨g, 11, none⟩ = some (.int .u64 b.nicL) := k.cell_nicL
theorem Box.cat_pl {w : World} {g n c : Nat} {p : Option Addr} {b : Bd} (k : Box w g (b.at p n c)) : (Instr.loadAt 33 (.pointer (some ⟨g, 12, none⟩))).run Try.prog w = .ok (.agg (plC b.pl)) w := k.load_pl
theorem run_sizeOf (t n : Nat) (w : World) (k : (Try.prog.info? t).map (·.size) = some n) : (sizeOf t).run Try.prog w = .ok n w := by
  cases hq : Try.prog.info? t with
  | none => rw [hq] at k; cases k
  | some i => rw [hq] at k; simp at k; simp [sizeOf, typeInfo, hq, k]
theorem run_idx (w : World) (g off n c j : Nat) (hj : j < n) : (Instr.indexAt 40 (.slice (some ⟨g, off, none⟩) n c) (.int .i64 (j : Int))).run Try.prog w = .ok (.pointer (some ⟨g, off + j * 3, none⟩)) w := by
  have hs := run_sizeOf 62 3 w size62
  simp [Instr.indexAt, run_underlying Try.underlying40, asIntOf, hs, hj, Sem.run_bind, Result.andThen, add_lit]
theorem run_idx9 (w : World) (g off n c j : Nat) (hj : j < n) : (Instr.indexAt 28 (.slice (some ⟨g, off, none⟩) n c) (.int .i64 (j : Int))).run Try.prog w = .ok (.pointer (some ⟨g, off + j, none⟩)) w := by
  have hs := run_sizeOf 9 1 w (by kernel_rfl)
  simp [Instr.indexAt, run_underlying Try.underlying28, asIntOf, hs, hj, Sem.run_bind, Result.andThen, add_lit]
theorem exec_idx {P : Program} {ρ : Operand → Value} {o : Oper} {t : TypeId} {x i : Operand} {v u r : Value} {w : World} (ho : o.op = .indexAddr t x i) (hx : ρ x = v) (hi : ρ i = u) (hrun : (Instr.indexAt t v u).run P w = .ok r w) : (execOp ρ o).run P w = .ok (.value r) w := by
  simp [execOp, ho, hx, hi, hrun, Result.andThen]
theorem run_load_cells {P : Program} (w : World) (g k ty : Nat) (part : List Value) (d : TypeDesc)
    (hu : P.underlying ty = some d) (hd : (match d with | .struct _ | .array _ _ => true | _ => false) = true) (hi : (P.info? ty).map (·.size) = some part.length) (hp : ∀ j v, part[j]? = some v → w.cell? ⟨g, k + j, none⟩ = some v) :
    (Instr.loadAt ty (.pointer (some ⟨g, k, none⟩))).run P w = .ok (.agg part.toArray) w := by
  have hl : (loadCells ⟨g, k, none⟩ part.length).run P w = .ok part.toArray w :=
    run_loadCells_list (P := P) w ⟨g, k, none⟩ part (fun j v hv => by rw [add_lit]; exact hp j v hv)
  cases hq : P.info? ty with
  | none => simp [hq] at hi
  | some i =>
    have hs : i.size = part.length := by simpa [hq] using hi
    have hagg : (isAgg ty).run P w = .ok true w := by
      unfold isAgg
      rw [Sem.run_bind, run_underlying hu w]
      cases d <;> simp_all
    simp [Instr.loadAt, Instr.sureAddr, loadVar, Sem.run_bind, hagg, sizeOf, typeInfo, hq, hs, hl, Result.andThen]
theorem run_load_at {P : Program} (w : World) (b k : Nat) (t : TypeId) (v : Value) (d : TypeDesc) (hu : P.underlying t = some d) (hd : (match d with | .struct _ | .array _ _ => true | _ => false) = false) (hcell : w.cell? ⟨b, k, none⟩ = some v) :
    (Instr.loadAt t (.pointer (some ⟨b, k, none⟩))).run P w = .ok v w := by
  have hagg : (isAgg t).run P w = .ok false w := by
    unfold isAgg
    rw [Sem.run_bind, run_underlying hu w]
    cases d <;> simp_all
  simp [Instr.loadAt, Instr.sureAddr, loadVar, Sem.run_bind, Result.andThen, hagg, run_load, hcell]
theorem Reads.le {w : World} {v : Value} {size n : Nat} {cells : List Value} (h : Reads w v size n cells) : n ≤ 9223372036854775807 := by
  rcases h.2 with ⟨_, h⟩ | ⟨a, cap, _, h1, h2, _⟩
  · omega
  · unfold maxLen at h2; omega
theorem rec_at {W : World} {q : Option Addr} {c : Nat} {O : List Rec} (h : Reads W (.slice q O.length c) 3 O.length (oC O)) (h0 : 0 < O.length) : ∃ g off, q = some ⟨g, off, none⟩ ∧ ∀ j (hj : j < O.length), ∀ w, Below W.heap.size W w → (Instr.loadAt 62 (.pointer (some ⟨g, off + j * 3, none⟩))).run Try.prog w = .ok (rcV O[j]) w := by
  obtain ⟨g, off, cap, e, _, _, hg, hc⟩ := Reads.at h (by omega)
  simp only [Value.slice.injEq] at e
  refine ⟨g, off, e.1, fun j hj w hb => run_load_cells w g (off + j * 3) 62 (rcL O[j]) _ Try.underlying62 rfl size62 fun i v hv => ?_⟩
  have hi : i < 3 := by have := (List.getElem?_eq_some_iff.1 hv).1; simpa [rcL] using this
  have k := hc (3 * j + i) v (by rw [oC_get O j hj i hi]; exact hv)
  rw [show off + j * 3 + i = off + (3 * j + i) by omega]
  exact (hb.cell (p := ⟨g, off + (3 * j + i), none⟩) hg).trans k
theorem str_at {W : World} {q : Option Addr} {c : Nat} {F : List ByteArray} (h : FAt W (.slice q F.length c) F) (h0 : 0 < F.length) : ∃ g off, q = some ⟨g, off, none⟩ ∧ ∀ j (hj : j < F.length), ∀ w, Below W.heap.size W w → (Instr.loadAt 9 (.pointer (some ⟨g, off + j, none⟩))).run Try.prog w = .ok (.string F[j]) w := by
  obtain ⟨g, off, cap, e, _, _, hg, hc⟩ := h.cell h0
  simp only [Value.slice.injEq] at e
  exact ⟨g, off, e.1, fun j hj w hb => run_load_at w g (off + j) 9 _ _ Try.underlying9 rfl ((hb.cell (p := ⟨g, off + j, none⟩) hg).trans (hc j hj))⟩
set_option maxRecDepth 100000 in
set_option maxHeartbeats 4000000 in
theorem same_m (m r : Mc) (p : Pt) (W : World) (h1 : MR W m p) (h2 : MR W r p) (l : Like m r) : Calls Try.prog 10 #[mcV m, mcV r] W fun e W' => e = .returned (.bool true) ∧ Below W.heap.size W W' := by
  have HL := Lib.hid l
  have H1 := Lib.hid h1
  have H2 := Lib.hid h2
  obtain ⟨q1, c1, e1⟩ := h1.o.is
  obtain ⟨q2, c2, e2⟩ := h2.o.is
  have n1 := h1.fr.len
  have n2 := h2.fr.len
  have hOl := Reads.le h1.o
  have hFl := Reads.le h1.fr
  have R1 := Lib.hid (e1 ▸ h1.o)
  have R2 := Lib.hid (e2 ▸ h2.o)
  have S1 := Lib.hid (n1 ▸ h1.fr)
  have S2 := Lib.hid (n2 ▸ h2.fr)
  have L1 := Lib.hid (fun w (k : Both W w m r) => e1 ▸ n1 ▸ k.1.bx (Like.refl m))
  have L2 := Lib.hid (fun w (k : Both W w m r) => e2 ▸ n2 ▸ k.2.1.bx l)
  have CS := Lib.hid (fun w (k : Both W w m r) => same_true m.dv m.mv r.dv r.mv m.E p.D p.M w (h1.next k.2.2).d (h1.next k.2.2).mm (h2.next k.2.2).d (h2.next k.2.2).mm)
  clear l h1 h2 e1 e2 n1 n2
  go_enter Try.func10, Try.ntmps10
  go_upto_region 1 with (fail)
  have X := Lib.hid (Both.new W m r)
  generalize (W.alloc (mcO m)).alloc (mcO r) = wa at X ⊢
  have m_cnt := (L1.out wa X.out).cnt
  have m_nxt := (L1.out wa X.out).nxt
  have n_cnt := (L2.out wa X.out).cnt
  have n_nxt := (L2.out wa X.out).nxt
  go_upto_region 3 with (first | ((with_reducible show wpList _ _ _ (⟨some 10, Op.load 27 _, _, _, _, _⟩ :: _) _ _); refine wpList_load_wanted (by kernel_rfl) rfl (L1.out wa X.out).hart rfl ?_; simp only [Act.put, List.setIfInBounds_toArray, List.set_cons_zero, List.set_cons_succ]) | ((with_reducible show wpList _ _ _ (⟨some 12, Op.load 27 _, _, _, _, _⟩ :: _) _ _); refine wpList_load_wanted (by kernel_rfl) rfl (L2.out wa X.out).hart rfl ?_; simp only [Act.put, List.setIfInBounds_toArray, List.set_cons_zero, List.set_cons_succ]) | ((with_reducible show wpList _ _ _ (⟨some 13, Op.binOp .neq 27 _ _ _, _, _, _, _⟩ :: _) _ _); refine wpList_exec (by kernel_rfl) (exec_hart m.h _ rfl rfl rfl) ?_; simp only [Act.put, List.setIfInBounds_toArray, List.set_cons_zero, List.set_cons_succ]) | ((with_reducible show wpList _ _ _ (⟨some 30, Op.load 39 _, _, _, _, _⟩ :: _) _ _); refine wpList_load_wanted (by kernel_rfl) rfl (L1.out wa X.out).ram rfl ?_; simp only [Act.put, List.setIfInBounds_toArray, List.set_cons_zero, List.set_cons_succ]) | ((with_reducible show wpList _ _ _ (⟨some 32, Op.load 39 _, _, _, _, _⟩ :: _) _ _); refine wpList_load_wanted (by kernel_rfl) rfl (L2.out wa X.out).ram rfl ?_; simp only [Act.put, List.setIfInBounds_toArray, List.set_cons_zero, List.set_cons_succ]) | (go_at_call 25; (with_reducible refine (CS.out wa X.out).mono ?_); rintro e wb ⟨rfl, kk⟩; clear m_cnt m_nxt n_cnt n_nxt; have X := Lib.hid (X.out.next kk); clear kk; have m_o := (L1.out wb X.out).o; have n_o := (L2.out wb X.out).o; have m_fr := (L1.out wb X.out).fr; have n_fr := (L2.out wb X.out).fr) | fail)
  clear CS H1 H2 HL
  have HX := Lib.hid X.out.2.2
  clear m_o n_o m_fr n_fr
  have m_o := (L1.out wb X.out).o
  have n_o := (L2.out wb X.out).o
  go_wp2_with fail
  go_loopw [5] (fun i wr => ∃ j : Nat, j ≤ p.O.length ∧ i = .int .i64 j ∧ RowKit.Hid (Both W wr m r)) (fun i _ => p.O.length - (intOf i).toNat)
  case atStart => exact ⟨0, Nat.zero_le _, rfl, X⟩
  case round =>
    obtain ⟨j, hj, rfl, X⟩ := hrel
    by_cases hlt : j < p.O.length
    · obtain ⟨g, off, hq, hld⟩ := rec_at R1.out (by omega)
      obtain ⟨g2, off2, hq2, hld2⟩ := rec_at R2.out (by omega)
      subst hq
      subst hq2
      have m_o := (L1.out _ X.out).o
      have n_o := (L2.out _ X.out).o
      go_upto_region 6 with (fail)
      clear m_o n_o
      have D1 := Lib.hid (hld j hlt)
      have D2 := Lib.hid (hld2 j hlt)
      clear hld hld2
      generalize p.O[j] = rr at D1 D2
      refine dr (fun w => Both W w m r) fun wz hzz => ?_
      have X := Lib.hid (X.out.next hzz)
      clear hzz
      have hS := X.out
      refine tk 0 hS ?_
      refine tl 1 hS (fun w hw => (L1.out w hw).lo) ?_
      refine tk 2 hS ?_
      refine tk 3 hS ?_ (hy := .inl ⟨by kernel_rfl, fun w _ => exec_idx rfl rfl rfl (run_idx w g off _ c1 j hlt)⟩)
      refine tl 4 hS (fun w hw => D1.out w hw.2.2) ?_
      refine tk 5 hS ?_
      refine tl 6 hS (fun w hw => (L2.out w hw).lo) ?_
      refine tk 7 hS ?_
      refine tk 8 hS ?_ (hy := .inl ⟨by kernel_rfl, fun w _ => exec_idx rfl rfl rfl (run_idx w g2 off2 _ c2 j hlt)⟩)
      refine tl 9 hS (fun w hw => D2.out w hw.2.2) ?_
      refine tk 10 hS ?_ (hy := .inl ⟨by kernel_rfl, fun w _ => exec_rec rr w rfl rfl rfl⟩)
      refine wpAnyH_done (by kernel_rfl) ?_ _
      clear D1 D2 hS
      go_wp2_with fail
      exact ⟨⟨j + 1, by omega, by go_num, X⟩, by simp [intOf]; omega⟩
    · have m_o := (L1.out _ X.out).o
      have n_o := (L2.out _ X.out).o
      have m_fr := (L1.out _ X.out).fr
      have n_fr := (L2.out _ X.out).fr
      go_upto_region 8 with (fail)
      clear m_o n_o m_fr n_fr hlt hj
      go_wp2_with fail
      go_loopw [6] (fun i wr => ∃ j : Nat, j ≤ p.F.length ∧ i = .int .i64 j ∧ RowKit.Hid (Both W wr m r)) (fun i _ => p.F.length - (intOf i).toNat)
      case atStart => exact ⟨0, Nat.zero_le _, rfl, X⟩
      case round =>
        obtain ⟨k, hk, rfl, X⟩ := hrel
        by_cases hlt : k < p.F.length
        · obtain ⟨g, off, hq, hld⟩ := str_at S1.out (by omega)
          obtain ⟨g2, off2, hq2, hld2⟩ := str_at S2.out (by omega)
          have m_fr := (L1.out _ X.out).fr
          have n_fr := (L2.out _ X.out).fr
          go_upto_region 11 with (fail)
          clear m_fr n_fr
          have D1 := Lib.hid (hld k hlt)
          have D2 := Lib.hid (hld2 k hlt)
          clear hld hld2
          generalize p.F[k] = ss at D1 D2
          refine dr (fun w => Both W w m r) fun wz hzz => ?_
          have X := Lib.hid (X.out.next hzz)
          clear hzz
          have hS := X.out
          refine tk 0 hS ?_
          refine tk 1 hS ?_
          refine tl 2 hS (fun w hw => hq ▸ (L1.out w hw).lf) ?_
          refine tk 3 hS ?_
          refine tk 4 hS ?_ (hy := .inl ⟨by kernel_rfl, fun w _ => exec_idx rfl rfl rfl (run_idx9 w g off _ m.b.fc k hlt)⟩)
          refine tl 5 hS (fun w hw => D1.out w hw.2.2) ?_
          refine tk 6 hS ?_
          refine tk 7 hS ?_
          refine tl 8 hS (fun w hw => hq2 ▸ (L2.out w hw).lf) ?_
          refine tk 9 hS ?_
          refine tk 10 hS ?_ (hy := .inl ⟨by kernel_rfl, fun w _ => exec_idx rfl rfl rfl (run_idx9 w g2 off2 _ r.b.fc k hlt)⟩)
          refine tl 11 hS (fun w hw => D2.out w hw.2.2) ?_
          refine tk 12 hS ?_
          refine wpAnyH_done (by kernel_rfl) ?_ _
          clear D1 D2 hS
          go_wp2_with fail
          exact ⟨⟨k + 1, by omega, by go_num, X⟩, by simp [intOf]; omega⟩
        · have m_fr := (L1.out _ X.out).fr
          have n_fr := (L2.out _ X.out).fr
          go_upto_region 13 with (fail)
          clear m_fr n_fr hlt hk
          refine dr (fun w => Both W w m r) fun wz hzz => ?_
          have Y := Lib.hid (X.out.next hzz)
          have X := Lib.hid (Mem.start wz)
          clear hzz
          have hS := Y.out
          refine tk 0 hS ?_
          refine tl 1 hS (fun w hw => (L1.out w hw).b) ?_
          refine tk 2 hS ?_
          refine tl 3 hS (fun w hw => (L2.out w hw).b) ?_
          refine two 4 5 (al 4 (Y.out.next X.out.newZ.below) ?_ (al 5 (Y.out.next X.out.newZ.below) ?_ AllReadyH.nil))
          have X := Lib.hid X.out.newZ
          generalize wz.heap.size = x at X ⊢
          generalize wz.alloc zeroO = wn at X ⊢
          refine ho 5 (Y.out.next X.out.newZ.below) ?_
          have X := Lib.hid X.out.newZ
          generalize wn.heap.size = y at X ⊢
          generalize wn.alloc zeroO = wn at X ⊢
          rotate_left
          have X := Lib.hid X.out.newZ
          generalize wz.heap.size = y at X ⊢
          generalize wz.alloc zeroO = wn at X ⊢
          refine ho 4 (Y.out.next X.out.newZ.below) ?_
          have X := Lib.hid X.out.newZ.swap
          generalize wn.heap.size = x at X ⊢
          generalize wn.alloc zeroO = wn at X ⊢
          rotate_left
          all_goals
            have hS := Y.out.next X.out.below
            refine hs 6 (store_box _ _ _ _ X.out.b1 (bdC_size _)) fun wy hw => ?_
            have X := Lib.hid (X.out.p1 hw)
            refine ⟨Y.out.next X.out.below, fun hS => ?_⟩
            clear hw
            refine hs 7 (store_box _ _ _ _ X.out.b0 (bdC_size _)) fun wy hw => ?_
            have X := Lib.hid (X.out.p0 hw)
            refine ⟨Y.out.next X.out.below, fun hS => ?_⟩
            clear hw hS
            refine wpAnyH_done (by kernel_rfl) ?_ _
            have m_msip := X.out.b1.cat_msip
            have n_msip := X.out.b0.cat_msip
            have m_cmp := X.out.b1.cat_cmp
            have n_cmp := X.out.b0.cat_cmp
            have m_inn := X.out.b1.cat_inn
            have n_inn := X.out.b0.cat_inn
            have m_ier := X.out.b1.cat_ier
            have n_ier := X.out.b0.cat_ier
            have m_sec := X.out.b1.cat_sec
            have n_sec := X.out.b0.cat_sec
            have m_sector := X.out.b1.cat_sector
            have n_sector := X.out.b0.cat_sector
            have m_addr := X.out.b1.cat_addr
            have n_addr := X.out.b0.cat_addr
            have m_done := X.out.b1.cat_done
            have n_done := X.out.b0.cat_done
            have m_bad := X.out.b1.cat_bad
            have n_bad := X.out.b0.cat_bad
            have m_nicA := X.out.b1.cat_nicA
            have n_nicA := X.out.b0.cat_nicA
            have m_nicL := X.out.b1.cat_nicL
            have n_nicL := X.out.b0.cat_nicL
            go_wp2_with (first | ((with_reducible show wpList _ _ _ (⟨some 176, Op.load 33 _, _, _, _, _⟩ :: _) _ _); refine wpList_load_wanted (by kernel_rfl) rfl (Box.cat_pl X.out.b1) rfl ?_; simp only [Act.put, List.setIfInBounds_toArray, List.set_cons_zero, List.set_cons_succ]) | ((with_reducible show wpList _ _ _ (⟨some 178, Op.load 33 _, _, _, _, _⟩ :: _) _ _); refine wpList_load_wanted (by kernel_rfl) rfl (Box.cat_pl X.out.b0) rfl ?_; simp only [Act.put, List.setIfInBounds_toArray, List.set_cons_zero, List.set_cons_succ]) | ((with_reducible show wpList _ _ _ (⟨some 179, Op.binOp .eql 33 _ _ _, _, _, _, _⟩ :: _) _ _); refine wpList_exec (by kernel_rfl) (exec_pl m.b.pl _ rfl rfl rfl) ?_; simp only [Act.put, List.setIfInBounds_toArray, List.set_cons_zero, List.set_cons_succ]) | fail)
            go_ret
            exact ⟨rfl, (Y.out.next X.out.below).2.2⟩

end Go.Proofs.Ytnedhjaphfjdmaa
namespace Go.Proofs.Ytnedhjaphfjdmaa
open Go.RowKit Go.Deep Go.Joins
def hart0 : Hart := ⟨List.replicate 32 0, rfl, 0, 0, ⟨0, 0, 0, 0, 0, 0, 0, 0, 0, 0, 0, 0, 0, 0, 0, 0⟩, false, 0⟩
def mc0 (dv mv : Value) : Mc := ⟨hart0, bdZ, dv, mv, 0, 0, 0, .slice none 0 0⟩
theorem built0 (dv mv : Value) : Try.prog.built 42 [(2, .agg #[dv, mv, .int .u64 0])] = some (mcC (mc0 dv mv)) := by kernel_rfl
theorem built1 : Try.prog.built 62 [(1, .int .i64 1), (2, .string ⟨#[65]⟩)] = some (rcC (0, 1, ⟨#[65]⟩)) := by kernel_rfl
theorem exec_build {P : Program} {ρ : Operand → Value} {o : Oper} {t : TypeId} {ps : Array (Nat × Operand)} {vs : Array (Nat × Value)} {cells : Array Value} {w : World} (ho : o.op = .build t ps) (hv : ps.map (fun p => (p.1, ρ p.2)) = vs) (h : P.built t vs.toList = some cells) : (execOp ρ o).run P w = .ok (.value (.agg cells)) w := by
  subst hv
  simp [execOp, ho, run_build w t _ cells h, Result.andThen]
theorem run_idx0 (w : World) (g off n c : Nat) (hj : 0 < n) : (Instr.indexAt 40 (.slice (some ⟨g, off, none⟩) n c) (.int .i64 0)).run Try.prog w = .ok (.pointer (some ⟨g, off, none⟩)) w := by
  have h := run_idx w g off n c 0 hj
  simpa using h
theorem exec_rec_eql {ρ : Operand → Value} {o : Oper} {x y : Operand} {t2 : TypeId} (r : Rec) (w : World) (ho : o.op = .binOp .eql 62 x y t2) (hx : ρ x = rcV r) (hy : ρ y = rcV r) : (execOp ρ o).run Try.prog w = .ok (.value (.bool true)) w := by
  unfold execOp
  simp [ho, hx, hy, Sem.run_bind, run_eqGuard_agg, run_eql_struct, eq_rec, Result.andThen]
def dAB : List UInt8 := spl (List.replicate (1 * 256) 0) 0 ⟨#[97, 98]⟩
theorem dAB_length : dAB.length = 256 := by decide +kernel
theorem dAB_ld : ldV dAB 2147483648 2 = 25185 := by decide +kernel
theorem ok0 (dv mv : Value) : POk (mc0 dv mv) ⟨[], dAB, [0], []⟩ :=
  ⟨(show BdOk bdZ from ⟨⟨by decide, by decide⟩, ⟨by decide, by decide⟩, ⟨by decide, by decide⟩⟩), (show Pc.U32 bdZ.pl.c from ⟨by decide, by decide⟩), (fun f hf => by cases hf), (show (0 : Nat) ≤ 8796093022208 by decide), (show dAB.length ≤ 140737488351232 by rw [dAB_length]; decide), (show (1 : Nat) ≤ 17592186043904 by decide)⟩
theorem awake_ld (m : Mc) (F : List ByteArray) (M : List Int) (O : List Rec) : ldM m ⟨F, dAB, M, O⟩ 2147483648 2 = (m, ⟨F, dAB, M, O⟩, 25185, true) := by
  unfold ldM
  rw [if_pos (show stE dAB.length 2147483648 2 = 0 by rw [dAB_length]; decide +kernel)]
  rw [dAB_ld]
theorem awake_st (m : Mc) (M : List Int) (hn : m.nxt = 0) : stM m ⟨[], dAB, M, []⟩ 268435456 1 65 = ({ m with nxt := 1 }, ⟨[], dAB, M, [(0, 1, ⟨#[65]⟩)]⟩, true) := by
  have h1 : okB 1 = true := by decide
  have h2 : putB dAB.length 268435456 (bytesN (65 : Int).toNat (1 : Int).toNat) = false := by rw [dAB_length]; decide +kernel
  have h3 : ofB 268435456 = false := by decide
  have h4 : stF m.b [] 268435456 1 65 = (m.b, [], 1, ⟨#[65]⟩, true) := by
    unfold stF
    rw [if_neg (by decide), if_neg (by decide), if_pos (by decide)]
    rfl
  unfold stM
  rw [if_neg (by rw [h1]; decide), if_neg (by show ¬ putB dAB.length _ _ = true; rw [h2]; decide), if_neg (by rw [h3]; decide)]
  show (if (stF m.b [] 268435456 1 65).2.2.2.2 = true then _ else _) = _
  rw [h4]
  unfold acM actF
  rw [hn]
  rfl
set_option maxRecDepth 100000 in
set_option maxHeartbeats 4000000 in
theorem awake_any (W : World) : Calls Try.prog 7 #[] W fun e W' => e = .returned (.bool true) ∧ Below W.heap.size W W' := by
  have C0 := Lib.hid (fun w => (show Calls Try.prog 18 #[.int .i64 1, .string ⟨#[97, 98]⟩] w (NewMem w dAB [0] 0 0) from rnew_any 1 ⟨#[97, 98]⟩ w (by omega) (by omega) (by decide)))
  have X := Lib.hid (Mem.start W)
  go_enter Try.func7, Try.ntmps7
  go_upto_region 2 with (first | (go_at_call 18; (with_reducible refine (C0.out _).mono ?_); rintro e wb ⟨dv, mv, rfl, hd, hm, kk⟩; obtain ⟨p2, c2, rfl⟩ := owns_shape hd; obtain ⟨q2, d2, rfl⟩ := owns_shape hm; have XB := X.out.below.size; have X := Lib.hid (((X.out.next kk).addrow hd XB (by decide)).addrow hm XB (by decide)); clear kk hd hm XB) | (with_reducible refine wpList_store_by rfl rfl (ram_store X.out.newR.g0 rfl) rfl rfl ?_) | fail)
  have X := Lib.hid (X.out.newR.p0 (cs' := ramC (.slice p2 dAB.length c2) (.slice q2 [(0 : Int)].length d2) 0) rfl)
  generalize wb.heap.size = y at X ⊢
  generalize (wb.alloc ramZO).setRow y (ramC (.slice p2 dAB.length c2) (.slice q2 [(0 : Int)].length d2) 0) = wc at X ⊢
  go_upto_region 3 with (first | (with_reducible refine wpList_load_by rfl rfl (ram_load X.out.g0) rfl ?_) | ((with_reducible show wpList _ _ _ (⟨some 12, Op.build 42 _, _, _, _, _⟩ :: _) _ _); refine wpList_exec (by kernel_rfl) (exec_build rfl rfl (built0 _ _)) ?_; simp only [Act.put, List.setIfInBounds_toArray, List.set_cons_zero, List.set_cons_succ]) | (with_reducible refine wpList_store_by rfl rfl (MBox.store (mc0 (.slice p2 dAB.length c2) (.slice q2 [(0 : Int)].length d2)) ⟨rfl, rfl, rfl⟩ (X.out.new Try.zeroCells42 42 (by decide)).g0 (by kernel_rfl)) rfl rfl ?_) | fail)
  have X := Lib.hid ((X.out.new Try.zeroCells42 42 (by decide)).p0 (cs' := mcC (mc0 (.slice p2 dAB.length c2) (.slice q2 [(0 : Int)].length d2))) rfl)
  generalize wc.heap.size = z at X ⊢
  generalize (wc.alloc (Obj.cells Try.zeroCells42 42)).setRow z (mcC (mc0 (.slice p2 dAB.length c2) (.slice q2 [(0 : Int)].length d2))) = we at X ⊢
  generalize hm0 : mc0 (.slice p2 dAB.length c2) (.slice q2 [(0 : Int)].length d2) = m0 at X
  have K0 : MS we W.heap.size z m0 ⟨[], dAB, [0], []⟩ := by
    subst hm0
    exact ⟨X.out.g0, X.out.big _ (List.mem_cons_self ..), ft_none _ _, X.out.r1, X.out.r0, World.ownsRow_nil _ _ _ _⟩
  have P0 : POk m0 ⟨[], dAB, [0], []⟩ := by
    subst hm0
    exact ok0 _ _
  have C1 := ld_any z W.heap.size m0 ⟨[], dAB, [0], []⟩ 2147483648 2 we K0 X.out.below.size P0 (by decide) (by decide)
  rw [awake_ld] at C1
  have C1 := Lib.hid C1
  have HB := Lib.hid X.out.below
  have HK := Lib.hid K0
  have HP := Lib.hid P0
  have HN := Lib.hid (show m0.nxt = 0 by rw [← hm0]; rfl)
  clear X K0 P0 hm0 C0
  go_upto_region 4 with (first | (go_at_call 17; (with_reducible refine C1.out.mono ?_); rintro e wf ⟨rfl, q, c, dv, mv, ov, K1, T1, O1⟩) | fail)
  have HB := Lib.hid (Touch.below HB.out T1 (fun k hk => (HK.out.lt hk).1) HB.out.size)
  have P1 : POk { m0 with b := m0.b.at q 0 c, dv := dv, mv := mv, ov := ov } ⟨[], dAB, [0], []⟩ := ⟨⟨HP.out.bd.addr, HP.out.bd.nicA, HP.out.bd.sector⟩, HP.out.c, HP.out.fz, HP.out.fl, HP.out.dl, HP.out.ml⟩
  have C2 := st_any z W.heap.size _ _ 268435456 1 65 wf K1 HB.out.size P1 (by decide) (by decide) (by decide)
  rw [awake_st { m0 with b := m0.b.at q ([] : List ByteArray).length c, dv := dv, mv := mv, ov := ov } [0] HN.out] at C2
  have C2 := Lib.hid C2
  have HK1 := Lib.hid K1
  clear C1 T1 O1 P1 K1 HK HP HN
  go_upto_region 5 with (first | (go_at_call 15; (with_reducible refine C2.out.mono ?_); rintro e wg ⟨rfl, q3, c3, dv3, mv3, ov3, K2, T2, O2⟩) | fail)
  have HB := Lib.hid (Touch.below HB.out T2 (fun k hk => (HK1.out.lt hk).1) HB.out.size)
  generalize hm2 : ({ { ({ m0 with b := m0.b.at q ([] : List ByteArray).length c, dv := dv, mv := mv, ov := ov } : Mc) with nxt := 1 } with b := (m0.b.at q ([] : List ByteArray).length c).at q3 ([] : List ByteArray).length c3, dv := dv3, mv := mv3, ov := ov3 } : Mc) = m2 at K2
  have h1 : m2.nxt = 1 := by rw [← hm2]
  obtain ⟨g, off, cap, hv, _, _, hg, hc⟩ := Reads.at (reads_of_owns K2.o) (by decide)
  have m_o : wg.cell? ⟨z, 78, none⟩ = some (.slice (some ⟨g, off, none⟩) 1 cap) := (K2.box.cell_t 5).trans (by show some m2.ov = _; rw [hv]; rfl)
  have m_nxt : wg.cell? ⟨z, 77, none⟩ = some (.int .u64 1) := (K2.box.cell_t 4).trans (by show some (Value.int .u64 m2.nxt) = _; rw [h1])
  have D1 := Lib.hid (run_load_cells wg g off 62 (rcL (0, 1, ⟨#[65]⟩)) _ Try.underlying62 rfl size62 fun j v hj => hc j v (by unfold oC; simpa using hj))
  clear hv hc hg K2 T2 O2 C2 HK1 hm2 h1
  go_wp2_with (first | ((with_reducible show wpList _ _ _ (⟨some 35, Op.indexAddr 40 _ _, _, _, _, _⟩ :: _) _ _); refine wpList_exec (by kernel_rfl) (exec_idx rfl rfl rfl (run_idx0 wg g off 1 cap (by decide))) ?_; simp only [Act.put, List.setIfInBounds_toArray, List.set_cons_zero, List.set_cons_succ]) | ((with_reducible show wpList _ _ _ (⟨some 36, Op.load 62 _, _, _, _, _⟩ :: _) _ _); refine wpList_load_wanted (by kernel_rfl) rfl D1.out rfl ?_; simp only [Act.put, List.setIfInBounds_toArray, List.set_cons_zero, List.set_cons_succ]) | ((with_reducible show wpList _ _ _ (⟨some 37, Op.build 62 _, _, _, _, _⟩ :: _) _ _); refine wpList_exec (by kernel_rfl) (exec_build rfl rfl built1) ?_; simp only [Act.put, List.setIfInBounds_toArray, List.set_cons_zero, List.set_cons_succ]) | ((with_reducible show wpList _ _ _ (⟨some 38, Op.binOp .eql 62 _ _ _, _, _, _, _⟩ :: _) _ _); refine wpList_exec (by kernel_rfl) (exec_rec_eql (0, 1, ⟨#[65]⟩) wg rfl rfl rfl) ?_; simp only [Act.put, List.setIfInBounds_toArray, List.set_cons_zero, List.set_cons_succ]) | fail)
  go_ret
  exact ⟨rfl, HB.out⟩

end Go.Proofs.Ytnedhjaphfjdmaa
namespace Go.Proofs.Ytnedhjaphfjdmaa
open Go.RowKit Go.Deep Go.Joins
theorem ldM_no (m : Mc) (p : Pt) (t s : Int) : (ldM m p t s).2.2.2 = true ∨ ldM m p t s = (m, p, 0, false) := by
  unfold ldM
  by_cases h0 : stE p.D.length t s = 0
  · rw [if_pos h0]; exact .inl rfl
  rw [if_neg h0]
  by_cases h1 : ofB t = true
  · rw [if_pos h1]
    by_cases h2 : (Pc.ldF m.b.pl (sourcesV m.b p.F) t s).2.2 = true
    · rw [if_pos h2]; exact .inl rfl
    · rw [if_neg h2]; exact .inr rfl
  · rw [if_neg h1]
    by_cases h2 : (ldF m.b p.F t s m.cnt).2.2.2 = true
    · rw [if_pos h2]; exact .inl rfl
    · rw [if_neg h2]; exact .inr rfl
theorem stM_no (m : Mc) (p : Pt) (t s v : Int) : (stM m p t s v).2.2 = true ∨ stM m p t s v = (m, p, false) := by
  unfold stM
  by_cases h0 : okB s = false
  · rw [if_pos h0]; exact .inr rfl
  rw [if_neg h0]
  by_cases h1 : putB p.D.length t (bytesN v.toNat s.toNat) = true
  · rw [if_pos h1]; exact .inl rfl
  rw [if_neg h1]
  by_cases h2 : ofB t = true
  · rw [if_pos h2]
    by_cases h3 : (Pc.stF m.b.pl t s v).2 = true
    · rw [if_pos h3]; exact .inl rfl
    · rw [if_neg h3]; exact .inr rfl
  · rw [if_neg h2]
    by_cases h3 : (stF m.b p.F t s v).2.2.2.2 = true
    · rw [if_pos h3]
      by_cases h4 : (stF m.b p.F t s v).2.2.1 = 0
      · rw [if_pos h4]; exact .inl rfl
      · rw [if_neg h4]; exact .inl rfl
    · rw [if_neg h3]; exact .inr rfl
/-- A copy of a machine, not yet in a variable: its parts lie in blocks from N on. -/
structure CP (w : World) (N : Nat) (q : Option Addr) (c : Nat) (dv mv ov : Value) (p : Pt) : Prop where
  fr : FT w N (.slice q p.F.length c) p.F
  d : OwnD w N dv p.D
  mm : OwnM w N mv p.M
  o : w.ownsRow N 62 3 ov p.O.length (oC p.O)
theorem CP.next {w w' : World} {N : Nat} {q : Option Addr} {c : Nat} {dv mv ov : Value} {p : Pt} (h : CP w N q c dv mv ov p) (hb : Below w.heap.size w w') : CP w' N q c dv mv ov p := ⟨h.fr.below hb, h.d.below hb, h.mm.below hb, owns_below h.o hb⟩
theorem CP.base {w : World} {N B : Nat} {q : Option Addr} {c : Nat} {dv mv ov : Value} {p : Pt} (h : CP w N q c dv mv ov p) (hB : B ≤ N) : CP w B q c dv mv ov p := ⟨h.fr.base hB, owns_base h.d hB, owns_base h.mm hB, owns_base h.o hB⟩
theorem CP.over {w : World} {N g : Nat} {q : Option Addr} {c : Nat} {dv mv ov : Value} {p : Pt} {cs : Array Value} (h : CP w N q c dv mv ov p) (k : w.heap[g]? = some (.cells cs 42 (0, 0))) (cs' : Array Value) : CP (w.setRow g cs') N q c dv mv ov p :=
  ⟨h.fr.over k (by decide) cs', owns_over h.d k (by decide) cs', owns_over h.mm k (by decide) cs', owns_over h.o k (by decide) cs'⟩
/-- What a copy's parts are in, when it is in a variable. -/
abbrev atM (m : Mc) (n : Nat) (q : Option Addr) (c : Nat) (dv mv ov : Value) : Mc := { m with b := m.b.at q n c, dv := dv, mv := mv, ov := ov }
theorem CP.ms {w : World} {N z : Nat} {q : Option Addr} {c : Nat} {dv mv ov : Value} {p : Pt} {m : Mc} (h : CP w N q c dv mv ov p) (hz : N ≤ z) (k : MBox w z (atM m p.F.length q c dv mv ov)) : MS w N z (atM m p.F.length q c dv mv ov) p := ⟨k, hz, h.fr, h.d, h.mm, h.o⟩
theorem atM_like (m : Mc) (n : Nat) (q : Option Addr) (c : Nat) (dv mv ov : Value) : Like m (atM m n q c dv mv ov) := ⟨rfl, rfl, rfl, rfl, rfl⟩
/-- The blocks of a copy that is in the variable z, when the parts lie from N on and below L. -/
theorem CP.lt {w : World} {N : Nat} {q : Option Addr} {c : Nat} {dv mv ov : Value} {p : Pt} {m : Mc} (h : CP w N q c dv mv ov p) {z k : Nat} (hk : Ow (atM m p.F.length q c dv mv ov) z k) : k = z ∨ (N ≤ k ∧ k < w.heap.size) := by
  rcases hk with hk | hk | hk | hk | hk
  · exact .inl hk
  · exact .inr (owns_lt h.d hk.symm)
  · exact .inr (owns_lt h.mm hk.symm)
  · exact .inr (owns_lt h.o hk.symm)
  · right
    have hb := h.fr.blk
    change some k = (Value.slice q p.F.length c).ownBlock at hk
    cases q with
    | none => cases hk
    | some a =>
      simp only [Value.ownBlock, Option.some.injEq] at hk
      obtain ⟨h1, cur, h2⟩ := hb a _ _ rfl
      rw [hk]
      exact ⟨h1, (Array.getElem?_eq_some_iff.1 h2).1⟩

end Go.Proofs.Ytnedhjaphfjdmaa
