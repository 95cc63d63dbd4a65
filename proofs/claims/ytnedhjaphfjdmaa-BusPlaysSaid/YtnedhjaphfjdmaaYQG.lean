/- Lines of both sides; Copy of the program; a look of both sides. -/
import Derived.Test.YtnedhjaphfjdmaaYQC
import Derived.Test.YtnedhjaphfjdmaaYQD
import Derived.Test.YtnedhjaphfjdmaaYBX
import Derived.Test.YtnedhjaphfjdmaaYMB
namespace Go.Proofs.Ytnedhjaphfjdmaa
open Go.RowKit Go.Deep Go.Joins
/-- The interrupts of all devices. -/
def linesV (m : Mc) (p : Pt) : Int := bits .or .u64 (clockV m.b m.cnt) (Pc.linesF m.b.pl (sourcesV m.b p.F))
set_option maxRecDepth 100000 in
set_option maxHeartbeats 4000000 in
theorem lines_m (m : Mc) (p : Pt) (W : World) (hl : m.b.fn = p.F.length) : Calls Try.prog 8 #[mcV m] W fun e W' => e = .returned (.int .u64 (linesV m p)) ∧ Below W.heap.size W W' := by
  have C1 := Lib.hid (fun W => clock_any m.b m.cnt W)
  have C2 := Lib.hid (fun W => sources_any m.b p.F W hl)
  have C3 := Lib.hid (fun W => Pc.lines_any m.b.pl (sourcesV m.b p.F) W)
  unfold linesV
  generalize sourcesV m.b p.F = sv at C2 C3 ⊢
  generalize clockV m.b m.cnt = cv at C1 ⊢
  generalize Pc.linesF m.b.pl sv = lv at C3 ⊢
  clear hl
  go_enter Try.func8, Try.ntmps8
  have X := Lib.hid ((Mem.start W).new (mcC m) 42 (by decide))
  go_upto_region 1 with (fail)
  generalize W.alloc (.cells (mcC m) 42) = wa at X ⊢
  refine dr (fun w => MBox w W.heap.size m) fun wz hzz => ?_
  have X := Lib.hid (X.out.next hzz)
  clear hzz
  have hS : MBox wz W.heap.size m := X.out.g0
  refine tk 0 hS ?_
  refine tl 1 hS (fun w hw => MBox.load_b hw) ?_
  refine tk 2 hS ?_
  refine tl 3 hS (fun w hw => MBox.load_cnt hw) ?_
  refine tk 5 hS ?_
  refine tk 6 hS ?_
  refine tl 7 hS (fun w hw => MBox.load_pl hw) ?_
  refine tk 8 hS ?_
  refine tl 9 hS (fun w hw => MBox.load_b hw) ?_
  refine hc 4 (calls_told (C1.out _)) ?_
  rintro v' wb ⟨rfl, kk⟩
  have X := Lib.hid (X.out.next kk)
  refine ⟨X.out.g0, fun hS => ?_⟩
  clear kk
  simp only [puts]
  refine hc 10 (calls_told (C2.out _)) ?_
  rintro v' wb ⟨rfl, kk⟩
  have X := Lib.hid (X.out.next kk)
  refine ⟨X.out.g0, fun hS => ?_⟩
  clear kk
  simp only [puts]
  refine hc 11 (calls_told (C3.out _)) ?_
  rintro v' wb ⟨rfl, kk⟩
  have X := Lib.hid (X.out.next kk)
  refine ⟨X.out.g0, fun hS => ?_⟩
  clear kk
  simp only [puts]
  refine tk 12 hS ?_
  refine tk 13 hS ?_
  refine wpAnyH_done (by kernel_rfl) ?_ _
  go_wp2_with fail
  go_ret
  exact ⟨rfl, X.out.below⟩
set_option maxRecDepth 100000 in
set_option maxHeartbeats 4000000 in
theorem rlines_m (m : Mc) (p : Pt) (W : World) (hl : m.b.fn = p.F.length) : Calls Try.prog 9 #[mcV m] W fun e W' => e = .returned (.int .u64 (linesV m p)) ∧ Below W.heap.size W W' := by
  have C1 := Lib.hid (fun W => rclock_any m.b m.cnt W)
  have C2 := Lib.hid (fun W => rsources_any m.b p.F W hl)
  have C3 := Lib.hid (fun W => Pc.rlines_any m.b.pl (sourcesV m.b p.F) W)
  unfold linesV
  generalize sourcesV m.b p.F = sv at C2 C3 ⊢
  generalize clockV m.b m.cnt = cv at C1 ⊢
  generalize Pc.linesF m.b.pl sv = lv at C3 ⊢
  clear hl
  go_enter Try.func9, Try.ntmps9
  have X := Lib.hid ((Mem.start W).new (mcC m) 42 (by decide))
  go_upto_region 1 with (fail)
  generalize W.alloc (.cells (mcC m) 42) = wa at X ⊢
  refine dr (fun w => MBox w W.heap.size m) fun wz hzz => ?_
  have X := Lib.hid (X.out.next hzz)
  clear hzz
  have hS : MBox wz W.heap.size m := X.out.g0
  refine tk 0 hS ?_
  refine tl 1 hS (fun w hw => MBox.load_b hw) ?_
  refine tk 2 hS ?_
  refine tl 3 hS (fun w hw => MBox.load_cnt hw) ?_
  refine tk 5 hS ?_
  refine tk 6 hS ?_
  refine tl 7 hS (fun w hw => MBox.load_pl hw) ?_
  refine tk 8 hS ?_
  refine tl 9 hS (fun w hw => MBox.load_b hw) ?_
  refine hc 4 (calls_told (C1.out _)) ?_
  rintro v' wb ⟨rfl, kk⟩
  have X := Lib.hid (X.out.next kk)
  refine ⟨X.out.g0, fun hS => ?_⟩
  clear kk
  simp only [puts]
  refine hc 10 (calls_told (C2.out _)) ?_
  rintro v' wb ⟨rfl, kk⟩
  have X := Lib.hid (X.out.next kk)
  refine ⟨X.out.g0, fun hS => ?_⟩
  clear kk
  simp only [puts]
  refine hc 11 (calls_told (C3.out _)) ?_
  rintro v' wb ⟨rfl, kk⟩
  have X := Lib.hid (X.out.next kk)
  refine ⟨X.out.g0, fun hS => ?_⟩
  clear kk
  simp only [puts]
  refine tk 12 hS ?_
  refine tk 13 hS ?_
  refine wpAnyH_done (by kernel_rfl) ?_ _
  go_wp2_with fail
  go_ret
  exact ⟨rfl, X.out.below⟩
theorem MBox.load_ram' {w : World} {g : Nat} {m : Mc} {dv mv : Value} {E : Int} (k : MBox w g m) (e1 : m.dv = dv) (e2 : m.mv = mv) (e3 : m.E = E) : (Instr.loadAt 39 (.pointer (some ⟨g, 73, none⟩))).run Try.prog w = .ok (.agg #[dv, mv, .int .u64 E]) w := by subst e1 e2 e3; exact k.load_ram
/-- append(nil, records...). -/
theorem run_recs_nil (w : World) (q : Option Addr) (c : Nat) (O : List Rec) (hr : Reads w (.slice q O.length c) 3 O.length (oC O)) (hO : O.length * 32 ≤ 140737488355328) :
    ∃ p cap w', (Builtin.append_ #[40, 40] 40 #[.slice none 0 0, .slice q O.length c]).run Try.prog w = .ok (.slice p O.length cap) w' ∧ w'.ownsRow w.heap.size 62 3 (.slice p O.length cap) O.length (oC O) ∧ Below w.heap.size w w' := by
  obtain ⟨i, hi, hz, hs, hb⟩ := info62
  have hown : w.ownsRow w.heap.size 62 3 (.slice none 0 0) 0 [] := World.ownsRow_nil w _ _ _
  have hl := hr.1
  rcases hr.2 with ⟨e1, e2⟩ | ⟨a, c2, e1, _, _, hc⟩
  · simp only [Value.slice.injEq] at e1
    obtain ⟨rfl, _, rfl⟩ := e1
    obtain rfl : O = [] := List.eq_nil_of_length_eq_zero e2
    exact ⟨_, _, w, run_append_owned_none (P := Try.prog) w w.heap.size 40 40 62 i 3 Try.underlying40 hi _ 0 [] hown, hown, Below.refl _ _⟩
  · simp only [Value.slice.injEq, true_and] at e1
    obtain ⟨rfl, rfl⟩ := e1
    obtain ⟨v', w', hrun, ho, hgr, _⟩ := run_append_own (P := Try.prog) w w.heap.size 40 40 62 i (.agg rcZ) 3 32 Try.underlying40 hi hz hs hb rfl (by omega) _ 0 [] hown a O.length c (oC O) hl hc (oC_one O) (by unfold maxLen; omega) (by omega) (Nat.le_refl _)
    rw [Nat.zero_add, List.nil_append] at ho
    obtain ⟨p, cap, rfl⟩ := owns_shape ho
    exact ⟨p, cap, w', hrun, ho, below_grown hgr⟩
set_option maxRecDepth 100000 in
set_option maxHeartbeats 4000000 in
theorem bcopy_any (m : Mc) (p : Pt) (W : World) (K : MR W m p) (hF : p.F.length ≤ 8796093022208) (hD : p.D.length ≤ 140737488351232) (hM : p.M.length ≤ 17592186043904) (hO : p.O.length * 32 ≤ 140737488355328) : Calls Try.prog 11 #[mcV m] W fun e W' =>
    ∃ q c dv mv ov, e = .returned (mcV { m with b := m.b.at q p.F.length c, dv := dv, mv := mv, ov := ov }) ∧ FT W' W.heap.size (.slice q p.F.length c) p.F ∧ OwnD W' W.heap.size dv p.D ∧ OwnM W' W.heap.size mv p.M ∧ W'.ownsRow W.heap.size 62 3 ov p.O.length (oC p.O) ∧ Below W.heap.size W W' := by
  obtain ⟨qo, co, hov⟩ := K.o.is
  have C1 := Lib.hid (fun W' (h : Below W.heap.size W W') => copy_any m.dv m.mv m.E p.D p.M W' (K.next h).d (K.next h).mm hD hM)
  have C2 := Lib.hid (fun W' (h : Below W.heap.size W W') => copy_bd m.b p.F W' (K.next h).fr hF)
  have C3 := Lib.hid (fun W' (h : Below W.heap.size W W') => run_recs_nil W' qo co p.O (hov ▸ (K.next h).o) hO)
  have HV := Lib.hid hov
  clear K hF hD hM hO hov
  go_enter Try.func11, Try.ntmps11
  go_upto_region 1 with (fail)
  have X := Lib.hid (Mem.two (W := W) (mcC m) Try.zeroCells42)
  generalize (W.alloc (Obj.cells (mcC m) 42)).alloc (Obj.cells Try.zeroCells42 42) = wa at X ⊢
  go_upto_region 2 with (first | (with_reducible refine wpList_load_by rfl rfl (MBox.load_b' (b := m.b) X.out.m1 rfl) rfl ?_) | (go_at_call 26; (with_reducible refine (C2.out _ X.out.below).mono ?_); rintro e wd ⟨q, c, rfl, hf, kk⟩; have XB := X.out.below.size; have X := Lib.hid ((X.out.next kk).addrow hf XB (by decide)); clear kk hf XB) | (with_reducible refine wpList_store_by rfl rfl (MBox.store_b X.out.m1 (m.b.at q p.F.length c)) rfl rfl ?_) | fail)
  have X := Lib.hid (X.out.p1 (cs' := mcC { m with b := m.b.at q p.F.length c }) rfl)
  generalize wd.setRow W.heap.size (mcC { m with b := m.b.at q p.F.length c }) = wc at X ⊢
  go_upto_region 3 with (first | (with_reducible refine wpList_load_by rfl rfl (MBox.load_ram' (dv := m.dv) (mv := m.mv) (E := m.E) X.out.m1 rfl rfl rfl) rfl ?_) | (go_at_call 27; (with_reducible refine (C1.out _ X.out.below).mono ?_); rintro e wb ⟨dv, mv, rfl, hd, hm, kk⟩; obtain ⟨p2, c2, rfl⟩ := owns_shape hd; obtain ⟨q2, d2, rfl⟩ := owns_shape hm; have XB := X.out.below.size; have X := Lib.hid (((X.out.next kk).addrow hd XB (by decide)).addrow hm XB (by decide)); clear kk hd hm XB) | (with_reducible refine wpList_store_by rfl rfl (MBox.store_ram X.out.m1 p2 q2 p.D.length c2 p.M.length d2 m.E) rfl rfl ?_) | fail)
  have X := Lib.hid (X.out.p1 (cs' := mcC { m with b := m.b.at q p.F.length c, dv := .slice p2 p.D.length c2, mv := .slice q2 p.M.length d2 }) rfl)
  generalize wb.setRow W.heap.size _ = we at X ⊢
  generalize hm5 : ({ m with b := m.b.at q p.F.length c, dv := .slice p2 p.D.length c2, mv := .slice q2 p.M.length d2 } : Mc) = m5 at X
  have hov : m5.ov = .slice qo p.O.length co := by rw [← hm5]; exact HV.out
  obtain ⟨p4, c4, w4, hrun, ho, hb⟩ := C3.out we X.out.below
  have HR := Lib.hid hrun
  have X4 := Lib.hid (X.out.next hb)
  have HO := Lib.hid (owns_base ho X.out.below.size)
  have HV5 := Lib.hid hov
  have HM := Lib.hid hm5
  clear hrun ho hb hov hm5
  go_upto_region 4 with (first | (with_reducible refine wpList_load_by rfl rfl (MBox.load_o' X.out.m1 HV5.out) rfl ?_) | (at_builtin; (refine wpList_append_run rfl _ _ 40 rfl _ _ _ rfl rfl _ HR.out ?_)) | (with_reducible refine wpList_store_by rfl rfl (MBox.store_o X4.out.m1 p4 p.O.length c4) rfl rfl ?_) | fail)
  have X5 := Lib.hid (X4.out.p1 (cs' := mcC { m5 with ov := .slice p4 p.O.length c4 }) rfl)
  have HO := Lib.hid (owns_over HO.out X4.out.g1 (by decide) (mcC { m5 with ov := .slice p4 p.O.length c4 }))
  generalize hm6 : ({ m5 with ov := .slice p4 p.O.length c4 } : Mc) = m6 at X5 HO ⊢
  generalize w4.setRow W.heap.size (mcC m6) = w5 at X5 HO ⊢
  have h1 : Mc1 m6 := by subst hm6; rw [← HM.out]; exact ⟨rfl, rfl, rfl⟩
  have HN := Lib.hid h1
  have HM6 := Lib.hid hm6
  clear X X4 h1 hm6 C1 C2 C3
  go_wp2_with (first | (with_reducible refine wpList_load_by rfl rfl (MBox.load X5.out.m1) rfl ?_) | (with_reducible refine wpList_store_by rfl rfl (MBox.store m6 HN.out X5.out.g0 (by kernel_rfl)) rfl rfl ?_) | fail)
  have X6 := Lib.hid (X5.out.p0 (cs' := mcC m6) rfl)
  have HO := Lib.hid (owns_over HO.out X5.out.g0 (by decide) (mcC m6))
  generalize w5.setRow (W.heap.size + 1) (mcC m6) = w6 at X6 HO ⊢
  refine bodyPost_ret (v := mcV m6) (results_cell_row Try.results11 _ _ (W.heap.size + 1) 42 (mcC m6) (0, 0) _ rfl X6.out.g0 Try.underlying42 rfl (by rw [size42, mcC_size])) rfl ⟨q, c, .slice p2 p.D.length c2, .slice q2 p.M.length d2, .slice p4 p.O.length c4, ?_, FT.of X6.out.r2, X6.out.r1, X6.out.r0, HO.out, X6.out.below⟩
  rw [← HM6.out, ← HM.out]
/-- What a look tells. -/
def lkV (m : Mc) (p : Pt) (t s v : Int) (rd : Bool) : Int × Bool := if rd then ((ldM m p t s).2.2.1, (ldM m p t s).2.2.2) else (0, (stM m p t s v).2.2)
set_option maxRecDepth 100000 in
set_option maxHeartbeats 4000000 in
theorem look_tells (z B : Nat) (m : Mc) (p : Pt) (t s v : Int) (rd : Bool) (W : World) (K : MS W B z m p) (hB : B ≤ W.heap.size) (ok : POk m p) (hO : (p.O.length + 1) * 32 ≤ 140737488355328) (ht : 0 ≤ t ∧ t ≤ 18446744073709551615) (hv : 0 ≤ v ∧ v ≤ 18446744073709551615) : Calls Try.prog 13 #[.pointer (some ⟨z, 0, none⟩), .agg (lkC t s v rd)] W fun e W' =>
    e = .returned (.tuple #[.int .u64 (lkV m p t s v rd).1, .bool (lkV m p t s v rd).2]) ∧ Did W W' B z m (lkM m p t s v rd).1 (lkM m p t s v rd).2 := by
  have X := Lib.hid ((Mem.start W).new (lkC t s v rd) 52 (by decide))
  have hb1 : Below W.heap.size W (W.alloc (.cells (lkC t s v rd) 52)) := below1 W _
  have hl : (W.alloc (.cells (lkC t s v rd) 52)).heap[W.heap.size]? = some (.cells (lkC t s v rd) 52 (0, 0)) := X.out.g0
  have K1 := K.next hb1
  have hs := hb1.size
  have C0 := Lib.hid (ld_any z B m p t s _ K1 (by omega) ok ht.1 ht.2)
  have C1 := Lib.hid (st_any z B m p t s v _ K1 (by omega) ok hO ht hv)
  have HT := Lib.hid (touch_of_below hb1 (Ow m z))
  have c0 : (W.alloc (.cells (lkC t s v rd) 52)).cell? ⟨W.heap.size, 0, none⟩ = some (.int .u64 t) := cell_of_row _ _ 0 _ 52 (0, 0) hl
  have c1 : (W.alloc (.cells (lkC t s v rd) 52)).cell? ⟨W.heap.size, 1, none⟩ = some (.int .i64 s) := cell_of_row _ _ 1 _ 52 (0, 0) hl
  have c2 : (W.alloc (.cells (lkC t s v rd) 52)).cell? ⟨W.heap.size, 2, none⟩ = some (.int .u64 v) := cell_of_row _ _ 2 _ 52 (0, 0) hl
  have c3 : (W.alloc (.cells (lkC t s v rd) 52)).cell? ⟨W.heap.size, 3, none⟩ = some (.bool rd) := cell_of_row _ _ 3 _ 52 (0, 0) hl
  clear K hB ok hO ht hv hb1 K1 hs X hl
  go_enter Try.func13, Try.ntmps13
  go_upto_region 1 with (fail)
  generalize W.alloc (.cells (lkC t s v rd) 52) = wa at *
  cases rd
  · go_wp2_with (first | (go_at_call 15; (with_reducible refine C1.out.mono ?_); rintro e wb ⟨rfl, kk⟩; have kk := Lib.hid (kk.before HT.out)) | fail)
    go_ret2
    exact ⟨rfl, kk.out⟩
  · go_wp2_with (first | (go_at_call 17; (with_reducible refine C0.out.mono ?_); rintro e wb ⟨rfl, kk⟩; have kk := Lib.hid (kk.before HT.out)) | fail)
    go_ret2
    exact ⟨rfl, kk.out⟩
set_option maxRecDepth 100000 in
set_option maxHeartbeats 4000000 in
theorem told_tells (z B : Nat) (m : Mc) (p : Pt) (t s v : Int) (rd : Bool) (W : World) (K : MS W B z m p) (hB : B ≤ W.heap.size) (ok : POk m p) (he : Pc.U32 m.b.pl.e0 ∧ Pc.U32 m.b.pl.e1) (hO : (p.O.length + 1) * 32 ≤ 140737488355328) (ht : 0 ≤ t ∧ t ≤ 18446744073709551615) (hv : 0 ≤ v ∧ v ≤ 18446744073709551615) : Calls Try.prog 14 #[.pointer (some ⟨z, 0, none⟩), .agg (lkC t s v rd)] W fun e W' =>
    e = .returned (.tuple #[.int .u64 (lkV m p t s v rd).1, .bool (lkV m p t s v rd).2]) ∧ Did W W' B z m (lkM m p t s v rd).1 (lkM m p t s v rd).2 := by
  have X := Lib.hid ((Mem.start W).new (lkC t s v rd) 52 (by decide))
  have hb1 : Below W.heap.size W (W.alloc (.cells (lkC t s v rd) 52)) := below1 W _
  have hl : (W.alloc (.cells (lkC t s v rd) 52)).heap[W.heap.size]? = some (.cells (lkC t s v rd) 52 (0, 0)) := X.out.g0
  have K1 := K.next hb1
  have hs := hb1.size
  have C0 := Lib.hid (rld_any z B m p t s _ K1 (by omega) ok ht.1 ht.2)
  have C1 := Lib.hid (rst_any z B m p t s v _ K1 (by omega) ok he hO ht hv)
  have HT := Lib.hid (touch_of_below hb1 (Ow m z))
  have c0 : (W.alloc (.cells (lkC t s v rd) 52)).cell? ⟨W.heap.size, 0, none⟩ = some (.int .u64 t) := cell_of_row _ _ 0 _ 52 (0, 0) hl
  have c1 : (W.alloc (.cells (lkC t s v rd) 52)).cell? ⟨W.heap.size, 1, none⟩ = some (.int .i64 s) := cell_of_row _ _ 1 _ 52 (0, 0) hl
  have c2 : (W.alloc (.cells (lkC t s v rd) 52)).cell? ⟨W.heap.size, 2, none⟩ = some (.int .u64 v) := cell_of_row _ _ 2 _ 52 (0, 0) hl
  have c3 : (W.alloc (.cells (lkC t s v rd) 52)).cell? ⟨W.heap.size, 3, none⟩ = some (.bool rd) := cell_of_row _ _ 3 _ 52 (0, 0) hl
  clear K hB ok he hO ht hv hb1 K1 hs X hl
  go_enter Try.func14, Try.ntmps14
  go_upto_region 1 with (fail)
  generalize W.alloc (.cells (lkC t s v rd) 52) = wa at *
  cases rd
  · go_wp2_with (first | (go_at_call 31; (with_reducible refine C1.out.mono ?_); rintro e wb ⟨rfl, kk⟩; have kk := Lib.hid (kk.before HT.out)) | fail)
    go_ret2
    exact ⟨rfl, kk.out⟩
  · go_wp2_with (first | (go_at_call 30; (with_reducible refine C0.out.mono ?_); rintro e wb ⟨rfl, kk⟩; have kk := Lib.hid (kk.before HT.out)) | fail)
    go_ret2
    exact ⟨rfl, kk.out⟩

end Go.Proofs.Ytnedhjaphfjdmaa
