/- Copy of a machine. -/
import Derived.Test.YtgflnfmnjlmenaaYBT
import Derived.Test.YtgflnfmnjlmenaaYRP
import Derived.Test.YtgflnfmnjlmenaaYDLZ
namespace Go.Proofs.Ytgflnfmnjlmenaa
open Go.RowKit Go.Deep Go.Joins
/-- A machine's parts, to be read. -/
structure MR (w : World) (m : Mc) (p : Pt) : Prop where
  fr : FAt w (.slice m.b.fp m.b.fn m.b.fc) p.F
  d : DAt w m.dv p.D
  mm : MAt w m.mv p.M
  o : Reads w m.ov 3 p.O.length (oC p.O)
theorem MR.next {w w' : World} {m : Mc} {p : Pt} (h : MR w m p) (hb : Below w.heap.size w w') : MR w' m p := ⟨h.fr.next hb, h.d.below hb, h.mm.below hb, h.o.below hb⟩
theorem MS.rd {w : World} {B z : Nat} {m : Mc} {p : Pt} (h : MS w B z m p) : MR w m p := ⟨h.fr.rd, h.d.at, h.mm.at, reads_of_owns h.o⟩
theorem Mem.two {W : World} (cs cs' : Array Value) : Mem W ((W.alloc (.cells cs 42)).alloc (.cells cs' 42)) [(W.heap.size + 1, cs', 42), (W.heap.size, cs, 42)] [] := by
  have h := ((Mem.start W).new cs 42 (by decide)).new cs' 42 (by decide)
  rwa [World.size_alloc] at h
theorem Mem.m1 {W w : World} {x0 : Nat × Array Value × Nat} {k : Nat} {m : Mc} {l : List (Nat × Array Value × Nat)} {r : List (Nat × Value × Nat × List Value)} (h : Mem W w (x0 :: (k, mcC m, 42) :: l) r) : MBox w k m := h.g1
theorem MBox.load_b' {w : World} {g : Nat} {m : Mc} (k : MBox w g m) {b : Bd} (e : m.b = b) : (Instr.loadAt 35 (.pointer (some ⟨g, 52, none⟩))).run Try.prog w = .ok (bdV b) w := by subst e; exact k.load_b
theorem MBox.load_o' {w : World} {g : Nat} {m : Mc} (k : MBox w g m) {v : Value} (e : m.ov = v) : (Instr.loadAt 40 (.pointer (some ⟨g, 78, none⟩))).run Try.prog w = .ok v w := by subst e; exact k.load_o
theorem run_append_firstN (w : World) (t ty e : TypeId) (i : TypeInfo) (z : Value) (size bytes : Nat) (ht : Try.prog.underlying t = some (.slice e)) (hi : Try.prog.info? e = some i) (hz : i.zero = some z) (hsize : i.size = size) (hby : i.bytes = bytes) (hzs : z.cells.size = size) (h0 : 0 < size)
    (B g : Nat) (hg : w.heap[g]? = some (.cells #[] e (0, 0))) (hB : B ≤ g) (q : Option Addr) (n c : Nat) (cells : List Value) (hr : Reads w (.slice q n c) size n cells) (h1 : ∀ u ∈ cells, u.oneCell' = true) (h63 : n ≤ maxLen) (hbytes : n * bytes ≤ 140737488355328) (hbase : B ≤ w.heap.size) :
    ∃ p cap w', (Builtin.append_ #[t, t] ty #[.slice (some ⟨g, 0, none⟩) 0 0, .slice q n c]).run Try.prog w = .ok (.slice p n cap) w' ∧ w'.ownsRow B e size (.slice p n cap) n cells ∧ Touch w w' (fun k => k = g) := by
  have hown := owns_empty (w := w) (B := B) (size := size) hg hB
  have hl := hr.1
  rcases hr.2 with ⟨e1, rfl⟩ | ⟨a, c2, e1, _, _, hc⟩
  · simp only [Value.slice.injEq] at e1
    obtain ⟨rfl, _, rfl⟩ := e1
    obtain rfl : cells = [] := List.eq_nil_of_length_eq_zero (by rw [hl, Nat.zero_mul])
    refine ⟨_, _, w, run_append_owned_none (P := Try.prog) w B t ty e i size ht hi _ 0 [] hown, hown, Touch.refl _ _⟩
  · simp only [Value.slice.injEq, true_and] at e1
    obtain ⟨rfl, rfl⟩ := e1
    obtain ⟨v', w', hrun, ho, hgr, _⟩ := run_append_own (P := Try.prog) w B t ty e i z size bytes ht hi hz hsize hby hzs h0 _ 0 [] hown a n c cells hl hc h1 (by omega) (by rw [Nat.zero_add]; exact hbytes) hbase
    rw [Nat.zero_add, List.nil_append] at ho
    obtain ⟨p, cap, rfl⟩ := owns_shape ho
    exact ⟨p, cap, w', hrun, ho, (touch_of_grown hgr).mono (fun k _ hk => by cases hk; rfl)⟩
/-- The records, laid into a row of their own. -/
theorem run_recs (w : World) (q : Option Addr) (c : Nat) (O : List Rec) (hr : Reads w (.slice q O.length c) 3 O.length (oC O)) (hO : O.length * 32 ≤ 140737488355328) : ∃ p cap w', (Builtin.append_ #[40, 40] 40 #[.slice (some ⟨w.heap.size, 0, none⟩) 0 0, .slice q O.length c]).run Try.prog (w.alloc (.cells #[] 52)) = .ok (.slice p O.length cap) w' ∧ w'.ownsRow w.heap.size 52 3 (.slice p O.length cap) O.length (oC O) ∧ Below w.heap.size w w' := by
  obtain ⟨i, hi, hz, hs, hb⟩ := info52
  obtain ⟨p, cap, w2, hrun, ho, ht⟩ := run_append_firstN (w.alloc (.cells #[] 52)) 40 40 52 i (.agg rcZ) 3 32 Try.underlying40 hi hz hs hb rfl (by omega) w.heap.size w.heap.size (heap_alloc_last w _) (Nat.le_refl _) q O.length c (oC O) (hr.below (below1 w _)) (oC_one O) (by unfold maxLen; omega) hO (by simp)
  exact ⟨p, cap, w2, hrun, ho, Touch.below (below1 w _) ht (fun k hk => by omega) (by simp)⟩
set_option maxRecDepth 100000 in
set_option maxHeartbeats 4000000 in
theorem rmcopy_any (m : Mc) (p : Pt) (W : World) (K : MR W m p) (hF : p.F.length ≤ 8796093022208) (hD : p.D.length ≤ 140737488351232) (hM : p.M.length ≤ 17592186043904) (hO : p.O.length * 32 ≤ 140737488355328) : Calls Try.prog 8 #[mcV m] W fun e W' =>
    ∃ q c dv mv ov, e = .returned (mcV { m with b := m.b.at q p.F.length c, dv := dv, mv := mv, ov := ov }) ∧ FT W' W.heap.size (.slice q p.F.length c) p.F ∧ OwnD W' W.heap.size dv p.D ∧ OwnM W' W.heap.size mv p.M ∧ W'.ownsRow W.heap.size 52 3 ov p.O.length (oC p.O) ∧ Below W.heap.size W W' := by
  obtain ⟨qo, co, hov⟩ := K.o.is
  have C1 := Lib.hid (fun W' (h : Below W.heap.size W W') => rcopy_any m.dv m.mv m.E p.D p.M W' (K.next h).d (K.next h).mm hD hM)
  have C2 := Lib.hid (fun W' (h : Below W.heap.size W W') => rcopy_bd m.b p.F W' (K.next h).fr hF)
  have C3 := Lib.hid (fun W' (h : Below W.heap.size W W') => run_recs W' qo co p.O (hov ▸ (K.next h).o) hO)
  have HV := Lib.hid hov
  clear K hF hD hM hO hov
  go_enter Try.func8, Try.ntmps8
  go_upto_region 1 with (fail)
  have X := Lib.hid (Mem.two (W := W) (mcC m) zc42)
  generalize (W.alloc (Obj.cells (mcC m) 42)).alloc (Obj.cells zc42 42) = wa at X ⊢
  go_upto_region 2 with (first | (with_reducible refine wpList_load_by rfl rfl (MBox.load_ram X.out.m1) rfl ?_) | (go_at_call 14; (with_reducible refine (C1.out _ X.out.below).mono ?_); rintro e wb ⟨dv, mv, rfl, hd, hm, kk⟩; obtain ⟨p2, c2, rfl⟩ := owns_shape hd; obtain ⟨q2, d2, rfl⟩ := owns_shape hm; have XB := X.out.below.size; have X := Lib.hid (((X.out.next kk).addrow hd XB (by decide)).addrow hm XB (by decide)); clear kk hd hm XB) | (with_reducible refine wpList_store_by rfl rfl (MBox.store_ram X.out.m1 p2 q2 p.D.length c2 p.M.length d2 m.E) rfl rfl ?_) | fail)
  have X := Lib.hid (X.out.p1 (cs' := mcC { m with dv := .slice p2 p.D.length c2, mv := .slice q2 p.M.length d2 }) rfl)
  generalize wb.setRow W.heap.size (mcC { m with dv := .slice p2 p.D.length c2, mv := .slice q2 p.M.length d2 }) = wc at X ⊢
  go_upto_region 3 with (first | (with_reducible refine wpList_load_by rfl rfl (MBox.load_b' (b := m.b) X.out.m1 rfl) rfl ?_) | (go_at_call 15; (with_reducible refine (C2.out _ X.out.below).mono ?_); rintro e wd ⟨q, c, rfl, hf, kk⟩; have XB := X.out.below.size; have X := Lib.hid ((X.out.next kk).addrow hf XB (by decide)); clear kk hf XB) | (with_reducible refine wpList_store_by rfl rfl (MBox.store_b X.out.m1 (m.b.at q p.F.length c)) rfl rfl ?_) | fail)
  have X := Lib.hid (X.out.p1 (cs' := mcC { m with b := m.b.at q p.F.length c, dv := .slice p2 p.D.length c2, mv := .slice q2 p.M.length d2 }) rfl)
  generalize wd.setRow W.heap.size _ = we at X ⊢
  generalize hm5 : ({ m with b := m.b.at q p.F.length c, dv := .slice p2 p.D.length c2, mv := .slice q2 p.M.length d2 } : Mc) = m5 at X
  have hov : m5.ov = .slice qo p.O.length co := by rw [← hm5]; exact HV.out
  have X1 := Lib.hid (X.out.next (below1 we (.cells #[] 52)))
  obtain ⟨p4, c4, w4, hrun, ho, hb⟩ := C3.out we X.out.below
  have HR := Lib.hid hrun
  have X4 := Lib.hid (X.out.next hb)
  have HO := Lib.hid (owns_base ho X.out.below.size)
  have HV5 := Lib.hid hov
  have HM := Lib.hid hm5
  clear hrun ho hb hov hm5
  go_upto_region 4 with (first | (with_reducible refine wpList_load_by rfl rfl (MBox.load_o' X1.out.m1 HV5.out) rfl ?_) | (at_builtin; (refine wpList_append_run rfl _ _ 40 rfl _ _ _ rfl rfl _ HR.out ?_)) | (with_reducible refine wpList_store_by rfl rfl (MBox.store_o X4.out.m1 p4 p.O.length c4) rfl rfl ?_) | fail)
  have X5 := Lib.hid (X4.out.p1 (cs' := mcC { m5 with ov := .slice p4 p.O.length c4 }) rfl)
  have HO := Lib.hid (owns_over HO.out X4.out.g1 (by decide) (mcC { m5 with ov := .slice p4 p.O.length c4 }))
  generalize hm6 : ({ m5 with ov := .slice p4 p.O.length c4 } : Mc) = m6 at X5 HO ⊢
  generalize w4.setRow W.heap.size (mcC m6) = w5 at X5 HO ⊢
  have h1 : Mc1 m6 := by subst hm6; rw [← HM.out]; exact ⟨rfl, rfl, rfl⟩
  have HN := Lib.hid h1
  have HM6 := Lib.hid hm6
  clear X X1 X4 h1 hm6 C1 C2 C3
  go_wp2_with (first | (with_reducible refine wpList_load_by rfl rfl (MBox.load X5.out.m1) rfl ?_) | (with_reducible refine wpList_store_by rfl rfl (MBox.store m6 HN.out X5.out.g0 (by kernel_rfl)) rfl rfl ?_) | fail)
  have X6 := Lib.hid (X5.out.p0 (cs' := mcC m6) rfl)
  have HO := Lib.hid (owns_over HO.out X5.out.g0 (by decide) (mcC m6))
  generalize w5.setRow (W.heap.size + 1) (mcC m6) = w6 at X6 HO ⊢
  refine bodyPost_ret (v := mcV m6) (results_cell_row Try.results8 _ _ (W.heap.size + 1) 42 (mcC m6) (0, 0) _ rfl X6.out.g0 Try.underlying42 rfl (by rw [size42, mcC_size])) rfl ⟨q, c, .slice p2 p.D.length c2, .slice q2 p.M.length d2, .slice p4 p.O.length c4, ?_, FT.of X6.out.r0, X6.out.r2, X6.out.r1, HO.out, X6.out.below⟩
  rw [← HM6.out, ← HM.out]

end Go.Proofs.Ytgflnfmnjlmenaa
