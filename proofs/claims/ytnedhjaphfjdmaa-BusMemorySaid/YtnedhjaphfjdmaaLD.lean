/- BusMemory: what was stored is loaded. -/
import Derived.Test.YtnedhjaphfjdmaaLC
namespace Go.Proofs.Ytnedhjaphfjdmaa
open Go.RowKit Go.Deep Go.Joins
theorem want_1 (v : Int) (hv : 0 ≤ v ∧ v ≤ 18446744073709551615) : ((v.toNat % 256 ^ (Int.toNat 1) : Nat) : Int) = bits .and .u64 v 255 := by
  have hx : ((v.toNat : Nat) : Int) = v := by omega
  have h := and_mask v.toNat 8 (by omega) (by decide)
  rw [hx] at h
  exact h.symm
theorem want_2 (v : Int) (hv : 0 ≤ v ∧ v ≤ 18446744073709551615) : ((v.toNat % 256 ^ (Int.toNat 2) : Nat) : Int) = bits .and .u64 v 65535 := by
  have hx : ((v.toNat : Nat) : Int) = v := by omega
  have h := and_mask v.toNat 16 (by omega) (by decide)
  rw [hx] at h
  exact h.symm
theorem want_4 (v : Int) (hv : 0 ≤ v ∧ v ≤ 18446744073709551615) : ((v.toNat % 256 ^ (Int.toNat 4) : Nat) : Int) = bits .and .u64 v 4294967295 := by
  have hx : ((v.toNat : Nat) : Int) = v := by omega
  have h := and_mask v.toNat 32 (by omega) (by decide)
  rw [hx] at h
  exact h.symm
theorem want_8 (v : Int) (hv : 0 ≤ v ∧ v ≤ 18446744073709551615) : ((v.toNat % 256 ^ (Int.toNat 8) : Nat) : Int) = v := by
  have e : (256 : Nat) ^ (Int.toNat 8) = 18446744073709551616 := by decide
  rw [e]
  omega
set_option maxRecDepth 100000 in
set_option maxHeartbeats 4000000 in
theorem memory_yes (m : Mc) (p : Pt) (t s v : Int) (rd : Bool) (W : World) (K : MR W m p) (ok : POk m p) (hO : (p.O.length + 1) * 32 ≤ 140737488355328) (ht : 0 ≤ t ∧ t ≤ 18446744073709551615) (hv : 0 ≤ v ∧ v ≤ 18446744073709551615) (hs : s = 1 ∨ s = 2 ∨ s = 4 ∨ s = 8) (hth : thereB p.D.length t s = true) : Calls Try.prog 4 #[mcV m, .agg (lkC t s v rd)] W fun e W' => e = .returned (.bool true) ∧ Below W.heap.size W W' := by
  have C0 := Lib.hid awake_any
  have C1 := Lib.hid (fun W' (h : Below W.heap.size W W') => rmcopy_any m p W' (K.next h) ok.fl ok.dl ok.ml (by omega))
  have C6 := Lib.hid (fun w (h : Below W.heap.size W w) => rload_all m.dv m.mv (.int .u64 m.E) p.D t s w (K.next h).d ht.1 ht.2)
  have HK := Lib.hid K
  have HP := Lib.hid ok
  have HL := Lib.hid (And.intro hO (And.intro ht hv))
  obtain ⟨hp, hl, hst, hld⟩ := bounds_ld p.D t s v ht.1 hv hs hth
  have hok : okB s = true := by unfold okB; simpa [or_assoc] using hs
  rw [hst] at C6
  have HST := Lib.hid (And.intro hok hp)
  generalize hD' : putD p.D t (bytesN v.toNat s.toNat) = D' at hl hld
  generalize hM' : putM p.D.length p.M m.E t (bytesN v.toNat s.toNat) = M'
  have hml : M'.length ≤ 17592186043904 := by
    rw [← hM']
    unfold putM
    split
    · rw [mk_length]; exact ok.ml
    · exact ok.ml
  have HDM := Lib.hid (And.intro hD' hM')
  have HLD := Lib.hid (And.intro (show stE D'.length t s = 0 by rw [hl]; exact hst) hld)
  have HP2 := Lib.hid (show POk m ⟨p.F, D', M', p.O⟩ from ⟨ok.bd, ok.c, ok.fz, ok.fl, (by show D'.length ≤ _; rw [hl]; exact ok.dl), hml⟩)
  obtain ⟨p1, n1, e1⟩ := K.d.is
  obtain ⟨p2, n2, e2⟩ := K.mm.is
  have HE := Lib.hid (And.intro e1 e2)
  clear K ok hO ht hth hp hl hst hok hD' hM' hml e1 e2
  rcases hs with rfl | rfl | rfl | rfl
  · go_enter Try.func4, Try.ntmps4
    go_upto_region 1 with (fail)
    have X := Lib.hid (Mem.mcLk (W := W) (mcC m) (lkC t 1 v rd))
    generalize (W.alloc (Obj.cells (mcC m) 42)).alloc (Obj.cells (lkC t 1 v rd) 52) = wa at X ⊢
    go_upto_region 4 with (first | (go_at_call 7; (with_reducible refine (C0.out _).mono ?_); rintro e wb ⟨rfl, kk⟩; have X := Lib.hid (X.out.next kk); clear kk) | (with_reducible refine wpList_load_by rfl rfl (MBox.load X.out.m1) rfl ?_) | (go_at_call 12; (with_reducible refine (C1.out _ X.out.below).mono ?_); rintro e wn ⟨q, c, dv, mv, ov, rfl, h1, h2, h3, h4, kk⟩; have CA := Lib.hid (CP.base (CP.mk h1 h2 h3 h4) X.out.below.size); have X := Lib.hid (X.out.next kk); clear kk h1 h2 h3 h4) | (with_reducible refine wpList_store_by rfl rfl (MBox.store (atM m p.F.length q c dv mv ov) CA.out.one X.out.newM.g0 (by kernel_rfl)) rfl rfl ?_) | fail)
    have CA := Lib.hid ((CA.out.next (below1 wn mcZO)).over X.out.newM.g0 (mcC (atM m p.F.length q c dv mv ov)))
    have X := Lib.hid (X.out.newM.p0 (cs' := mcC (atM m p.F.length q c dv mv ov)) rfl)
    generalize wn.heap.size = z at X CA ⊢
    generalize (wn.alloc mcZO).setRow z (mcC (atM m p.F.length q c dv mv ov)) = wc at X CA ⊢
    have T := Lib.hid (one_mk X.out CA.out)
    clear X CA C0 C1
    have m_t : wc.cell? ⟨W.heap.size + 1, 0, none⟩ = some (.int .u64 t) := cell_of_row _ _ 0 _ 52 (0, 0) T.out.l
    have m_s : wc.cell? ⟨W.heap.size + 1, 1, none⟩ = some (.int .i64 1) := cell_of_row _ _ 1 _ 52 (0, 0) T.out.l
    have m_v : wc.cell? ⟨W.heap.size + 1, 2, none⟩ = some (.int .u64 v) := cell_of_row _ _ 2 _ 52 (0, 0) T.out.l
    have C5 := Lib.hid (fun w (h : One W w m p t 1 v rd z q c dv mv ov) => st_any z W.heap.size (atM m p.F.length q c dv mv ov) p t 1 v w h.a h.below.size (HP.out.at' _ _ _ _ _ _) HL.out.1 HL.out.2.1 HL.out.2.2)
    have hst := stM_put (atM m p.F.length q c dv mv ov) p t 1 v HST.out.1 HST.out.2
    rw [HDM.out.1, show (atM m p.F.length q c dv mv ov).E = m.E from rfl, HDM.out.2] at hst
    simp only [hst] at C5
    clear hst
    generalize ldV p.D t 1 = nl at C6
    have hv := HL.out.2.2
    have C15 := C5
    go_upto_region 11 with (first | ((with_reducible show wpList _ _ _ (⟨some 48, Op.load 39 _, _, _, _, _⟩ :: _) _ _); refine wpList_load_wanted (by kernel_rfl) rfl (MBox.load_ram T.out.r) rfl ?_; simp only [Act.put, List.setIfInBounds_toArray, List.set_cons_zero, List.set_cons_succ]) | (go_at_call 16; (with_reducible refine (C6.out _ T.out.below).mono ?_); rintro e wd ⟨rfl, kk⟩; have T := Lib.hid (T.out.next kk); clear kk m_t m_s m_v; have m_t := T.out.m_t; have m_s := T.out.m_s; have m_v := T.out.m_v) | (go_at_call 15; (with_reducible refine (C5.out _ T.out).mono ?_); rintro e w1 ⟨rfl, q1, c1, dv1, mv1, ov1, M1, T1, O1⟩) | fail)
    have B1 := Lib.hid (Touch.below T.out.below T1 (fun k hk => (T.out.a.lt hk).1) T.out.below.size)
    have R1 := Lib.hid (show MBox w1 W.heap.size m from (T1.block W.heap.size T.out.r.lt T.out.nr).trans T.out.r)
    have L1 := Lib.hid (show w1.heap[W.heap.size + 1]? = some (.cells (lkC t 1 v rd) 52 (0, 0)) from (T1.block _ (Array.getElem?_eq_some_iff.1 T.out.l).1 T.out.nl).trans T.out.l)
    have hlr := Array.getElem?_eq_some_iff.1 T.out.l
    have N1 := Lib.hid (And.intro (fun h => (O1 _ h).elim T.out.nr (fun k => absurd T.out.r.lt (Nat.not_lt.2 k))) (fun h => (O1 _ h).elim T.out.nl (fun k => absurd hlr.1 (Nat.not_lt.2 k))))
    have C7 := ld_any z W.heap.size _ ⟨p.F, D', M', p.O⟩ t 1 w1 M1 B1.out.size (HP2.out.at' p.F.length q1 c1 dv1 mv1 ov1) HL.out.2.1.1 HL.out.2.1.2
    rw [ldM_mem _ _ _ _ HLD.out.1, HLD.out.2, want_1 v hv] at C7
    have C7 := Lib.hid C7
    have M1 := Lib.hid M1
    clear T1 O1 C5 C15 C6 hlr m_t m_s m_v
    have m_t : w1.cell? ⟨W.heap.size + 1, 0, none⟩ = some (.int .u64 t) := cell_of_row _ _ 0 _ 52 (0, 0) L1.out
    have m_s : w1.cell? ⟨W.heap.size + 1, 1, none⟩ = some (.int .i64 1) := cell_of_row _ _ 1 _ 52 (0, 0) L1.out
    have m_v : w1.cell? ⟨W.heap.size + 1, 2, none⟩ = some (.int .u64 v) := cell_of_row _ _ 2 _ 52 (0, 0) L1.out
    go_upto_region 12 with (first | (go_at_call 17; (with_reducible refine C7.out.mono ?_); rintro e w2 ⟨rfl, q2, c2, dv2, mv2, ov2, M2, T2, O2⟩) | fail)
    have B2 := Lib.hid (Touch.below B1.out T2 (fun k hk => (M1.out.lt hk).1) B1.out.size)
    have R2 := Lib.hid (show MBox w2 W.heap.size m from (T2.block W.heap.size R1.out.lt N1.out.1).trans R1.out)
    have L2 := Lib.hid (show w2.heap[W.heap.size + 1]? = some (.cells (lkC t 1 v rd) 52 (0, 0)) from (T2.block _ (Array.getElem?_eq_some_iff.1 L1.out).1 N1.out.2).trans L1.out)
    have M2 := Lib.hid M2
    clear T2 O2 C7 m_t m_s m_v
    have m_s : w2.cell? ⟨W.heap.size + 1, 1, none⟩ = some (.int .i64 1) := cell_of_row _ _ 1 _ 52 (0, 0) L2.out
    have m_v : w2.cell? ⟨W.heap.size + 1, 2, none⟩ = some (.int .u64 v) := cell_of_row _ _ 2 _ 52 (0, 0) L2.out
    go_upto_region 15 with (fail)
    have LRAM := Lib.hid (show (Instr.loadAt 39 (.pointer (some ⟨W.heap.size, 73, none⟩))).run Try.prog w2 = .ok (.agg #[.slice p1 p.D.length n1, .slice p2 p.M.length n2, .int .u64 m.E]) w2 by rw [← HE.out.1, ← HE.out.2]; exact R2.out.load_ram)
    go_upto_region 16 with (first | (with_reducible refine wpList_load_by rfl rfl LRAM.out rfl ?_) | (with_reducible refine wpList_store_by rfl rfl (MBox.store_ram M2.out.box p1 p2 p.D.length n1 p.M.length n2 m.E) rfl rfl ?_) | fail)
    have B3 := Lib.hid (below_setRow B2.out M2.out.big (mcC { h := m.h, b := ((m.b.at q p.F.length c).at q1 p.F.length c1).at q2 p.F.length c2, dv := .slice p1 p.D.length n1, mv := .slice p2 p.M.length n2, E := m.E, cnt := m.cnt, nxt := m.nxt, ov := ov2 }))
    have K3 := Lib.hid (M2.out.box.put (m' := { h := m.h, b := ((m.b.at q p.F.length c).at q1 p.F.length c1).at q2 p.F.length c2, dv := .slice p1 p.D.length n1, mv := .slice p2 p.M.length n2, E := m.E, cnt := m.cnt, nxt := m.nxt, ov := ov2 }) rfl)
    have R3 := Lib.hid (R2.out.over (h := z) (fun e => T.out.nr (.inl e)) (mcC { h := m.h, b := ((m.b.at q p.F.length c).at q1 p.F.length c1).at q2 p.F.length c2, dv := .slice p1 p.D.length n1, mv := .slice p2 p.M.length n2, E := m.E, cnt := m.cnt, nxt := m.nxt, ov := ov2 }))
    have F3 := Lib.hid (M2.out.fr.over M2.out.box (by decide) (mcC { h := m.h, b := ((m.b.at q p.F.length c).at q1 p.F.length c1).at q2 p.F.length c2, dv := .slice p1 p.D.length n1, mv := .slice p2 p.M.length n2, E := m.E, cnt := m.cnt, nxt := m.nxt, ov := ov2 }))
    have O3 := Lib.hid (owns_over M2.out.o M2.out.box (by decide) (mcC { h := m.h, b := ((m.b.at q p.F.length c).at q1 p.F.length c1).at q2 p.F.length c2, dv := .slice p1 p.D.length n1, mv := .slice p2 p.M.length n2, E := m.E, cnt := m.cnt, nxt := m.nxt, ov := ov2 }))
    generalize w2.setRow z (mcC { h := m.h, b := ((m.b.at q p.F.length c).at q1 p.F.length c1).at q2 p.F.length c2, dv := .slice p1 p.D.length n1, mv := .slice p2 p.M.length n2, E := m.E, cnt := m.cnt, nxt := m.nxt, ov := ov2 }) = w3 at B3 K3 R3 F3 O3 ⊢
    have Q3 := Lib.hid (show MR w3 { h := m.h, b := ((m.b.at q p.F.length c).at q1 p.F.length c1).at q2 p.F.length c2, dv := .slice p1 p.D.length n1, mv := .slice p2 p.M.length n2, E := m.E, cnt := m.cnt, nxt := m.nxt, ov := ov2 } p from ⟨F3.out.rd, by have h := (HK.out.next B3.out).d; rw [HE.out.1] at h; exact h, by have h := (HK.out.next B3.out).mm; rw [HE.out.2] at h; exact h, reads_of_owns O3.out⟩)
    have X := Lib.hid (Mem.start w3)
    have CS := Lib.hid (fun w (h : Below w3.heap.size w3 w) => same_m _ m p w (Q3.out.next h) (HK.out.next (below_then B3.out h)) ⟨rfl, rfl, rfl, rfl, rfl⟩)
    have LA := Lib.hid (fun w (h : Below w3.heap.size w3 w) => (K3.out.next h).load)
    have LR := Lib.hid (fun w (h : Below w3.heap.size w3 w) => (R3.out.next h).load)
    generalize bits .and .u64 v 255 = want
    clear m_s m_v
    go_wp2_with (first | ((with_reducible show wpList _ _ _ (⟨some 97, Op.load 42 _, _, _, _, _⟩ :: _) _ _); refine wpList_load_wanted (by kernel_rfl) rfl (LA.out _ X.out.below) rfl ?_; simp only [Act.put, List.setIfInBounds_toArray, List.set_cons_zero, List.set_cons_succ]) | ((with_reducible show wpList _ _ _ (⟨some 98, Op.load 42 _, _, _, _, _⟩ :: _) _ _); refine wpList_load_wanted (by kernel_rfl) rfl (LR.out _ X.out.below) rfl ?_; simp only [Act.put, List.setIfInBounds_toArray, List.set_cons_zero, List.set_cons_succ]) | (go_at_call 10; (with_reducible refine (CS.out _ X.out.below).mono ?_); rintro e wq ⟨rfl, kk⟩; have X := Lib.hid (X.out.next kk); clear kk) | fail)
    go_ret
    exact ⟨rfl, below_then B3.out X.out.below⟩
  · go_enter Try.func4, Try.ntmps4
    go_upto_region 1 with (fail)
    have X := Lib.hid (Mem.mcLk (W := W) (mcC m) (lkC t 2 v rd))
    generalize (W.alloc (Obj.cells (mcC m) 42)).alloc (Obj.cells (lkC t 2 v rd) 52) = wa at X ⊢
    go_upto_region 4 with (first | (go_at_call 7; (with_reducible refine (C0.out _).mono ?_); rintro e wb ⟨rfl, kk⟩; have X := Lib.hid (X.out.next kk); clear kk) | (with_reducible refine wpList_load_by rfl rfl (MBox.load X.out.m1) rfl ?_) | (go_at_call 12; (with_reducible refine (C1.out _ X.out.below).mono ?_); rintro e wn ⟨q, c, dv, mv, ov, rfl, h1, h2, h3, h4, kk⟩; have CA := Lib.hid (CP.base (CP.mk h1 h2 h3 h4) X.out.below.size); have X := Lib.hid (X.out.next kk); clear kk h1 h2 h3 h4) | (with_reducible refine wpList_store_by rfl rfl (MBox.store (atM m p.F.length q c dv mv ov) CA.out.one X.out.newM.g0 (by kernel_rfl)) rfl rfl ?_) | fail)
    have CA := Lib.hid ((CA.out.next (below1 wn mcZO)).over X.out.newM.g0 (mcC (atM m p.F.length q c dv mv ov)))
    have X := Lib.hid (X.out.newM.p0 (cs' := mcC (atM m p.F.length q c dv mv ov)) rfl)
    generalize wn.heap.size = z at X CA ⊢
    generalize (wn.alloc mcZO).setRow z (mcC (atM m p.F.length q c dv mv ov)) = wc at X CA ⊢
    have T := Lib.hid (one_mk X.out CA.out)
    clear X CA C0 C1
    have m_t : wc.cell? ⟨W.heap.size + 1, 0, none⟩ = some (.int .u64 t) := cell_of_row _ _ 0 _ 52 (0, 0) T.out.l
    have m_s : wc.cell? ⟨W.heap.size + 1, 1, none⟩ = some (.int .i64 2) := cell_of_row _ _ 1 _ 52 (0, 0) T.out.l
    have m_v : wc.cell? ⟨W.heap.size + 1, 2, none⟩ = some (.int .u64 v) := cell_of_row _ _ 2 _ 52 (0, 0) T.out.l
    have C5 := Lib.hid (fun w (h : One W w m p t 2 v rd z q c dv mv ov) => st_any z W.heap.size (atM m p.F.length q c dv mv ov) p t 2 v w h.a h.below.size (HP.out.at' _ _ _ _ _ _) HL.out.1 HL.out.2.1 HL.out.2.2)
    have hst := stM_put (atM m p.F.length q c dv mv ov) p t 2 v HST.out.1 HST.out.2
    rw [HDM.out.1, show (atM m p.F.length q c dv mv ov).E = m.E from rfl, HDM.out.2] at hst
    simp only [hst] at C5
    clear hst
    generalize ldV p.D t 2 = nl at C6
    have hv := HL.out.2.2
    have C15 := C5
    go_upto_region 11 with (first | ((with_reducible show wpList _ _ _ (⟨some 48, Op.load 39 _, _, _, _, _⟩ :: _) _ _); refine wpList_load_wanted (by kernel_rfl) rfl (MBox.load_ram T.out.r) rfl ?_; simp only [Act.put, List.setIfInBounds_toArray, List.set_cons_zero, List.set_cons_succ]) | (go_at_call 16; (with_reducible refine (C6.out _ T.out.below).mono ?_); rintro e wd ⟨rfl, kk⟩; have T := Lib.hid (T.out.next kk); clear kk m_t m_s m_v; have m_t := T.out.m_t; have m_s := T.out.m_s; have m_v := T.out.m_v) | (go_at_call 15; (with_reducible refine (C5.out _ T.out).mono ?_); rintro e w1 ⟨rfl, q1, c1, dv1, mv1, ov1, M1, T1, O1⟩) | fail)
    have B1 := Lib.hid (Touch.below T.out.below T1 (fun k hk => (T.out.a.lt hk).1) T.out.below.size)
    have R1 := Lib.hid (show MBox w1 W.heap.size m from (T1.block W.heap.size T.out.r.lt T.out.nr).trans T.out.r)
    have L1 := Lib.hid (show w1.heap[W.heap.size + 1]? = some (.cells (lkC t 2 v rd) 52 (0, 0)) from (T1.block _ (Array.getElem?_eq_some_iff.1 T.out.l).1 T.out.nl).trans T.out.l)
    have hlr := Array.getElem?_eq_some_iff.1 T.out.l
    have N1 := Lib.hid (And.intro (fun h => (O1 _ h).elim T.out.nr (fun k => absurd T.out.r.lt (Nat.not_lt.2 k))) (fun h => (O1 _ h).elim T.out.nl (fun k => absurd hlr.1 (Nat.not_lt.2 k))))
    have C7 := ld_any z W.heap.size _ ⟨p.F, D', M', p.O⟩ t 2 w1 M1 B1.out.size (HP2.out.at' p.F.length q1 c1 dv1 mv1 ov1) HL.out.2.1.1 HL.out.2.1.2
    rw [ldM_mem _ _ _ _ HLD.out.1, HLD.out.2, want_2 v hv] at C7
    have C7 := Lib.hid C7
    have M1 := Lib.hid M1
    clear T1 O1 C5 C15 C6 hlr m_t m_s m_v
    have m_t : w1.cell? ⟨W.heap.size + 1, 0, none⟩ = some (.int .u64 t) := cell_of_row _ _ 0 _ 52 (0, 0) L1.out
    have m_s : w1.cell? ⟨W.heap.size + 1, 1, none⟩ = some (.int .i64 2) := cell_of_row _ _ 1 _ 52 (0, 0) L1.out
    have m_v : w1.cell? ⟨W.heap.size + 1, 2, none⟩ = some (.int .u64 v) := cell_of_row _ _ 2 _ 52 (0, 0) L1.out
    go_upto_region 12 with (first | (go_at_call 17; (with_reducible refine C7.out.mono ?_); rintro e w2 ⟨rfl, q2, c2, dv2, mv2, ov2, M2, T2, O2⟩) | fail)
    have B2 := Lib.hid (Touch.below B1.out T2 (fun k hk => (M1.out.lt hk).1) B1.out.size)
    have R2 := Lib.hid (show MBox w2 W.heap.size m from (T2.block W.heap.size R1.out.lt N1.out.1).trans R1.out)
    have L2 := Lib.hid (show w2.heap[W.heap.size + 1]? = some (.cells (lkC t 2 v rd) 52 (0, 0)) from (T2.block _ (Array.getElem?_eq_some_iff.1 L1.out).1 N1.out.2).trans L1.out)
    have M2 := Lib.hid M2
    clear T2 O2 C7 m_t m_s m_v
    have m_s : w2.cell? ⟨W.heap.size + 1, 1, none⟩ = some (.int .i64 2) := cell_of_row _ _ 1 _ 52 (0, 0) L2.out
    have m_v : w2.cell? ⟨W.heap.size + 1, 2, none⟩ = some (.int .u64 v) := cell_of_row _ _ 2 _ 52 (0, 0) L2.out
    go_upto_region 15 with (fail)
    have LRAM := Lib.hid (show (Instr.loadAt 39 (.pointer (some ⟨W.heap.size, 73, none⟩))).run Try.prog w2 = .ok (.agg #[.slice p1 p.D.length n1, .slice p2 p.M.length n2, .int .u64 m.E]) w2 by rw [← HE.out.1, ← HE.out.2]; exact R2.out.load_ram)
    go_upto_region 16 with (first | (with_reducible refine wpList_load_by rfl rfl LRAM.out rfl ?_) | (with_reducible refine wpList_store_by rfl rfl (MBox.store_ram M2.out.box p1 p2 p.D.length n1 p.M.length n2 m.E) rfl rfl ?_) | fail)
    have B3 := Lib.hid (below_setRow B2.out M2.out.big (mcC { h := m.h, b := ((m.b.at q p.F.length c).at q1 p.F.length c1).at q2 p.F.length c2, dv := .slice p1 p.D.length n1, mv := .slice p2 p.M.length n2, E := m.E, cnt := m.cnt, nxt := m.nxt, ov := ov2 }))
    have K3 := Lib.hid (M2.out.box.put (m' := { h := m.h, b := ((m.b.at q p.F.length c).at q1 p.F.length c1).at q2 p.F.length c2, dv := .slice p1 p.D.length n1, mv := .slice p2 p.M.length n2, E := m.E, cnt := m.cnt, nxt := m.nxt, ov := ov2 }) rfl)
    have R3 := Lib.hid (R2.out.over (h := z) (fun e => T.out.nr (.inl e)) (mcC { h := m.h, b := ((m.b.at q p.F.length c).at q1 p.F.length c1).at q2 p.F.length c2, dv := .slice p1 p.D.length n1, mv := .slice p2 p.M.length n2, E := m.E, cnt := m.cnt, nxt := m.nxt, ov := ov2 }))
    have F3 := Lib.hid (M2.out.fr.over M2.out.box (by decide) (mcC { h := m.h, b := ((m.b.at q p.F.length c).at q1 p.F.length c1).at q2 p.F.length c2, dv := .slice p1 p.D.length n1, mv := .slice p2 p.M.length n2, E := m.E, cnt := m.cnt, nxt := m.nxt, ov := ov2 }))
    have O3 := Lib.hid (owns_over M2.out.o M2.out.box (by decide) (mcC { h := m.h, b := ((m.b.at q p.F.length c).at q1 p.F.length c1).at q2 p.F.length c2, dv := .slice p1 p.D.length n1, mv := .slice p2 p.M.length n2, E := m.E, cnt := m.cnt, nxt := m.nxt, ov := ov2 }))
    generalize w2.setRow z (mcC { h := m.h, b := ((m.b.at q p.F.length c).at q1 p.F.length c1).at q2 p.F.length c2, dv := .slice p1 p.D.length n1, mv := .slice p2 p.M.length n2, E := m.E, cnt := m.cnt, nxt := m.nxt, ov := ov2 }) = w3 at B3 K3 R3 F3 O3 ⊢
    have Q3 := Lib.hid (show MR w3 { h := m.h, b := ((m.b.at q p.F.length c).at q1 p.F.length c1).at q2 p.F.length c2, dv := .slice p1 p.D.length n1, mv := .slice p2 p.M.length n2, E := m.E, cnt := m.cnt, nxt := m.nxt, ov := ov2 } p from ⟨F3.out.rd, by have h := (HK.out.next B3.out).d; rw [HE.out.1] at h; exact h, by have h := (HK.out.next B3.out).mm; rw [HE.out.2] at h; exact h, reads_of_owns O3.out⟩)
    have X := Lib.hid (Mem.start w3)
    have CS := Lib.hid (fun w (h : Below w3.heap.size w3 w) => same_m _ m p w (Q3.out.next h) (HK.out.next (below_then B3.out h)) ⟨rfl, rfl, rfl, rfl, rfl⟩)
    have LA := Lib.hid (fun w (h : Below w3.heap.size w3 w) => (K3.out.next h).load)
    have LR := Lib.hid (fun w (h : Below w3.heap.size w3 w) => (R3.out.next h).load)
    generalize bits .and .u64 v 65535 = want
    clear m_s m_v
    go_wp2_with (first | ((with_reducible show wpList _ _ _ (⟨some 97, Op.load 42 _, _, _, _, _⟩ :: _) _ _); refine wpList_load_wanted (by kernel_rfl) rfl (LA.out _ X.out.below) rfl ?_; simp only [Act.put, List.setIfInBounds_toArray, List.set_cons_zero, List.set_cons_succ]) | ((with_reducible show wpList _ _ _ (⟨some 98, Op.load 42 _, _, _, _, _⟩ :: _) _ _); refine wpList_load_wanted (by kernel_rfl) rfl (LR.out _ X.out.below) rfl ?_; simp only [Act.put, List.setIfInBounds_toArray, List.set_cons_zero, List.set_cons_succ]) | (go_at_call 10; (with_reducible refine (CS.out _ X.out.below).mono ?_); rintro e wq ⟨rfl, kk⟩; have X := Lib.hid (X.out.next kk); clear kk) | fail)
    go_ret
    exact ⟨rfl, below_then B3.out X.out.below⟩
  · go_enter Try.func4, Try.ntmps4
    go_upto_region 1 with (fail)
    have X := Lib.hid (Mem.mcLk (W := W) (mcC m) (lkC t 4 v rd))
    generalize (W.alloc (Obj.cells (mcC m) 42)).alloc (Obj.cells (lkC t 4 v rd) 52) = wa at X ⊢
    go_upto_region 4 with (first | (go_at_call 7; (with_reducible refine (C0.out _).mono ?_); rintro e wb ⟨rfl, kk⟩; have X := Lib.hid (X.out.next kk); clear kk) | (with_reducible refine wpList_load_by rfl rfl (MBox.load X.out.m1) rfl ?_) | (go_at_call 12; (with_reducible refine (C1.out _ X.out.below).mono ?_); rintro e wn ⟨q, c, dv, mv, ov, rfl, h1, h2, h3, h4, kk⟩; have CA := Lib.hid (CP.base (CP.mk h1 h2 h3 h4) X.out.below.size); have X := Lib.hid (X.out.next kk); clear kk h1 h2 h3 h4) | (with_reducible refine wpList_store_by rfl rfl (MBox.store (atM m p.F.length q c dv mv ov) CA.out.one X.out.newM.g0 (by kernel_rfl)) rfl rfl ?_) | fail)
    have CA := Lib.hid ((CA.out.next (below1 wn mcZO)).over X.out.newM.g0 (mcC (atM m p.F.length q c dv mv ov)))
    have X := Lib.hid (X.out.newM.p0 (cs' := mcC (atM m p.F.length q c dv mv ov)) rfl)
    generalize wn.heap.size = z at X CA ⊢
    generalize (wn.alloc mcZO).setRow z (mcC (atM m p.F.length q c dv mv ov)) = wc at X CA ⊢
    have T := Lib.hid (one_mk X.out CA.out)
    clear X CA C0 C1
    have m_t : wc.cell? ⟨W.heap.size + 1, 0, none⟩ = some (.int .u64 t) := cell_of_row _ _ 0 _ 52 (0, 0) T.out.l
    have m_s : wc.cell? ⟨W.heap.size + 1, 1, none⟩ = some (.int .i64 4) := cell_of_row _ _ 1 _ 52 (0, 0) T.out.l
    have m_v : wc.cell? ⟨W.heap.size + 1, 2, none⟩ = some (.int .u64 v) := cell_of_row _ _ 2 _ 52 (0, 0) T.out.l
    have C5 := Lib.hid (fun w (h : One W w m p t 4 v rd z q c dv mv ov) => st_any z W.heap.size (atM m p.F.length q c dv mv ov) p t 4 v w h.a h.below.size (HP.out.at' _ _ _ _ _ _) HL.out.1 HL.out.2.1 HL.out.2.2)
    have hst := stM_put (atM m p.F.length q c dv mv ov) p t 4 v HST.out.1 HST.out.2
    rw [HDM.out.1, show (atM m p.F.length q c dv mv ov).E = m.E from rfl, HDM.out.2] at hst
    simp only [hst] at C5
    clear hst
    generalize ldV p.D t 4 = nl at C6
    have hv := HL.out.2.2
    have C15 := C5
    go_upto_region 11 with (first | ((with_reducible show wpList _ _ _ (⟨some 48, Op.load 39 _, _, _, _, _⟩ :: _) _ _); refine wpList_load_wanted (by kernel_rfl) rfl (MBox.load_ram T.out.r) rfl ?_; simp only [Act.put, List.setIfInBounds_toArray, List.set_cons_zero, List.set_cons_succ]) | (go_at_call 16; (with_reducible refine (C6.out _ T.out.below).mono ?_); rintro e wd ⟨rfl, kk⟩; have T := Lib.hid (T.out.next kk); clear kk m_t m_s m_v; have m_t := T.out.m_t; have m_s := T.out.m_s; have m_v := T.out.m_v) | (go_at_call 15; (with_reducible refine (C5.out _ T.out).mono ?_); rintro e w1 ⟨rfl, q1, c1, dv1, mv1, ov1, M1, T1, O1⟩) | fail)
    have B1 := Lib.hid (Touch.below T.out.below T1 (fun k hk => (T.out.a.lt hk).1) T.out.below.size)
    have R1 := Lib.hid (show MBox w1 W.heap.size m from (T1.block W.heap.size T.out.r.lt T.out.nr).trans T.out.r)
    have L1 := Lib.hid (show w1.heap[W.heap.size + 1]? = some (.cells (lkC t 4 v rd) 52 (0, 0)) from (T1.block _ (Array.getElem?_eq_some_iff.1 T.out.l).1 T.out.nl).trans T.out.l)
    have hlr := Array.getElem?_eq_some_iff.1 T.out.l
    have N1 := Lib.hid (And.intro (fun h => (O1 _ h).elim T.out.nr (fun k => absurd T.out.r.lt (Nat.not_lt.2 k))) (fun h => (O1 _ h).elim T.out.nl (fun k => absurd hlr.1 (Nat.not_lt.2 k))))
    have C7 := ld_any z W.heap.size _ ⟨p.F, D', M', p.O⟩ t 4 w1 M1 B1.out.size (HP2.out.at' p.F.length q1 c1 dv1 mv1 ov1) HL.out.2.1.1 HL.out.2.1.2
    rw [ldM_mem _ _ _ _ HLD.out.1, HLD.out.2, want_4 v hv] at C7
    have C7 := Lib.hid C7
    have M1 := Lib.hid M1
    clear T1 O1 C5 C15 C6 hlr m_t m_s m_v
    have m_t : w1.cell? ⟨W.heap.size + 1, 0, none⟩ = some (.int .u64 t) := cell_of_row _ _ 0 _ 52 (0, 0) L1.out
    have m_s : w1.cell? ⟨W.heap.size + 1, 1, none⟩ = some (.int .i64 4) := cell_of_row _ _ 1 _ 52 (0, 0) L1.out
    have m_v : w1.cell? ⟨W.heap.size + 1, 2, none⟩ = some (.int .u64 v) := cell_of_row _ _ 2 _ 52 (0, 0) L1.out
    go_upto_region 12 with (first | (go_at_call 17; (with_reducible refine C7.out.mono ?_); rintro e w2 ⟨rfl, q2, c2, dv2, mv2, ov2, M2, T2, O2⟩) | fail)
    have B2 := Lib.hid (Touch.below B1.out T2 (fun k hk => (M1.out.lt hk).1) B1.out.size)
    have R2 := Lib.hid (show MBox w2 W.heap.size m from (T2.block W.heap.size R1.out.lt N1.out.1).trans R1.out)
    have L2 := Lib.hid (show w2.heap[W.heap.size + 1]? = some (.cells (lkC t 4 v rd) 52 (0, 0)) from (T2.block _ (Array.getElem?_eq_some_iff.1 L1.out).1 N1.out.2).trans L1.out)
    have M2 := Lib.hid M2
    clear T2 O2 C7 m_t m_s m_v
    have m_s : w2.cell? ⟨W.heap.size + 1, 1, none⟩ = some (.int .i64 4) := cell_of_row _ _ 1 _ 52 (0, 0) L2.out
    have m_v : w2.cell? ⟨W.heap.size + 1, 2, none⟩ = some (.int .u64 v) := cell_of_row _ _ 2 _ 52 (0, 0) L2.out
    go_upto_region 15 with (fail)
    have LRAM := Lib.hid (show (Instr.loadAt 39 (.pointer (some ⟨W.heap.size, 73, none⟩))).run Try.prog w2 = .ok (.agg #[.slice p1 p.D.length n1, .slice p2 p.M.length n2, .int .u64 m.E]) w2 by rw [← HE.out.1, ← HE.out.2]; exact R2.out.load_ram)
    go_upto_region 16 with (first | (with_reducible refine wpList_load_by rfl rfl LRAM.out rfl ?_) | (with_reducible refine wpList_store_by rfl rfl (MBox.store_ram M2.out.box p1 p2 p.D.length n1 p.M.length n2 m.E) rfl rfl ?_) | fail)
    have B3 := Lib.hid (below_setRow B2.out M2.out.big (mcC { h := m.h, b := ((m.b.at q p.F.length c).at q1 p.F.length c1).at q2 p.F.length c2, dv := .slice p1 p.D.length n1, mv := .slice p2 p.M.length n2, E := m.E, cnt := m.cnt, nxt := m.nxt, ov := ov2 }))
    have K3 := Lib.hid (M2.out.box.put (m' := { h := m.h, b := ((m.b.at q p.F.length c).at q1 p.F.length c1).at q2 p.F.length c2, dv := .slice p1 p.D.length n1, mv := .slice p2 p.M.length n2, E := m.E, cnt := m.cnt, nxt := m.nxt, ov := ov2 }) rfl)
    have R3 := Lib.hid (R2.out.over (h := z) (fun e => T.out.nr (.inl e)) (mcC { h := m.h, b := ((m.b.at q p.F.length c).at q1 p.F.length c1).at q2 p.F.length c2, dv := .slice p1 p.D.length n1, mv := .slice p2 p.M.length n2, E := m.E, cnt := m.cnt, nxt := m.nxt, ov := ov2 }))
    have F3 := Lib.hid (M2.out.fr.over M2.out.box (by decide) (mcC { h := m.h, b := ((m.b.at q p.F.length c).at q1 p.F.length c1).at q2 p.F.length c2, dv := .slice p1 p.D.length n1, mv := .slice p2 p.M.length n2, E := m.E, cnt := m.cnt, nxt := m.nxt, ov := ov2 }))
    have O3 := Lib.hid (owns_over M2.out.o M2.out.box (by decide) (mcC { h := m.h, b := ((m.b.at q p.F.length c).at q1 p.F.length c1).at q2 p.F.length c2, dv := .slice p1 p.D.length n1, mv := .slice p2 p.M.length n2, E := m.E, cnt := m.cnt, nxt := m.nxt, ov := ov2 }))
    generalize w2.setRow z (mcC { h := m.h, b := ((m.b.at q p.F.length c).at q1 p.F.length c1).at q2 p.F.length c2, dv := .slice p1 p.D.length n1, mv := .slice p2 p.M.length n2, E := m.E, cnt := m.cnt, nxt := m.nxt, ov := ov2 }) = w3 at B3 K3 R3 F3 O3 ⊢
    have Q3 := Lib.hid (show MR w3 { h := m.h, b := ((m.b.at q p.F.length c).at q1 p.F.length c1).at q2 p.F.length c2, dv := .slice p1 p.D.length n1, mv := .slice p2 p.M.length n2, E := m.E, cnt := m.cnt, nxt := m.nxt, ov := ov2 } p from ⟨F3.out.rd, by have h := (HK.out.next B3.out).d; rw [HE.out.1] at h; exact h, by have h := (HK.out.next B3.out).mm; rw [HE.out.2] at h; exact h, reads_of_owns O3.out⟩)
    have X := Lib.hid (Mem.start w3)
    have CS := Lib.hid (fun w (h : Below w3.heap.size w3 w) => same_m _ m p w (Q3.out.next h) (HK.out.next (below_then B3.out h)) ⟨rfl, rfl, rfl, rfl, rfl⟩)
    have LA := Lib.hid (fun w (h : Below w3.heap.size w3 w) => (K3.out.next h).load)
    have LR := Lib.hid (fun w (h : Below w3.heap.size w3 w) => (R3.out.next h).load)
    generalize bits .and .u64 v 4294967295 = want
    clear m_s m_v
    go_wp2_with (first | ((with_reducible show wpList _ _ _ (⟨some 97, Op.load 42 _, _, _, _, _⟩ :: _) _ _); refine wpList_load_wanted (by kernel_rfl) rfl (LA.out _ X.out.below) rfl ?_; simp only [Act.put, List.setIfInBounds_toArray, List.set_cons_zero, List.set_cons_succ]) | ((with_reducible show wpList _ _ _ (⟨some 98, Op.load 42 _, _, _, _, _⟩ :: _) _ _); refine wpList_load_wanted (by kernel_rfl) rfl (LR.out _ X.out.below) rfl ?_; simp only [Act.put, List.setIfInBounds_toArray, List.set_cons_zero, List.set_cons_succ]) | (go_at_call 10; (with_reducible refine (CS.out _ X.out.below).mono ?_); rintro e wq ⟨rfl, kk⟩; have X := Lib.hid (X.out.next kk); clear kk) | fail)
    go_ret
    exact ⟨rfl, below_then B3.out X.out.below⟩
  · go_enter Try.func4, Try.ntmps4
    go_upto_region 1 with (fail)
    have X := Lib.hid (Mem.mcLk (W := W) (mcC m) (lkC t 8 v rd))
    generalize (W.alloc (Obj.cells (mcC m) 42)).alloc (Obj.cells (lkC t 8 v rd) 52) = wa at X ⊢
    go_upto_region 4 with (first | (go_at_call 7; (with_reducible refine (C0.out _).mono ?_); rintro e wb ⟨rfl, kk⟩; have X := Lib.hid (X.out.next kk); clear kk) | (with_reducible refine wpList_load_by rfl rfl (MBox.load X.out.m1) rfl ?_) | (go_at_call 12; (with_reducible refine (C1.out _ X.out.below).mono ?_); rintro e wn ⟨q, c, dv, mv, ov, rfl, h1, h2, h3, h4, kk⟩; have CA := Lib.hid (CP.base (CP.mk h1 h2 h3 h4) X.out.below.size); have X := Lib.hid (X.out.next kk); clear kk h1 h2 h3 h4) | (with_reducible refine wpList_store_by rfl rfl (MBox.store (atM m p.F.length q c dv mv ov) CA.out.one X.out.newM.g0 (by kernel_rfl)) rfl rfl ?_) | fail)
    have CA := Lib.hid ((CA.out.next (below1 wn mcZO)).over X.out.newM.g0 (mcC (atM m p.F.length q c dv mv ov)))
    have X := Lib.hid (X.out.newM.p0 (cs' := mcC (atM m p.F.length q c dv mv ov)) rfl)
    generalize wn.heap.size = z at X CA ⊢
    generalize (wn.alloc mcZO).setRow z (mcC (atM m p.F.length q c dv mv ov)) = wc at X CA ⊢
    have T := Lib.hid (one_mk X.out CA.out)
    clear X CA C0 C1
    have m_t : wc.cell? ⟨W.heap.size + 1, 0, none⟩ = some (.int .u64 t) := cell_of_row _ _ 0 _ 52 (0, 0) T.out.l
    have m_s : wc.cell? ⟨W.heap.size + 1, 1, none⟩ = some (.int .i64 8) := cell_of_row _ _ 1 _ 52 (0, 0) T.out.l
    have m_v : wc.cell? ⟨W.heap.size + 1, 2, none⟩ = some (.int .u64 v) := cell_of_row _ _ 2 _ 52 (0, 0) T.out.l
    have C5 := Lib.hid (fun w (h : One W w m p t 8 v rd z q c dv mv ov) => st_any z W.heap.size (atM m p.F.length q c dv mv ov) p t 8 v w h.a h.below.size (HP.out.at' _ _ _ _ _ _) HL.out.1 HL.out.2.1 HL.out.2.2)
    have hst := stM_put (atM m p.F.length q c dv mv ov) p t 8 v HST.out.1 HST.out.2
    rw [HDM.out.1, show (atM m p.F.length q c dv mv ov).E = m.E from rfl, HDM.out.2] at hst
    simp only [hst] at C5
    clear hst
    generalize ldV p.D t 8 = nl at C6
    have hv := HL.out.2.2
    have C15 := C5
    go_upto_region 11 with (first | ((with_reducible show wpList _ _ _ (⟨some 48, Op.load 39 _, _, _, _, _⟩ :: _) _ _); refine wpList_load_wanted (by kernel_rfl) rfl (MBox.load_ram T.out.r) rfl ?_; simp only [Act.put, List.setIfInBounds_toArray, List.set_cons_zero, List.set_cons_succ]) | (go_at_call 16; (with_reducible refine (C6.out _ T.out.below).mono ?_); rintro e wd ⟨rfl, kk⟩; have T := Lib.hid (T.out.next kk); clear kk m_t m_s m_v; have m_t := T.out.m_t; have m_s := T.out.m_s; have m_v := T.out.m_v) | (go_at_call 15; (with_reducible refine (C5.out _ T.out).mono ?_); rintro e w1 ⟨rfl, q1, c1, dv1, mv1, ov1, M1, T1, O1⟩) | fail)
    have B1 := Lib.hid (Touch.below T.out.below T1 (fun k hk => (T.out.a.lt hk).1) T.out.below.size)
    have R1 := Lib.hid (show MBox w1 W.heap.size m from (T1.block W.heap.size T.out.r.lt T.out.nr).trans T.out.r)
    have L1 := Lib.hid (show w1.heap[W.heap.size + 1]? = some (.cells (lkC t 8 v rd) 52 (0, 0)) from (T1.block _ (Array.getElem?_eq_some_iff.1 T.out.l).1 T.out.nl).trans T.out.l)
    have hlr := Array.getElem?_eq_some_iff.1 T.out.l
    have N1 := Lib.hid (And.intro (fun h => (O1 _ h).elim T.out.nr (fun k => absurd T.out.r.lt (Nat.not_lt.2 k))) (fun h => (O1 _ h).elim T.out.nl (fun k => absurd hlr.1 (Nat.not_lt.2 k))))
    have C7 := ld_any z W.heap.size _ ⟨p.F, D', M', p.O⟩ t 8 w1 M1 B1.out.size (HP2.out.at' p.F.length q1 c1 dv1 mv1 ov1) HL.out.2.1.1 HL.out.2.1.2
    rw [ldM_mem _ _ _ _ HLD.out.1, HLD.out.2, want_8 v hv] at C7
    have C7 := Lib.hid C7
    have M1 := Lib.hid M1
    clear T1 O1 C5 C15 C6 hlr m_t m_s m_v
    have m_t : w1.cell? ⟨W.heap.size + 1, 0, none⟩ = some (.int .u64 t) := cell_of_row _ _ 0 _ 52 (0, 0) L1.out
    have m_s : w1.cell? ⟨W.heap.size + 1, 1, none⟩ = some (.int .i64 8) := cell_of_row _ _ 1 _ 52 (0, 0) L1.out
    have m_v : w1.cell? ⟨W.heap.size + 1, 2, none⟩ = some (.int .u64 v) := cell_of_row _ _ 2 _ 52 (0, 0) L1.out
    go_upto_region 12 with (first | (go_at_call 17; (with_reducible refine C7.out.mono ?_); rintro e w2 ⟨rfl, q2, c2, dv2, mv2, ov2, M2, T2, O2⟩) | fail)
    have B2 := Lib.hid (Touch.below B1.out T2 (fun k hk => (M1.out.lt hk).1) B1.out.size)
    have R2 := Lib.hid (show MBox w2 W.heap.size m from (T2.block W.heap.size R1.out.lt N1.out.1).trans R1.out)
    have L2 := Lib.hid (show w2.heap[W.heap.size + 1]? = some (.cells (lkC t 8 v rd) 52 (0, 0)) from (T2.block _ (Array.getElem?_eq_some_iff.1 L1.out).1 N1.out.2).trans L1.out)
    have M2 := Lib.hid M2
    clear T2 O2 C7 m_t m_s m_v
    have m_s : w2.cell? ⟨W.heap.size + 1, 1, none⟩ = some (.int .i64 8) := cell_of_row _ _ 1 _ 52 (0, 0) L2.out
    have m_v : w2.cell? ⟨W.heap.size + 1, 2, none⟩ = some (.int .u64 v) := cell_of_row _ _ 2 _ 52 (0, 0) L2.out
    go_upto_region 15 with (fail)
    have LRAM := Lib.hid (show (Instr.loadAt 39 (.pointer (some ⟨W.heap.size, 73, none⟩))).run Try.prog w2 = .ok (.agg #[.slice p1 p.D.length n1, .slice p2 p.M.length n2, .int .u64 m.E]) w2 by rw [← HE.out.1, ← HE.out.2]; exact R2.out.load_ram)
    go_upto_region 16 with (first | (with_reducible refine wpList_load_by rfl rfl LRAM.out rfl ?_) | (with_reducible refine wpList_store_by rfl rfl (MBox.store_ram M2.out.box p1 p2 p.D.length n1 p.M.length n2 m.E) rfl rfl ?_) | fail)
    have B3 := Lib.hid (below_setRow B2.out M2.out.big (mcC { h := m.h, b := ((m.b.at q p.F.length c).at q1 p.F.length c1).at q2 p.F.length c2, dv := .slice p1 p.D.length n1, mv := .slice p2 p.M.length n2, E := m.E, cnt := m.cnt, nxt := m.nxt, ov := ov2 }))
    have K3 := Lib.hid (M2.out.box.put (m' := { h := m.h, b := ((m.b.at q p.F.length c).at q1 p.F.length c1).at q2 p.F.length c2, dv := .slice p1 p.D.length n1, mv := .slice p2 p.M.length n2, E := m.E, cnt := m.cnt, nxt := m.nxt, ov := ov2 }) rfl)
    have R3 := Lib.hid (R2.out.over (h := z) (fun e => T.out.nr (.inl e)) (mcC { h := m.h, b := ((m.b.at q p.F.length c).at q1 p.F.length c1).at q2 p.F.length c2, dv := .slice p1 p.D.length n1, mv := .slice p2 p.M.length n2, E := m.E, cnt := m.cnt, nxt := m.nxt, ov := ov2 }))
    have F3 := Lib.hid (M2.out.fr.over M2.out.box (by decide) (mcC { h := m.h, b := ((m.b.at q p.F.length c).at q1 p.F.length c1).at q2 p.F.length c2, dv := .slice p1 p.D.length n1, mv := .slice p2 p.M.length n2, E := m.E, cnt := m.cnt, nxt := m.nxt, ov := ov2 }))
    have O3 := Lib.hid (owns_over M2.out.o M2.out.box (by decide) (mcC { h := m.h, b := ((m.b.at q p.F.length c).at q1 p.F.length c1).at q2 p.F.length c2, dv := .slice p1 p.D.length n1, mv := .slice p2 p.M.length n2, E := m.E, cnt := m.cnt, nxt := m.nxt, ov := ov2 }))
    generalize w2.setRow z (mcC { h := m.h, b := ((m.b.at q p.F.length c).at q1 p.F.length c1).at q2 p.F.length c2, dv := .slice p1 p.D.length n1, mv := .slice p2 p.M.length n2, E := m.E, cnt := m.cnt, nxt := m.nxt, ov := ov2 }) = w3 at B3 K3 R3 F3 O3 ⊢
    have Q3 := Lib.hid (show MR w3 { h := m.h, b := ((m.b.at q p.F.length c).at q1 p.F.length c1).at q2 p.F.length c2, dv := .slice p1 p.D.length n1, mv := .slice p2 p.M.length n2, E := m.E, cnt := m.cnt, nxt := m.nxt, ov := ov2 } p from ⟨F3.out.rd, by have h := (HK.out.next B3.out).d; rw [HE.out.1] at h; exact h, by have h := (HK.out.next B3.out).mm; rw [HE.out.2] at h; exact h, reads_of_owns O3.out⟩)
    have X := Lib.hid (Mem.start w3)
    have CS := Lib.hid (fun w (h : Below w3.heap.size w3 w) => same_m _ m p w (Q3.out.next h) (HK.out.next (below_then B3.out h)) ⟨rfl, rfl, rfl, rfl, rfl⟩)
    have LA := Lib.hid (fun w (h : Below w3.heap.size w3 w) => (K3.out.next h).load)
    have LR := Lib.hid (fun w (h : Below w3.heap.size w3 w) => (R3.out.next h).load)
    generalize v = want
    clear m_s m_v
    go_wp2_with (first | ((with_reducible show wpList _ _ _ (⟨some 97, Op.load 42 _, _, _, _, _⟩ :: _) _ _); refine wpList_load_wanted (by kernel_rfl) rfl (LA.out _ X.out.below) rfl ?_; simp only [Act.put, List.setIfInBounds_toArray, List.set_cons_zero, List.set_cons_succ]) | ((with_reducible show wpList _ _ _ (⟨some 98, Op.load 42 _, _, _, _, _⟩ :: _) _ _); refine wpList_load_wanted (by kernel_rfl) rfl (LR.out _ X.out.below) rfl ?_; simp only [Act.put, List.setIfInBounds_toArray, List.set_cons_zero, List.set_cons_succ]) | (go_at_call 10; (with_reducible refine (CS.out _ X.out.below).mono ?_); rintro e wq ⟨rfl, kk⟩; have X := Lib.hid (X.out.next kk); clear kk) | fail)
    go_ret
    exact ⟨rfl, below_then B3.out X.out.below⟩

end Go.Proofs.Ytnedhjaphfjdmaa
