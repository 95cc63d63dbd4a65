/- ImageBack's walk. -/
import Derived.Test.YtgflnfmnjlmenaaYQJ
namespace Go.Proofs.Ytgflnfmnjlmenaa
open Go.RowKit Go.Deep Go.Joins
set_option maxRecDepth 100000
theorem calls_read {s : ByteArray} {W : World} (h : Calls Try.prog 7 #[.string s] W (ReadR s W)) : Calls Try.prog 7 #[.string s] W fun e W' => ∃ (x : Mc) (k : Int), e = .returned (.tuple #[mcV x, .int .i64 k]) ∧ Mc1 x ∧ Below W.heap.size W W' ∧
    ((k = 0 ∧ ∃ pp, okB x pp = true ∧ bytesB x pp = s ∧ NOk x ∧ ∀ w', (∀ k, W.heap.size ≤ k → k < W'.heap.size → w'.heap[k]? = W'.heap[k]?) → MR w' x pp) ∨ (k = 170 ∧ x = mcZ)) :=
  h.mono fun e W' r => by
    obtain ⟨r1, r2⟩ := r
    rcases r2 with ⟨head, data, F, hF, dv, mv, q, c, r3, r4, r5, r6, r7⟩ | ⟨_, r4⟩
    · obtain ⟨b1, b2⟩ := read_bytes r3 dv mv q c
      exact ⟨_, 0, r4, ⟨r5, r6, rfl⟩, r1, .inl ⟨rfl, _, b1, b2, join_nok F hF dv mv q c, r7⟩⟩
    · exact ⟨_, 170, r4, mcZ_one, r1, .inr ⟨rfl, rfl⟩⟩
theorem exec_neq_h {ρ : Operand → Value} {o : Oper} {x y : Operand} {t2 : TypeId} (h : Hart) (w : World) (ho : o.op = .binOp .neq 27 x y t2) (hx : ρ x = hartV h) (hy : ρ y = hartV h) : (execOp ρ o).run Try.prog w = .ok (.value (.bool false)) w := by
  unfold execOp
  simp [ho, hx, hy, Sem.run_bind, run_eqGuard_agg, run_neq_struct, eq_hart, Result.andThen]
set_option maxHeartbeats 8000000 in
theorem back_no (m : Mc) (p : Pt) (s : ByteArray) (W : World) (K : MR W m p) (N : NOk m) (hs : s.size ≤ 9223372036854775807) (h : chkM m p ≠ 0) : Calls Try.prog 3 #[mcV m, .string s] W fun e W' => e = .returned (.bool true) ∧ Below W.heap.size W W' := by
  have X := Lib.hid (MBox.new W m)
  have B := Lib.hid (below1 W (mcO m))
  have C := Lib.hid (fun w' (hb : Below W.heap.size W w') => show Calls Try.prog 6 #[mcV m] w' (fun e w => ∃ k : Int, k ≠ 0 ∧ e = .returned (.tuple #[.string ⟨#[]⟩, .int .i64 k]) ∧ Below w'.heap.size w' w) from (bytes_m m p w' (K.next hb) N).mono fun e w r => by
    unfold BytesR at r
    rw [ok_iff, decide_eq_false h] at r
    simp only [Bool.false_eq_true, if_false] at r
    obtain ⟨⟨k, h1, h2⟩, h3⟩ := r
    exact ⟨k, h1, h2, h3⟩)
  clear K N h
  go_enter Try.func3, Try.ntmps3
  go_upto_region 1 with fail
  generalize W.alloc (mcO m) = wa at X B ⊢
  go_upto_region 4 with (first | (go_at_call 5; (with_reducible refine (awake_any _).mono ?_); rintro e wb ⟨rfl, kk⟩; have X1 := Lib.hid (X.out.next kk); have B1 := Lib.hid (below_then B.out kk); clear kk) | (with_reducible refine wpList_load_by rfl rfl (MBox.load X1.out) rfl ?_) | (go_at_call 6; (with_reducible refine (C.out _ B1.out).mono ?_); rintro e wc ⟨k0, hk0, rfl, kk⟩; have B2 := Lib.hid (below_then B1.out kk); clear kk) | fail)
  have hk1 : (k0 == 0) = false := by rw [beq_eq_false_iff_ne]; exact hk0
  clear hk0 X X1 B1 B C
  go_upto_region 9 with fail
  have C7 := Lib.hid (calls_read (read_m s wc hs))
  go_upto_region 10 with (first | (go_at_call 7; (with_reducible refine C7.out.mono ?_); rintro e wr ⟨x, k, rfl, x1, kb, xr⟩; have BR := Lib.hid (below_then B2.out kb); have X1 := Lib.hid x1; have XR := Lib.hid xr; clear x1 kb xr; have ZR := Lib.hid (show (wr.alloc (.cells zc42 42)).heap[wr.heap.size]? = some (.cells zc42 42 (0, 0)) from heap_alloc_last wr _)) | (with_reducible refine wpList_store_by rfl rfl (MBox.store x X1.out ZR.out (by kernel_rfl)) rfl rfl ?_) | fail)
  have XB := Lib.hid (show MBox ((wr.alloc (.cells zc42 42)).setRow wr.heap.size (mcC x)) wr.heap.size x from setRow_heap _ _ _ _ 42 (0, 0) ZR.out)
  have BS := Lib.hid (below_setRow (below_then BR.out (below1 wr (.cells zc42 42))) BR.out.size (mcC x))
  have FS := Lib.hid (show ∀ k, k < wr.heap.size → ((wr.alloc (.cells zc42 42)).setRow wr.heap.size (mcC x)).heap[k]? = wr.heap[k]? from fun k h => (setRow_other _ _ _ _ (by omega)).trans ((below1 wr (.cells zc42 42)).block k h))
  clear ZR BR C7
  generalize wr.heap.size = z at *
  generalize (wr.alloc (.cells zc42 42)).setRow z (mcC x) = ws at XB BS FS ⊢
  rcases XR.out with ⟨rfl, pp, o1, o2, o3, o4⟩ | ⟨rfl, rfl⟩
  · have C6 := bytes_m x pp ws (o4 ws fun k _ hk => FS.out k hk) o3
    unfold BytesR at C6
    rw [o1, o2] at C6
    simp only [if_true] at C6
    have C6 := Lib.hid C6
    have hse := str_eq s
    clear o1 o2 o3 o4 XR
    go_wp2_with (first | (with_reducible refine wpList_load_by rfl rfl (MBox.load XB.out) rfl ?_) | (go_at_call 6; (with_reducible refine C6.out.mono ?_); rintro e wt ⟨rfl, kk⟩; have BT := Lib.hid (below_then BS.out kk)) | fail)
    go_ret
    exact ⟨rfl, BT.out⟩
  · have m_d : ws.cell? ⟨z, 73, none⟩ = some (.slice none 0 0) := MBox.cell_t XB.out 0
    clear XR
    go_wp2_with fail
    go_ret
    exact ⟨rfl, BS.out⟩
set_option maxHeartbeats 8000000 in
theorem back_yes (m : Mc) (p : Pt) (s : ByteArray) (W : World) (K : MR W m p) (N : NOk m) (P : PlOk m.b.pl) (hs : s.size ≤ 9223372036854775807) (h : chkM m p = 0) : Calls Try.prog 3 #[mcV m, .string s] W fun e W' => e = .returned (.bool true) ∧ Below W.heap.size W W' := by
  have X := Lib.hid (MBox.new W m)
  have B := Lib.hid (below1 W (mcO m))
  have C := Lib.hid (fun w' (hb : Below W.heap.size W w') => show Calls Try.prog 6 #[mcV m] w' (fun e w => e = .returned (.tuple #[.string (bytesB m p), .int .i64 0]) ∧ Below w'.heap.size w' w) from (bytes_m m p w' (K.next hb) N).mono fun e w r => by
    unfold BytesR at r
    rw [ok_iff, decide_eq_true h] at r
    simp only [if_true] at r
    exact r)
  obtain ⟨pd, cd, ed⟩ := Reads.is K.d
  have DM := Lib.hid (fun w' (hb : Below W.heap.size W w') => show DAt w' (.slice pd p.D.length cd) p.D from by rw [← ed]; exact (K.next hb).d)
  have ED := Lib.hid ed
  have hle : (bytesB m p).size ≤ 9223372036854775807 := by
    obtain ⟨hh, hk2⟩ := pack_unpack (back_ok N P h).1
    unfold pkOk at hk2
    simp only [Bool.and_eq_true, decide_eq_true_eq] at hk2
    rw [← hh, packB_size]
    omega
  have C7 := Lib.hid (fun w => show Calls Try.prog 7 #[.string (bytesB m p)] w (fun e W' => ∃ (x : Mc) (pp : Pt), e = .returned (.tuple #[mcV x, .int .i64 0]) ∧ Mc1 x ∧ Below w.heap.size w W' ∧ (x.h = m.h ∧ x.cnt = m.cnt ∧ x.nxt = m.nxt ∧ x.ov = .slice none 0 0 ∧ pp.D = p.D ∧ NOk x ∧ okB x pp = true ∧ bytesB x pp = bytesB m p) ∧ ∀ w', (∀ k, w.heap.size ≤ k → k < W'.heap.size → w'.heap[k]? = W'.heap[k]?) → MR w' x pp) from (read_m (bytesB m p) w hle).mono fun e W' r => by
    obtain ⟨a, dv, mv, q, c, e1, o1, o2, r1⟩ := read_back N P h r
    obtain ⟨c1, c2⟩ := join_cn (p := p) N dv mv q c
    obtain ⟨b1, b2⟩ := read_bytes (back_ok N P h) dv mv q c
    exact ⟨_, _, e1, ⟨o1, o2, rfl⟩, a, ⟨join_h N h dv mv q c, c1, c2, rfl, join_d h, join_nok _ _ _ _ _ _, b1, b2⟩, r1⟩)
  clear K N P h ed hle
  generalize bytesB m p = b at C C7
  go_enter Try.func3, Try.ntmps3
  go_upto_region 1 with fail
  generalize W.alloc (mcO m) = wa at X B ⊢
  go_upto_region 5 with (first | (go_at_call 5; (with_reducible refine (awake_any _).mono ?_); rintro e wb ⟨rfl, kk⟩; have X1 := Lib.hid (X.out.next kk); have B1 := Lib.hid (below_then B.out kk); clear kk) | (with_reducible refine wpList_load_by rfl rfl (MBox.load X1.out) rfl ?_) | (go_at_call 6; (with_reducible refine (C.out _ B1.out).mono ?_); rintro e wc ⟨rfl, kk⟩; have X2 := Lib.hid (X1.out.next kk); have B2 := Lib.hid (below_then B1.out kk); clear kk) | fail)
  clear X B X1 B1 C
  go_upto_region 6 with (first | (go_at_call 7; (with_reducible refine (C7.out _).mono ?_); rintro e wd ⟨n, pp, rfl, n1, kk, xs, xr⟩; have X3 := Lib.hid (X2.out.next kk); have B3 := Lib.hid (below_then B2.out kk); have N1 := Lib.hid n1; have XS := Lib.hid xs; have XR := Lib.hid xr; clear n1 kk xs xr; have ZR := Lib.hid (show (wd.alloc (.cells zc42 42)).heap[wd.heap.size]? = some (.cells zc42 42 (0, 0)) from heap_alloc_last wd _)) | (with_reducible refine wpList_store_by rfl rfl (MBox.store n N1.out ZR.out (by kernel_rfl)) rfl rfl ?_) | fail)
  have nz : W.heap.size ≠ wd.heap.size := fun e => by have := X3.out.lt; omega
  have XN := Lib.hid (show MBox ((wd.alloc (.cells zc42 42)).setRow wd.heap.size (mcC n)) wd.heap.size n from setRow_heap _ _ _ _ 42 (0, 0) ZR.out)
  have XM := Lib.hid (show MBox ((wd.alloc (.cells zc42 42)).setRow wd.heap.size (mcC n)) W.heap.size m from MBox.over (X3.out.next (below1 wd (.cells zc42 42))) nz _)
  have B4 := Lib.hid (below_setRow (below_then B3.out (below1 wd (.cells zc42 42))) B3.out.size (mcC n))
  have R4 := Lib.hid (show MR ((wd.alloc (.cells zc42 42)).setRow wd.heap.size (mcC n)) n pp from XR.out _ fun k _ hk => (setRow_other _ _ _ _ (by omega)).trans ((below1 wd (.cells zc42 42)).block k hk))
  clear ZR X2 B2 X3 B3 XR nz C7
  generalize wd.heap.size = z at *
  generalize (wd.alloc (.cells zc42 42)).setRow z (mcC n) = we at XN XM B4 R4 ⊢
  have C6 := Lib.hid (show Calls Try.prog 6 #[mcV n] we (fun e w => e = .returned (.tuple #[.string b, .int .i64 0]) ∧ Below we.heap.size we w) from (bytes_m n pp we R4.out XS.out.2.2.2.2.2.1).mono fun e w r => by
    unfold BytesR at r
    rw [XS.out.2.2.2.2.2.2.1, XS.out.2.2.2.2.2.2.2] at r
    simp only [if_true] at r
    exact r)
  go_upto_region 7 with (first | (with_reducible refine wpList_load_by rfl rfl (MBox.load XN.out) rfl ?_) | (go_at_call 6; (with_reducible refine C6.out.mono ?_); rintro e wf ⟨rfl, kk⟩; have X5 := Lib.hid (XN.out.next kk); have Y5 := Lib.hid (XM.out.next kk); have B5 := Lib.hid (below_then B4.out kk); have R5 := Lib.hid (R4.out.next kk); clear kk) | fail)
  clear XN XM B4 R4 C6
  obtain ⟨pn, cn, en⟩ := Reads.is R5.out.d
  have hD : pp.D = p.D := XS.out.2.2.2.2.1
  have dn : DAt wf (.slice pn p.D.length cn) p.D := by rw [← hD, ← en]; exact R5.out.d
  have hcn := string_of dn
  have hcm := string_of (DM.out wf B5.out)
  have m_nd : wf.cell? ⟨z, 73, none⟩ = some (.slice pn p.D.length cn) := (MBox.cell_t X5.out 0).trans (by show some n.dv = _; rw [en, hD])
  have m_md : wf.cell? ⟨W.heap.size, 73, none⟩ = some (.slice pd p.D.length cd) := (MBox.cell_t Y5.out 0).trans (by show some m.dv = _; rw [ED.out])
  have m_nc : wf.cell? ⟨z, 76, none⟩ = some (.int .u64 m.cnt) := (MBox.cell_t X5.out 3).trans (by show some (Value.int .u64 n.cnt) = _; rw [XS.out.2.1])
  have m_mc : wf.cell? ⟨W.heap.size, 76, none⟩ = some (.int .u64 m.cnt) := MBox.cell_t Y5.out 3
  have m_nn : wf.cell? ⟨z, 77, none⟩ = some (.int .u64 m.nxt) := (MBox.cell_t X5.out 4).trans (by show some (Value.int .u64 n.nxt) = _; rw [XS.out.2.2.1])
  have m_mn : wf.cell? ⟨W.heap.size, 77, none⟩ = some (.int .u64 m.nxt) := MBox.cell_t Y5.out 4
  have m_no : wf.cell? ⟨z, 78, none⟩ = some (.slice none 0 0) := (MBox.cell_t X5.out 5).trans (by show some n.ov = _; rw [XS.out.2.2.2.1])
  have LH := Lib.hid (show (Instr.loadAt 27 (.pointer (some ⟨z, 0, none⟩))).run Try.prog wf = .ok (hartV m.h) wf from by rw [← XS.out.1]; exact MBox.load_hart X5.out)
  have LM := Lib.hid (MBox.load_hart Y5.out)
  have hse := str_eq b
  have hsd := str_eq (⟨p.D.toArray⟩ : ByteArray)
  have HB := Lib.hid B5.out
  clear X5 Y5 R5 XS DM ED dn hD en B5
  generalize (⟨p.D.toArray⟩ : ByteArray) = ds at hcn hcm hsd
  go_upto_region 9 with (first | ((with_reducible show wpList _ _ _ (⟨some 46, Op.load 27 (.tmp 45), _, _, _, _⟩ :: _) _ _; refine wpList_load_wanted (by kernel_rfl) rfl LH.out rfl ?_); simp only [Act.put, List.setIfInBounds_toArray, List.set_cons_zero, List.set_cons_succ]) | ((with_reducible show wpList _ _ _ (⟨some 48, Op.load 27 (.tmp 47), _, _, _, _⟩ :: _) _ _; refine wpList_load_wanted (by kernel_rfl) rfl LM.out rfl ?_); simp only [Act.put, List.setIfInBounds_toArray, List.set_cons_zero, List.set_cons_succ]) | ((with_reducible show wpList _ _ _ (⟨some 49, Op.binOp _ _ _ _ _, _, _, _, _⟩ :: _) _ _; refine Pc.wpList_exec (by kernel_rfl) (exec_neq_h m.h _ rfl rfl rfl) ?_); simp only [Act.put, List.setIfInBounds_toArray, List.set_cons_zero, List.set_cons_succ]) | fail)
  clear m_nd m_md m_nc m_mc m_nn m_mn m_no LH LM hcn hcm hse hsd
  have C7 := Lib.hid (calls_read (read_m s wf hs))
  go_upto_region 10 with (first | (go_at_call 7; (with_reducible refine C7.out.mono ?_); rintro e wr ⟨x, k, rfl, x1, kb, xr⟩; have BR := Lib.hid (below_then HB.out kb); have X1 := Lib.hid x1; have XR := Lib.hid xr; clear x1 kb xr; have ZR := Lib.hid (show (wr.alloc (.cells zc42 42)).heap[wr.heap.size]? = some (.cells zc42 42 (0, 0)) from heap_alloc_last wr _)) | (with_reducible refine wpList_store_by rfl rfl (MBox.store x X1.out ZR.out (by kernel_rfl)) rfl rfl ?_) | fail)
  have XB := Lib.hid (show MBox ((wr.alloc (.cells zc42 42)).setRow wr.heap.size (mcC x)) wr.heap.size x from setRow_heap _ _ _ _ 42 (0, 0) ZR.out)
  have BS := Lib.hid (below_setRow (below_then BR.out (below1 wr (.cells zc42 42))) BR.out.size (mcC x))
  have FS := Lib.hid (show ∀ k, k < wr.heap.size → ((wr.alloc (.cells zc42 42)).setRow wr.heap.size (mcC x)).heap[k]? = wr.heap[k]? from fun k h => (setRow_other _ _ _ _ (by omega)).trans ((below1 wr (.cells zc42 42)).block k h))
  clear ZR BR C7
  generalize wr.heap.size = z at *
  generalize (wr.alloc (.cells zc42 42)).setRow z (mcC x) = ws at XB BS FS ⊢
  rcases XR.out with ⟨rfl, pp, o1, o2, o3, o4⟩ | ⟨rfl, rfl⟩
  · have C6 := bytes_m x pp ws (o4 ws fun k _ hk => FS.out k hk) o3
    unfold BytesR at C6
    rw [o1, o2] at C6
    simp only [if_true] at C6
    have C6 := Lib.hid C6
    have hse := str_eq s
    clear o1 o2 o3 o4 XR
    go_wp2_with (first | (with_reducible refine wpList_load_by rfl rfl (MBox.load XB.out) rfl ?_) | (go_at_call 6; (with_reducible refine C6.out.mono ?_); rintro e wt ⟨rfl, kk⟩; have BT := Lib.hid (below_then BS.out kk)) | fail)
    go_ret
    exact ⟨rfl, BT.out⟩
  · have m_d : ws.cell? ⟨z, 73, none⟩ = some (.slice none 0 0) := MBox.cell_t XB.out 0
    clear XR
    go_wp2_with fail
    go_ret
    exact ⟨rfl, BS.out⟩
theorem back_walk (m : Mc) (p : Pt) (s : ByteArray) (W : World) (K : MR W m p) (N : NOk m) (P : PlOk m.b.pl) (hs : s.size ≤ 9223372036854775807) : Calls Try.prog 3 #[mcV m, .string s] W fun e W' => e = .returned (.bool true) ∧ Below W.heap.size W W' := by
  by_cases h : chkM m p = 0
  · exact back_yes m p s W K N P hs h
  · exact back_no m p s W K N hs h
end Go.Proofs.Ytgflnfmnjlmenaa
