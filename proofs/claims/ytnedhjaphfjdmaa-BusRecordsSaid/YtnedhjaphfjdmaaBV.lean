/- The same machine: true. -/
import Derived.Test.YtnedhjaphfjdmaaBE
import Derived.Test.YtnedhjaphfjdmaaRW
namespace Go.Proofs.Ytnedhjaphfjdmaa
open Go.RowKit Go.Deep Go.Joins
/-- Two machines that differ in where their parts lie alone. -/
structure Like (m r : Mc) : Prop where
  h : r.h = m.h
  b : r.b = m.b.at r.b.fp r.b.fn r.b.fc
  E : r.E = m.E
  cnt : r.cnt = m.cnt
  nxt : r.nxt = m.nxt
theorem Like.refl (m : Mc) : Like m m := ⟨rfl, rfl, rfl, rfl, rfl⟩
/-- What is loaded of a machine's variable. -/
structure Bx (w : World) (g : Nat) (h : Hart) (dv mv : Value) (E cnt nxt : Int) (ov fv : Value) (b : Bd) : Prop where
  hart : (Instr.loadAt 27 (.pointer (some ⟨g, 0, none⟩))).run Try.prog w = .ok (hartV h) w
  ram : (Instr.loadAt 39 (.pointer (some ⟨g, 73, none⟩))).run Try.prog w = .ok (.agg #[dv, mv, .int .u64 E]) w
  cnt : w.cell? ⟨g, 76, none⟩ = some (.int .u64 cnt)
  nxt : w.cell? ⟨g, 77, none⟩ = some (.int .u64 nxt)
  o : w.cell? ⟨g, 78, none⟩ = some ov
  lo : (Instr.loadAt 40 (.pointer (some ⟨g, 78, none⟩))).run Try.prog w = .ok ov w
  lf : (Instr.loadAt 28 (.pointer (some ⟨g, 61, none⟩))).run Try.prog w = .ok fv w
  fr : w.cell? ⟨g, 61, none⟩ = some fv
  b : (Instr.loadAt 35 (.pointer (some ⟨g, 52, none⟩))).run Try.prog w = .ok (bdV b) w
theorem MBox.bx {w : World} {g : Nat} {m r : Mc} (k : MBox w g r) (l : Like m r) : Bx w g m.h r.dv r.mv m.E m.cnt m.nxt r.ov (.slice r.b.fp r.b.fn r.b.fc) (m.b.at r.b.fp r.b.fn r.b.fc) :=
  ⟨l.h ▸ k.load_hart, l.E ▸ k.load_ram, l.cnt ▸ k.cell_t 3, l.nxt ▸ k.cell_t 4, k.cell_t 5, k.load_o, k.load_fr, (cell_of_row w g 61 (mcC r) 42 (0, 0) k).trans ((mcC_b r 9 (by omega)).trans (bdC_head r.b 9 (by omega))), by have := k.load_b; rwa [l.b] at this⟩
/-- The two machines that are compared, in memory. -/
def Both (W w : World) (m r : Mc) : Prop := MBox w W.heap.size m ∧ MBox w (W.heap.size + 1) r ∧ Below W.heap.size W w
theorem Both.new (W : World) (m r : Mc) : Both W ((W.alloc (mcO m)).alloc (mcO r)) m r := by
  have h := Mem.two (W := W) (mcC m) (mcC r)
  exact ⟨h.g1, h.g0, h.below⟩
theorem Both.next {W w w' : World} {m r : Mc} (h : Both W w m r) (hb : Below w.heap.size w w') : Both W w' m r := ⟨h.1.next hb, h.2.1.next hb, below_then h.2.2 hb⟩
theorem Box.cat_msip {w : World} {g n c : Nat} {p : Option Addr} {b : Bd} (k : Box w g (b.at p n c)) : w.cell? ⟨g, 0, none⟩ = some (.bool b.msip) := k.cell_msip
theorem Box.cat_cmp {w : World} {g n c : Nat} {p : Option Addr} {b : Bd} (k : Box w g (b.at p n c)) : w.cell? ⟨g, 1, none⟩ = some (.int .u64 b.cmp) := k.cell_cmp
theorem Box.cat_inn {w : World} {g n c : Nat} {p : Option Addr} {b : Bd} (k : Box w g (b.at p n c)) : w.cell? ⟨g, 2, none⟩ = some (.string b.inn) := k.cell_inn
theorem Box.cat_ier {w : World} {g n c : Nat} {p : Option Addr} {b : Bd} (k : Box w g (b.at p n c)) : w.cell? ⟨g, 3, none⟩ = some (.bool b.ier) := k.cell_ier
theorem Box.cat_sec {w : World} {g n c : Nat} {p : Option Addr} {b : Bd} (k : Box w g (b.at p n c)) : w.cell? ⟨g, 4, none⟩ = some (.string b.sec) := k.cell_sec
theorem Box.cat_sector {w : World} {g n c : Nat} {p : Option Addr} {b : Bd} (k : Box w g (b.at p n c)) : w.cell? ⟨g, 5, none⟩ = some (.int .u64 b.sector) := k.cell_sector
theorem Box.cat_addr {w : World} {g n c : Nat} {p : Option Addr} {b : Bd} (k : Box w g (b.at p n c)) : w.cell? ⟨g, 6, none⟩ = some (.int .u64 b.addr) := k.cell_addr
theorem Box.cat_done {w : World} {g n c : Nat} {p : Option Addr} {b : Bd} (k : Box w g (b.at p n c)) : w.cell? ⟨g, 7, none⟩ = some (.bool b.done) := k.cell_done
theorem Box.cat_bad {w : World} {g n c : Nat} {p : Option Addr} {b : Bd} (k : Box w g (b.at p n c)) : w.cell? ⟨g, 8, none⟩ = some (.bool b.bad) := k.cell_bad
theorem Box.cat_nicA {w : World} {g n c : Nat} {p : Option Addr} {b : Bd} (k : Box w g (b.at p n c)) : w.cell? ⟨g, 10, none⟩ = some (.int .u64 b.nicA) := k.cell_nicA
theorem Box.cat_nicL {w : World} {g n c : Nat} {p : Option Addr} {b : Bd} (k : Box w g (b.at p n c)) : w.cell? ⟨g, 11, none⟩ = some (.int .u64 b.nicL) := k.cell_nicL
theorem Box.cat_pl {w : World} {g n c : Nat} {p : Option Addr} {b : Bd} (k : Box w g (b.at p n c)) : (Instr.loadAt 33 (.pointer (some ⟨g, 12, none⟩))).run Try.prog w = .ok (.agg (plC b.pl)) w := k.load_pl
theorem run_sizeOf (t n : Nat) (w : World) (k : (Try.prog.info? t).map (·.size) = some n) : (sizeOf t).run Try.prog w = .ok n w := by
  cases hq : Try.prog.info? t with
  | none => rw [hq] at k; cases k
  | some i => rw [hq] at k; simp at k; simp [sizeOf, typeInfo, hq, k]
theorem run_idx (w : World) (g off n c j : Nat) (hj : j < n) : (Instr.indexAt 40 (.slice (some ⟨g, off, none⟩) n c) (.int .i64 (j : Int))).run Try.prog w = .ok (.pointer (some ⟨g, off + j * 3, none⟩)) w := by
  have hs := run_sizeOf 62 3 w size62
  simp [Instr.indexAt, run_underlying Try.underlying40, asIntOf, hs, hj, Sem.run_bind, Result.andThen, add_lit]
theorem run_idx9 (w : World) (g off n c j : Nat) (hj : j < n) : (Instr.indexAt 28 (.slice (some ⟨g, off, none⟩) n c) (.int .i64 (j : Int))).run Try.prog w = .ok (.pointer (some ⟨g, off + j, none⟩)) w := by
  have hs := run_sizeOf 9 1 w (by kernel_rfl)
  simp [Instr.indexAt, run_underlying Try.underlying28, asIntOf, hs, hj, Sem.run_bind, Result.andThen, add_lit]
theorem exec_idx {P : Program} {ρ : Operand → Value} {o : Oper} {t : TypeId} {x i : Operand} {v u r : Value} {w : World} (ho : o.op = .indexAddr t x i) (hx : ρ x = v) (hi : ρ i = u) (hrun : (Instr.indexAt t v u).run P w = .ok r w) : (execOp ρ o).run P w = .ok (.value r) w := by
  simp [execOp, ho, hx, hi, hrun, Result.andThen]
theorem run_load_cells {P : Program} (w : World) (g k ty : Nat) (part : List Value) (d : TypeDesc)
    (hu : P.underlying ty = some d) (hd : (match d with | .struct _ | .array _ _ => true | _ => false) = true) (hi : (P.info? ty).map (·.size) = some part.length) (hp : ∀ j v, part[j]? = some v → w.cell? ⟨g, k + j, none⟩ = some v) :
    (Instr.loadAt ty (.pointer (some ⟨g, k, none⟩))).run P w = .ok (.agg part.toArray) w := by
  have hl : (loadCells ⟨g, k, none⟩ part.length).run P w = .ok part.toArray w :=
    run_loadCells_list (P := P) w ⟨g, k, none⟩ part (fun j v hv => by rw [add_lit]; exact hp j v hv)
  cases hq : P.info? ty with
  | none => simp [hq] at hi
  | some i =>
    have hs : i.size = part.length := by simpa [hq] using hi
    have hagg : (isAgg ty).run P w = .ok true w := by
      unfold isAgg
      rw [Sem.run_bind, run_underlying hu w]
      cases d <;> simp_all
    simp [Instr.loadAt, Instr.sureAddr, loadVar, Sem.run_bind, hagg, sizeOf, typeInfo, hq, hs, hl, Result.andThen]
theorem run_load_at {P : Program} (w : World) (b k : Nat) (t : TypeId) (v : Value) (d : TypeDesc) (hu : P.underlying t = some d) (hd : (match d with | .struct _ | .array _ _ => true | _ => false) = false) (hcell : w.cell? ⟨b, k, none⟩ = some v) :
    (Instr.loadAt t (.pointer (some ⟨b, k, none⟩))).run P w = .ok v w := by
  have hagg : (isAgg t).run P w = .ok false w := by
    unfold isAgg
    rw [Sem.run_bind, run_underlying hu w]
    cases d <;> simp_all
  simp [Instr.loadAt, Instr.sureAddr, loadVar, Sem.run_bind, Result.andThen, hagg, run_load, hcell]
theorem Reads.le {w : World} {v : Value} {size n : Nat} {cells : List Value} (h : Reads w v size n cells) : n ≤ 9223372036854775807 := by
  rcases h.2 with ⟨_, h⟩ | ⟨a, cap, _, h1, h2, _⟩
  · omega
  · unfold maxLen at h2; omega
theorem rec_at {W : World} {q : Option Addr} {c : Nat} {O : List Rec} (h : Reads W (.slice q O.length c) 3 O.length (oC O)) (h0 : 0 < O.length) : ∃ g off, q = some ⟨g, off, none⟩ ∧ ∀ j (hj : j < O.length), ∀ w, Below W.heap.size W w → (Instr.loadAt 62 (.pointer (some ⟨g, off + j * 3, none⟩))).run Try.prog w = .ok (rcV O[j]) w := by
  obtain ⟨g, off, cap, e, _, _, hg, hc⟩ := Reads.at h (by omega)
  simp only [Value.slice.injEq] at e
  refine ⟨g, off, e.1, fun j hj w hb => run_load_cells w g (off + j * 3) 62 (rcL O[j]) _ Try.underlying62 rfl size62 fun i v hv => ?_⟩
  have hi : i < 3 := by have := (List.getElem?_eq_some_iff.1 hv).1; simpa [rcL] using this
  have k := hc (3 * j + i) v (by rw [oC_get O j hj i hi]; exact hv)
  rw [show off + j * 3 + i = off + (3 * j + i) by omega]
  exact (hb.cell (p := ⟨g, off + (3 * j + i), none⟩) hg).trans k
theorem str_at {W : World} {q : Option Addr} {c : Nat} {F : List ByteArray} (h : FAt W (.slice q F.length c) F) (h0 : 0 < F.length) : ∃ g off, q = some ⟨g, off, none⟩ ∧ ∀ j (hj : j < F.length), ∀ w, Below W.heap.size W w → (Instr.loadAt 9 (.pointer (some ⟨g, off + j, none⟩))).run Try.prog w = .ok (.string F[j]) w := by
  obtain ⟨g, off, cap, e, _, _, hg, hc⟩ := h.cell h0
  simp only [Value.slice.injEq] at e
  exact ⟨g, off, e.1, fun j hj w hb => run_load_at w g (off + j) 9 _ _ Try.underlying9 rfl ((hb.cell (p := ⟨g, off + j, none⟩) hg).trans (hc j hj))⟩
set_option maxRecDepth 100000 in
set_option maxHeartbeats 4000000 in
theorem same_m (m r : Mc) (p : Pt) (W : World) (h1 : MR W m p) (h2 : MR W r p) (l : Like m r) : Calls Try.prog 10 #[mcV m, mcV r] W fun e W' => e = .returned (.bool true) ∧ Below W.heap.size W W' := by
  have HL := Lib.hid l
  have H1 := Lib.hid h1
  have H2 := Lib.hid h2
  obtain ⟨q1, c1, e1⟩ := h1.o.is
  obtain ⟨q2, c2, e2⟩ := h2.o.is
  have n1 := h1.fr.len
  have n2 := h2.fr.len
  have hOl := Reads.le h1.o
  have hFl := Reads.le h1.fr
  have R1 := Lib.hid (e1 ▸ h1.o)
  have R2 := Lib.hid (e2 ▸ h2.o)
  have S1 := Lib.hid (n1 ▸ h1.fr)
  have S2 := Lib.hid (n2 ▸ h2.fr)
  have L1 := Lib.hid (fun w (k : Both W w m r) => e1 ▸ n1 ▸ k.1.bx (Like.refl m))
  have L2 := Lib.hid (fun w (k : Both W w m r) => e2 ▸ n2 ▸ k.2.1.bx l)
  have CS := Lib.hid (fun w (k : Both W w m r) => same_true m.dv m.mv r.dv r.mv m.E p.D p.M w (h1.next k.2.2).d (h1.next k.2.2).mm (h2.next k.2.2).d (h2.next k.2.2).mm)
  clear l h1 h2 e1 e2 n1 n2
  go_enter Try.func10, Try.ntmps10
  go_upto_region 1 with (fail)
  have X := Lib.hid (Both.new W m r)
  generalize (W.alloc (mcO m)).alloc (mcO r) = wa at X ⊢
  have m_cnt := (L1.out wa X.out).cnt
  have m_nxt := (L1.out wa X.out).nxt
  have n_cnt := (L2.out wa X.out).cnt
  have n_nxt := (L2.out wa X.out).nxt
  go_upto_region 3 with (first | ((with_reducible show wpList _ _ _ (⟨some 10, Op.load 27 _, _, _, _, _⟩ :: _) _ _); refine wpList_load_wanted (by kernel_rfl) rfl (L1.out wa X.out).hart rfl ?_; simp only [Act.put, List.setIfInBounds_toArray, List.set_cons_zero, List.set_cons_succ]) | ((with_reducible show wpList _ _ _ (⟨some 12, Op.load 27 _, _, _, _, _⟩ :: _) _ _); refine wpList_load_wanted (by kernel_rfl) rfl (L2.out wa X.out).hart rfl ?_; simp only [Act.put, List.setIfInBounds_toArray, List.set_cons_zero, List.set_cons_succ]) | ((with_reducible show wpList _ _ _ (⟨some 13, Op.binOp .neq 27 _ _ _, _, _, _, _⟩ :: _) _ _); refine wpList_exec (by kernel_rfl) (exec_hart m.h _ rfl rfl rfl) ?_; simp only [Act.put, List.setIfInBounds_toArray, List.set_cons_zero, List.set_cons_succ]) | ((with_reducible show wpList _ _ _ (⟨some 30, Op.load 39 _, _, _, _, _⟩ :: _) _ _); refine wpList_load_wanted (by kernel_rfl) rfl (L1.out wa X.out).ram rfl ?_; simp only [Act.put, List.setIfInBounds_toArray, List.set_cons_zero, List.set_cons_succ]) | ((with_reducible show wpList _ _ _ (⟨some 32, Op.load 39 _, _, _, _, _⟩ :: _) _ _); refine wpList_load_wanted (by kernel_rfl) rfl (L2.out wa X.out).ram rfl ?_; simp only [Act.put, List.setIfInBounds_toArray, List.set_cons_zero, List.set_cons_succ]) | (go_at_call 25; (with_reducible refine (CS.out wa X.out).mono ?_); rintro e wb ⟨rfl, kk⟩; clear m_cnt m_nxt n_cnt n_nxt; have X := Lib.hid (X.out.next kk); clear kk; have m_o := (L1.out wb X.out).o; have n_o := (L2.out wb X.out).o; have m_fr := (L1.out wb X.out).fr; have n_fr := (L2.out wb X.out).fr) | fail)
  clear CS H1 H2 HL
  have HX := Lib.hid X.out.2.2
  clear m_o n_o m_fr n_fr
  have m_o := (L1.out wb X.out).o
  have n_o := (L2.out wb X.out).o
  go_wp2_with fail
  go_loopw [5] (fun i wr => ∃ j : Nat, j ≤ p.O.length ∧ i = .int .i64 j ∧ RowKit.Hid (Both W wr m r)) (fun i _ => p.O.length - (intOf i).toNat)
  case atStart => exact ⟨0, Nat.zero_le _, rfl, X⟩
  case round =>
    obtain ⟨j, hj, rfl, X⟩ := hrel
    by_cases hlt : j < p.O.length
    · obtain ⟨g, off, hq, hld⟩ := rec_at R1.out (by omega)
      obtain ⟨g2, off2, hq2, hld2⟩ := rec_at R2.out (by omega)
      subst hq
      subst hq2
      have m_o := (L1.out _ X.out).o
      have n_o := (L2.out _ X.out).o
      go_upto_region 6 with (fail)
      clear m_o n_o
      have D1 := Lib.hid (hld j hlt)
      have D2 := Lib.hid (hld2 j hlt)
      clear hld hld2
      generalize p.O[j] = rr at D1 D2
      refine dr (fun w => Both W w m r) fun wz hzz => ?_
      have X := Lib.hid (X.out.next hzz)
      clear hzz
      have hS := X.out
      refine tk 0 hS ?_
      refine tl 1 hS (fun w hw => (L1.out w hw).lo) ?_
      refine tk 2 hS ?_
      refine tk 3 hS ?_ (hy := .inl ⟨by kernel_rfl, fun w _ => exec_idx rfl rfl rfl (run_idx w g off _ c1 j hlt)⟩)
      refine tl 4 hS (fun w hw => D1.out w hw.2.2) ?_
      refine tk 5 hS ?_
      refine tl 6 hS (fun w hw => (L2.out w hw).lo) ?_
      refine tk 7 hS ?_
      refine tk 8 hS ?_ (hy := .inl ⟨by kernel_rfl, fun w _ => exec_idx rfl rfl rfl (run_idx w g2 off2 _ c2 j hlt)⟩)
      refine tl 9 hS (fun w hw => D2.out w hw.2.2) ?_
      refine tk 10 hS ?_ (hy := .inl ⟨by kernel_rfl, fun w _ => exec_rec rr w rfl rfl rfl⟩)
      refine wpAnyH_done (by kernel_rfl) ?_ _
      clear D1 D2 hS
      go_wp2_with fail
      exact ⟨⟨j + 1, by omega, by go_num, X⟩, by simp [intOf]; omega⟩
    · have m_o := (L1.out _ X.out).o
      have n_o := (L2.out _ X.out).o
      have m_fr := (L1.out _ X.out).fr
      have n_fr := (L2.out _ X.out).fr
      go_upto_region 8 with (fail)
      clear m_o n_o m_fr n_fr hlt hj
      go_wp2_with fail
      go_loopw [6] (fun i wr => ∃ j : Nat, j ≤ p.F.length ∧ i = .int .i64 j ∧ RowKit.Hid (Both W wr m r)) (fun i _ => p.F.length - (intOf i).toNat)
      case atStart => exact ⟨0, Nat.zero_le _, rfl, X⟩
      case round =>
        obtain ⟨k, hk, rfl, X⟩ := hrel
        by_cases hlt : k < p.F.length
        · obtain ⟨g, off, hq, hld⟩ := str_at S1.out (by omega)
          obtain ⟨g2, off2, hq2, hld2⟩ := str_at S2.out (by omega)
          have m_fr := (L1.out _ X.out).fr
          have n_fr := (L2.out _ X.out).fr
          go_upto_region 11 with (fail)
          clear m_fr n_fr
          have D1 := Lib.hid (hld k hlt)
          have D2 := Lib.hid (hld2 k hlt)
          clear hld hld2
          generalize p.F[k] = ss at D1 D2
          refine dr (fun w => Both W w m r) fun wz hzz => ?_
          have X := Lib.hid (X.out.next hzz)
          clear hzz
          have hS := X.out
          refine tk 0 hS ?_
          refine tk 1 hS ?_
          refine tl 2 hS (fun w hw => hq ▸ (L1.out w hw).lf) ?_
          refine tk 3 hS ?_
          refine tk 4 hS ?_ (hy := .inl ⟨by kernel_rfl, fun w _ => exec_idx rfl rfl rfl (run_idx9 w g off _ m.b.fc k hlt)⟩)
          refine tl 5 hS (fun w hw => D1.out w hw.2.2) ?_
          refine tk 6 hS ?_
          refine tk 7 hS ?_
          refine tl 8 hS (fun w hw => hq2 ▸ (L2.out w hw).lf) ?_
          refine tk 9 hS ?_
          refine tk 10 hS ?_ (hy := .inl ⟨by kernel_rfl, fun w _ => exec_idx rfl rfl rfl (run_idx9 w g2 off2 _ r.b.fc k hlt)⟩)
          refine tl 11 hS (fun w hw => D2.out w hw.2.2) ?_
          refine tk 12 hS ?_
          refine wpAnyH_done (by kernel_rfl) ?_ _
          clear D1 D2 hS
          go_wp2_with fail
          exact ⟨⟨k + 1, by omega, by go_num, X⟩, by simp [intOf]; omega⟩
        · have m_fr := (L1.out _ X.out).fr
          have n_fr := (L2.out _ X.out).fr
          go_upto_region 13 with (fail)
          clear m_fr n_fr hlt hk
          refine dr (fun w => Both W w m r) fun wz hzz => ?_
          have Y := Lib.hid (X.out.next hzz)
          have X := Lib.hid (Mem.start wz)
          clear hzz
          have hS := Y.out
          refine tk 0 hS ?_
          refine tl 1 hS (fun w hw => (L1.out w hw).b) ?_
          refine tk 2 hS ?_
          refine tl 3 hS (fun w hw => (L2.out w hw).b) ?_
          refine two 4 5 (al 4 (Y.out.next X.out.newZ.below) ?_ (al 5 (Y.out.next X.out.newZ.below) ?_ AllReadyH.nil))
          have X := Lib.hid X.out.newZ
          generalize wz.heap.size = x at X ⊢
          generalize wz.alloc zeroO = wn at X ⊢
          refine ho 5 (Y.out.next X.out.newZ.below) ?_
          have X := Lib.hid X.out.newZ
          generalize wn.heap.size = y at X ⊢
          generalize wn.alloc zeroO = wn at X ⊢
          rotate_left
          have X := Lib.hid X.out.newZ
          generalize wz.heap.size = y at X ⊢
          generalize wz.alloc zeroO = wn at X ⊢
          refine ho 4 (Y.out.next X.out.newZ.below) ?_
          have X := Lib.hid X.out.newZ.swap
          generalize wn.heap.size = x at X ⊢
          generalize wn.alloc zeroO = wn at X ⊢
          rotate_left
          all_goals
            have hS := Y.out.next X.out.below
            refine hs 6 (store_box _ _ _ _ X.out.b1 (bdC_size _)) fun wy hw => ?_
            have X := Lib.hid (X.out.p1 hw)
            refine ⟨Y.out.next X.out.below, fun hS => ?_⟩
            clear hw
            refine hs 7 (store_box _ _ _ _ X.out.b0 (bdC_size _)) fun wy hw => ?_
            have X := Lib.hid (X.out.p0 hw)
            refine ⟨Y.out.next X.out.below, fun hS => ?_⟩
            clear hw hS
            refine wpAnyH_done (by kernel_rfl) ?_ _
            have m_msip := X.out.b1.cat_msip
            have n_msip := X.out.b0.cat_msip
            have m_cmp := X.out.b1.cat_cmp
            have n_cmp := X.out.b0.cat_cmp
            have m_inn := X.out.b1.cat_inn
            have n_inn := X.out.b0.cat_inn
            have m_ier := X.out.b1.cat_ier
            have n_ier := X.out.b0.cat_ier
            have m_sec := X.out.b1.cat_sec
            have n_sec := X.out.b0.cat_sec
            have m_sector := X.out.b1.cat_sector
            have n_sector := X.out.b0.cat_sector
            have m_addr := X.out.b1.cat_addr
            have n_addr := X.out.b0.cat_addr
            have m_done := X.out.b1.cat_done
            have n_done := X.out.b0.cat_done
            have m_bad := X.out.b1.cat_bad
            have n_bad := X.out.b0.cat_bad
            have m_nicA := X.out.b1.cat_nicA
            have n_nicA := X.out.b0.cat_nicA
            have m_nicL := X.out.b1.cat_nicL
            have n_nicL := X.out.b0.cat_nicL
            go_wp2_with (first | ((with_reducible show wpList _ _ _ (⟨some 176, Op.load 33 _, _, _, _, _⟩ :: _) _ _); refine wpList_load_wanted (by kernel_rfl) rfl (Box.cat_pl X.out.b1) rfl ?_; simp only [Act.put, List.setIfInBounds_toArray, List.set_cons_zero, List.set_cons_succ]) | ((with_reducible show wpList _ _ _ (⟨some 178, Op.load 33 _, _, _, _, _⟩ :: _) _ _); refine wpList_load_wanted (by kernel_rfl) rfl (Box.cat_pl X.out.b0) rfl ?_; simp only [Act.put, List.setIfInBounds_toArray, List.set_cons_zero, List.set_cons_succ]) | ((with_reducible show wpList _ _ _ (⟨some 179, Op.binOp .eql 33 _ _ _, _, _, _, _⟩ :: _) _ _); refine wpList_exec (by kernel_rfl) (exec_pl m.b.pl _ rfl rfl rfl) ?_; simp only [Act.put, List.setIfInBounds_toArray, List.set_cons_zero, List.set_cons_succ]) | fail)
            go_ret
            exact ⟨rfl, (Y.out.next X.out.below).2.2⟩

end Go.Proofs.Ytnedhjaphfjdmaa
