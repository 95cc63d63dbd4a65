/- Load of the reference, of a whole machine; a record that goes out. -/
import Derived.Test.YtnedhjaphfjdmaaYBT
import Derived.Test.YtnedhjaphfjdmaaYBX
import Derived.Test.YtnedhjaphfjdmaaYQJ
import Derived.Test.YtnedhjaphfjdmaaYQM
namespace Go.Proofs.Ytnedhjaphfjdmaa
open Go.RowKit Go.Deep Go.Joins
/-- One record more behind a list of one's own. -/
theorem append_mine (w : World) (ty : TypeId) {B : Nat} {q : Option Addr} {c : Nat} {O : List Rec} {r : Rec} {g : Nat} (ho : w.ownsRow B 62 3 (.slice q O.length c) O.length (oC O)) (hr : w.heap[g]? = some (.cells (rcC r) 62 (0, 0))) (hB : B ≤ w.heap.size) (hO : (O.length + 1) * 32 ≤ 140737488355328) :
    ∃ q' c' w', (Builtin.append_ #[40, 40] ty #[.slice q O.length c, .slice (some ⟨g, 0, none⟩) 1 1]).run Try.prog w = .ok (.slice q' (O.length + 1) c') w' ∧ w'.ownsRow B 62 3 (.slice q' (O.length + 1) c') (O.length + 1) (oC (O ++ [r])) ∧ Touch w w' (fun k => some k = (Value.slice q O.length c).ownBlock) ∧ ∀ k, (Value.slice q' (O.length + 1) c').ownBlock = some k → some k = (Value.slice q O.length c).ownBlock ∨ w.heap.size ≤ k := by
  rcases ho.2 with ⟨e1, e2⟩ | ⟨g2, cap, cur, e1, hbg, hg2, hnc, hcm, hcs, htake⟩
  · simp only [Value.slice.injEq] at e1
    have e : c = O.length := by omega
    subst e
    obtain ⟨q', c', w', hrun, ho', hb⟩ := append_full w ty ho hr hO
    exact ⟨q', c', w', hrun, owns_base ho' hB, touch_of_below hb _, fun k hk => .inr (owns_lt ho' hk).1⟩
  · simp only [Value.slice.injEq, true_and] at e1
    obtain ⟨rfl, rfl⟩ := e1
    by_cases hroom : O.length + 1 ≤ c
    · obtain ⟨i, hi, hz, hs, hby⟩ := info62
      have hl1 : ([.int .u64 r.1, .int .i64 r.2.1, .string r.2.2] : List Value).length = 1 * i.size := by rw [hs]; rfl
      have hnews : ∀ j v, ([.int .u64 r.1, .int .i64 r.2.1, .string r.2.2] : List Value)[j]? = some v → w.cell? ((⟨g, 0, none⟩ : Addr).add j) = some v := fun j v hv => by
        rw [add_lit, Nat.zero_add, cell_of_row w g j _ 62 (0, 0) hr, ← hv, ← List.getElem?_toArray]
      have e : oC (O ++ [r]) = oC O ++ [.int .u64 r.1, .int .i64 r.2.1, .string r.2.2] := by rw [oC_append]; rfl
      have hrun := run_append_room (P := Try.prog) w 40 ty 62 i Try.underlying40 hi g2 O.length c cur hg2 ⟨g, 0, none⟩ 1 1 _ hl1 hnews (by simp [Value.oneCell']) hroom (by rw [hs, hcs]; simp; omega)
      refine ⟨_, _, _, hrun, ⟨by rw [oC_length]; simp, .inr ⟨g2, c, _, rfl, hbg, setRow_heap w g2 cur _ 62 _ hg2, hroom, hcm, ?_, ?_⟩⟩, (Touch.refl w (fun k => some k = (Value.slice (some ⟨g2, 0, none⟩) O.length c).ownBlock)).setRow (.inl rfl) _, fun k hk => .inl hk.symm⟩
      · simp only [List.size_toArray, List.length_append, List.length_take, List.length_drop, Array.length_toList, hs, List.length_cons, List.length_nil]
        omega
      · rw [e, hs, htake]
        have h2 : (O.length + 1) * 3 = (oC O ++ [Value.int .u64 r.1, .int .i64 r.2.1, .string r.2.2]).length := by rw [List.length_append, oC_length]; simp; omega
        rw [h2]
        exact List.take_left
    · have e : c = O.length := by omega
      subst e
      obtain ⟨q', c', w', hrun, ho', hb⟩ := append_full w ty ho hr hO
      exact ⟨q', c', w', hrun, owns_base ho' hB, touch_of_below hb _, fun k hk => .inr (owns_lt ho' hk).1⟩
/-- A call behind what was done. -/
theorem Did.more {W w W' : World} {B z : Nat} {m r r2 r' : Mc} {p1 p2 : Pt} {q : Option Addr} {c : Nat} {dv mv ov : Value} (T : Touch W w (Ow m z)) (ho : ∀ k, Ow { r with b := r.b.at q p1.F.length c, dv := dv, mv := mv, ov := ov } z k → Ow m z k ∨ W.heap.size ≤ k) (h : Did w W' B z { r with b := r.b.at q p1.F.length c, dv := dv, mv := mv, ov := ov } r2 p2) (e : ∀ q n c dv mv ov, ({ r2 with b := r2.b.at q n c, dv := dv, mv := mv, ov := ov } : Mc) = { r' with b := r'.b.at q n c, dv := dv, mv := mv, ov := ov }) : Did W W' B z m r' p2 := by
  obtain ⟨q', c', dv', mv', ov', hm, ht, hk⟩ := h
  rw [e] at hm hk
  refine ⟨q', c', dv', mv', ov', hm, T.trans' ht fun x hx hS => ?_, fun x hx => ?_⟩
  · rcases ho x hS with h | h
    · exact h
    · omega
  · rcases hk x hx with h' | h'
    · exact ho x h'
    · exact .inr (Nat.le_trans T.size h')
set_option maxRecDepth 100000 in
set_option maxHeartbeats 4000000 in
theorem emit_any (z B : Nat) (m : Mc) (p : Pt) (d : Int) (s : ByteArray) (W : World) (K : MS W B z m p) (hB : B ≤ W.heap.size) (hO : (p.O.length + 1) * 32 ≤ 140737488355328) : Calls Try.prog 54 #[.pointer (some ⟨z, 0, none⟩), .int .i64 d, .string s] W fun e W' => e = .returned (.tuple #[]) ∧ Did W W' B z m { m with nxt := IntKind.u64.wrap (m.nxt + 1) } { p with O := p.O ++ [(m.nxt, d, s)] } := by
  obtain ⟨qo, co, hov⟩ := owns_shape K.o
  have HK := Lib.hid K
  have HB := Lib.hid (And.intro hB hO)
  have L4 := Lib.hid (fun w (hw : MBox w z m) => MBox.load_o' hw hov)
  have HV := Lib.hid hov
  clear K hB hO hov
  go_enter Try.func54, Try.ntmps54
  have Z := Lib.hid (Mem.start W)
  go_upto_region 0 with (fail)
  refine drK (fun w => MBox w z m) 16 fun wz hzz => ?_
  have Z := Lib.hid (Z.out.next hzz)
  have hS : MBox wz z m := HK.out.box.next hzz
  clear hzz
  refine tkK 0 hS ?_
  refine tkK 1 hS ?_
  refine tkK 2 hS ?_
  refine tkK 3 hS ?_
  refine tlK 4 hS (fun w hw => L4.out w hw) ?_
  refine tkK 5 hS ?_
  refine tkK 6 hS ?_
  refine tkK 7 hS ?_
  refine tlK 8 hS (fun w hw => MBox.load_nxt hw) ?_
  refine tkK 9 hS ?_
  refine tkK 10 hS ?_
  refine tkK 11 hS ?_
  have Z1 := Lib.hid (Z.out.next (below1 wz (.cells (rcC (m.nxt, d, s)) 62)))
  have hS1 : MBox (wz.alloc (.cells (rcC (m.nxt, d, s)) 62)) z m := hS.next (below1 _ _)
  refine hoK 12 (w' := wz.alloc (.cells (rcC (m.nxt, d, s)) 62)) (v := .slice (some ⟨wz.heap.size, 0, none⟩) 1 1) ?_ hS1 ?_
  · exact exec_one rfl rfl (run_one wz (m.nxt, d, s))
  have R1 : (wz.alloc (.cells (rcC (m.nxt, d, s)) 62)).heap[wz.heap.size]? = some (.cells (rcC (m.nxt, d, s)) 62 (0, 0)) := heap_alloc_last wz _
  generalize wz.heap.size = gs at R1 ⊢
  generalize wz.alloc (.cells (rcC (m.nxt, d, s)) 62) = wy at Z1 hS1 R1 ⊢
  have K1 := HK.out.next Z1.out.below
  have O1 : wy.ownsRow B 62 3 (.slice qo p.O.length co) p.O.length (oC p.O) := HV.out ▸ K1.o
  obtain ⟨q9, c9, w9, hrun, ho9, ht9, hk9⟩ := append_mine wy 40 (r := (m.nxt, d, s)) O1 R1 (Nat.le_trans HB.out.1 Z1.out.below.size) HB.out.2
  have nb : ∀ (g : Nat) (t : TypeId) (cs : Array Value), wy.heap[g]? = some (.cells cs t (0, 0)) → t ≠ 62 → w9.heap[g]? = wy.heap[g]? := fun g t cs hg h62 =>
    ht9.block g (Array.getElem?_eq_some_iff.1 hg).1 fun hS => not_at O1 hg (fun x => h62 x.symm) hS.symm
  have hS9 : MBox w9 z m := (nb z 42 _ K1.box (by decide)).trans K1.box
  refine hoK 13 (w' := w9) (v := .slice q9 (p.O.length + 1) c9) ?_ hS9 ?_
  · exact exec_append rfl rfl rfl hrun
  refine hoK 14 (w' := w9) (v := .pointer (some ⟨z, 0, none⟩)) ?_ hS9 ?_
  · go_simp
  refine tkK 15 hS9 ?_
  refine hsK (MBox.store_o hS9 q9 (p.O.length + 1) c9) fun wv hw => ?_
  refine doneK ?_ (by kernel_rfl) _
  have K4 := Lib.hid (hS9.put hw)
  have HW := Lib.hid hw
  clear hw
  go_wp2_with (first | (with_reducible refine wpList_load_by rfl rfl (MBox.load_nxt K4.out) rfl ?_) | (with_reducible refine wpList_store_by rfl rfl (MBox.store_nxt K4.out _) rfl rfl ?_) | fail)
  have K5 := K4.out.put (m' := { m with ov := .slice q9 (p.O.length + 1) c9, nxt := IntKind.u64.wrap (m.nxt + 1) }) rfl
  refine bodyPost_end (results_none rfl _ _ _) rfl ⟨rfl, ?_⟩
  have hw := HW.out
  subst hw
  have e : m.b.at m.b.fp p.F.length m.b.fc = m.b := by rw [← HK.out.len]; rfl
  have F9 : FT w9 B (.slice m.b.fp m.b.fn m.b.fc) p.F := K1.fr.keep fun g cur _ hg => nb g 9 cur hg (by decide)
  have D9 : OwnD w9 B m.dv p.D := owns_same K1.d fun g hg => by obtain ⟨cur, hc⟩ := owns_block K1.d hg; exact nb g 5 cur hc (by decide)
  have M9 : OwnM w9 B m.mv p.M := owns_same K1.mm fun g hg => by obtain ⟨cur, hc⟩ := owns_block K1.mm hg; exact nb g 22 cur hc (by decide)
  have T9 : Touch W w9 (Ow m z) := (touch_of_below Z1.out.below _).trans' ht9 fun x _ hx => .inr (.inr (.inr (.inl (by rw [HV.out]; exact hx))))
  refine ⟨m.b.fp, m.b.fc, m.dv, m.mv, .slice q9 (p.O.length + 1) c9, ?_, (T9.setRow (.inl (.inl rfl)) _).setRow (.inl (.inl rfl)) _, fun k hk => ?_⟩
  · show MS _ B z { m with b := m.b.at m.b.fp p.F.length m.b.fc, dv := m.dv, mv := m.mv, ov := .slice q9 (p.O.length + 1) c9, nxt := IntKind.u64.wrap (m.nxt + 1) } { p with O := p.O ++ [(m.nxt, d, s)] }
    rw [e]
    refine ⟨K5, HK.out.big, (F9.over hS9 (by decide) _).over K4.out (by decide) _, owns_over (owns_over D9 hS9 (by decide) _) K4.out (by decide) _, owns_over (owns_over M9 hS9 (by decide) _) K4.out (by decide) _, ?_⟩
    rw [List.length_append]
    exact owns_over (owns_over ho9 hS9 (by decide) _) K4.out (by decide) _
  · have hk : Ow { m with b := m.b.at m.b.fp p.F.length m.b.fc, dv := m.dv, mv := m.mv, ov := .slice q9 (p.O.length + 1) c9, nxt := IntKind.u64.wrap (m.nxt + 1) } z k := hk
    rw [e] at hk
    rcases hk with hk | hk | hk | hk | hk
    · exact .inl (.inl hk)
    · exact .inl (.inr (.inl hk))
    · exact .inl (.inr (.inr (.inl hk)))
    · rcases hk9 k hk.symm with h | h
      · exact .inl (.inr (.inr (.inr (.inl (by rw [HV.out]; exact h)))))
      · exact .inr (Nat.le_trans Z1.out.below.size h)
    · exact .inl (.inr (.inr (.inr (.inr hk))))
set_option maxRecDepth 100000 in
set_option maxHeartbeats 4000000 in
theorem rld_any (z B : Nat) (m : Mc) (p : Pt) (t s : Int) (W : World) (K : MS W B z m p) (hB : B ≤ W.heap.size) (ok : POk m p) (ht0 : 0 ≤ t) (ht1 : t ≤ 18446744073709551615) : Calls Try.prog 30 #[.pointer (some ⟨z, 0, none⟩), .int .u64 t, .int .i64 s] W fun e W' =>
    e = .returned (.tuple #[.int .u64 (ldM m p t s).2.2.1, .bool (ldM m p t s).2.2.2]) ∧ Did W W' B z m (ldM m p t s).1 (ldM m p t s).2.1 := by
  have C0 := Lib.hid (fun W' (h : Below W.heap.size W W') => rload_all m.dv m.mv (.int .u64 m.E) p.D t s W' ((K.next h).d.at) ht0 ht1)
  have X := Lib.hid (Mem.start W)
  have HK := Lib.hid K
  have HO := Lib.hid ok
  have HB := Lib.hid hB
  have HT := Lib.hid (And.intro ht0 ht1)
  unfold ldM
  by_cases h0 : stE p.D.length t s = 0
  · simp only [if_pos h0]
    rw [h0] at C0
    generalize ldV p.D t s = n at C0 ⊢
    clear ht0 ht1 ok K hB h0
    go_enter Try.func30, Try.ntmps30
    go_wp2_with (first | (with_reducible refine wpList_load_by rfl rfl (MBox.load_ram HK.out.box) rfl ?_) | (go_at_call 16; (with_reducible refine (C0.out _ X.out.below).mono ?_); rintro e wb ⟨rfl, kk⟩; have X := Lib.hid (X.out.next kk); clear kk) | fail)
    go_ret2
    exact ⟨rfl, Did.none HK.out X.out.below⟩
  · simp only [if_neg h0]
    have h1 : (stE p.D.length t s == 0) = false := beq_eq_false_iff_ne.2 h0
    generalize stE p.D.length t s = e0 at C0 h1
    generalize ldV p.D t s = n0 at C0
    by_cases h2 : ofB t = true
    · simp only [if_pos h2]
      have C1 := Lib.hid (fun W => rsources_any m.b p.F W K.len)
      have C2 := Lib.hid (fun W => Pc.rload_any m.b.pl (sourcesV m.b p.F) t s ok.c (by omega) W)
      have HN := Lib.hid (pld_none m.b.pl (sourcesV m.b p.F) t s)
      have H2 := Lib.hid h2
      generalize Pc.ldF m.b.pl (sourcesV m.b p.F) t s = R at C2 HN ⊢
      generalize sourcesV m.b p.F = sv at C1 C2
      obtain ⟨q, n, g0⟩ := R
      dsimp only at C2 HN ⊢
      have HX : RowKit.Hid (g0 = true ∨ (g0 = false ∧ n = 0)) := Lib.hid (by cases g0; exact .inr ⟨rfl, HN.out rfl⟩; exact .inl rfl)
      clear HN ht0 ht1 ok K hB h0 h2
      generalize hR : (if g0 = true then (({ m with b := { m.b with pl := q } }, p, n, true) : Mc × Pt × Int × Bool) else (m, p, 0, false)) = R
      have HR := Lib.hid hR
      clear hR
      go_enter Try.func30, Try.ntmps30
      go_upto_region 4 with (first | (with_reducible refine wpList_load_by rfl rfl (MBox.load_ram HK.out.box) rfl ?_) | (go_at_call 16; (with_reducible refine (C0.out _ X.out.below).mono ?_); rintro e wa ⟨rfl, kk⟩; have X := Lib.hid (X.out.next kk); clear kk) | fail)
      go_cut [34] (fun v wx => v = .bool (ofB t) ∧ wx = wa)
      case first =>
        by_cases k1 : 201326592 ≤ t
        · have g1 : decide (201326592 ≤ t) = true := decide_eq_true k1
          by_cases k2 : t < 205520896
          · have g2 : decide (t < 205520896) = true := decide_eq_true k2
            go_wp2_with fail
            go_meet
            exact ⟨by unfold ofB; rw [g1, g2]; rfl, rfl⟩
          · have g2 : decide (t < 205520896) = false := decide_eq_false k2
            go_wp2_with fail
            go_meet
            exact ⟨by unfold ofB; rw [g1, g2]; rfl, rfl⟩
        · have g1 : decide (201326592 ≤ t) = false := decide_eq_false k1
          go_wp2_with fail
          go_meet
          exact ⟨by unfold ofB; rw [g1]; rfl, rfl⟩
      case rest =>
        obtain ⟨rfl, hw⟩ := hcut
        subst hw
        rw [H2.out]
        go_upto_region 5 with (fail)
        go_cut [10, 11, 12] (fun s8 s9 s10 wx => ∃ g, s8 = .pointer (some ⟨g, 0, none⟩) ∧ s9 = .int .u64 n ∧ s10 = .bool g0 ∧ RowKit.Hid (Mem W wx [(g, plC q, 33)] []))
        case first =>
          refine dr (fun w => MBox w z m) fun wz hzz => ?_
          replace X := Lib.hid (X.out.next hzz)
          clear hzz
          have hS := HK.out.box.next X.out.below
          refine tk 0 hS ?_
          refine tk 1 hS ?_
          refine tk 2 hS ?_
          refine tk 3 hS ?_
          refine tl 4 hS (fun w hw => MBox.load_pl hw) ?_
          refine tk 5 hS ?_
          refine tk 6 hS ?_
          refine tk 7 hS ?_
          refine tl 8 hS (fun w hw => MBox.load_b hw) ?_
          refine tk 10 hS ?_
          refine tk 11 hS ?_
          refine two 9 17 (cc 9 (calls_told (C1.out _)) ?_ ?_)
          · rintro v' wb ⟨rfl, kk⟩
            have X := Lib.hid (X.out.next kk)
            refine ⟨HK.out.box.next X.out.below, fun hS => ?_⟩
            clear kk
            simp only [puts]
            refine two 12 17 (cc 12 (calls_pld (C2.out _)) ?_ ?_)
            · rintro v' wb ⟨rfl, kk⟩
              have X := Lib.hid (X.out.next kk)
              refine ⟨HK.out.box.next X.out.below, fun hS => ?_⟩
              clear kk
              simp only [puts]
              refine tk 13 hS ?_
              refine tk 14 hS ?_
              refine tk 15 hS ?_
              refine tk 16 hS ?_
              refine ho 17 (HK.out.box.next X.out.newP.below) ?_
              have X := Lib.hid X.out.newP
              generalize wb.heap.size = g at X ⊢
              generalize wb.alloc plZO = wn at X ⊢
              have hS := HK.out.box.next X.out.below
              refine hs 18 (pl_store q X.out.g0 rfl) fun wy hw => ?_
              have X := Lib.hid (X.out.p0 hw)
              refine ⟨HK.out.box.next X.out.below, fun hS => ?_⟩
              clear hw
              refine tk 19 hS ?_
              refine tk 20 hS ?_
              refine wpAnyH_done (by kernel_rfl) ?_ _
              go_wp2_with fail
              go_meet
              exact ⟨_, rfl, rfl, rfl, X⟩
            · refine al 17 (HK.out.box.next X.out.newP.below) ?_ AllReadyH.nil
              have X := Lib.hid X.out.newP
              generalize wb.heap.size = g at X ⊢
              generalize wb.alloc plZO = wn at X ⊢
              have hS := HK.out.box.next X.out.below
              refine hc 12 (calls_pld (C2.out _)) ?_
              rintro v' wb ⟨rfl, kk⟩
              have X := Lib.hid (X.out.next kk)
              refine ⟨HK.out.box.next X.out.below, fun hS => ?_⟩
              clear kk
              simp only [puts]
              refine tk 13 hS ?_
              refine tk 14 hS ?_
              refine tk 15 hS ?_
              refine tk 16 hS ?_
              refine hs 18 (pl_store q X.out.g0 rfl) fun wy hw => ?_
              have X := Lib.hid (X.out.p0 hw)
              refine ⟨HK.out.box.next X.out.below, fun hS => ?_⟩
              clear hw
              refine tk 19 hS ?_
              refine tk 20 hS ?_
              refine wpAnyH_done (by kernel_rfl) ?_ _
              go_wp2_with fail
              go_meet
              exact ⟨_, rfl, rfl, rfl, X⟩
          · refine al 17 (HK.out.box.next X.out.newP.below) ?_ AllReadyH.nil
            have X := Lib.hid X.out.newP
            generalize wz.heap.size = g at X ⊢
            generalize wz.alloc plZO = wn at X ⊢
            have hS := HK.out.box.next X.out.below
            refine hc 9 (calls_told (C1.out _)) ?_
            rintro v' wb ⟨rfl, kk⟩
            have X := Lib.hid (X.out.next kk)
            refine ⟨HK.out.box.next X.out.below, fun hS => ?_⟩
            clear kk
            simp only [puts]
            refine hc 12 (calls_pld (C2.out _)) ?_
            rintro v' wb ⟨rfl, kk⟩
            have X := Lib.hid (X.out.next kk)
            refine ⟨HK.out.box.next X.out.below, fun hS => ?_⟩
            clear kk
            simp only [puts]
            refine tk 13 hS ?_
            refine tk 14 hS ?_
            refine tk 15 hS ?_
            refine tk 16 hS ?_
            refine hs 18 (pl_store q X.out.g0 rfl) fun wy hw => ?_
            have X := Lib.hid (X.out.p0 hw)
            refine ⟨HK.out.box.next X.out.below, fun hS => ?_⟩
            clear hw
            refine tk 19 hS ?_
            refine tk 20 hS ?_
            refine wpAnyH_done (by kernel_rfl) ?_ _
            go_wp2_with fail
            go_meet
            exact ⟨_, rfl, rfl, rfl, X⟩
        case rest =>
          obtain ⟨g, rfl, rfl, rfl, X⟩ := hcut
          have hR := HR.out
          rcases HX.out with rfl | ⟨rfl, rfl⟩
          · simp only [if_true] at hR
            subst hR
            have hS := HK.out.box.next X.out.below
            go_wp2_with (first | (with_reducible refine wpList_load_by rfl rfl (pl_load X.out.g0) rfl ?_) | (with_reducible refine wpList_store_by rfl rfl (MBox.store_pl hS q) rfl rfl ?_) | fail)
            go_ret2
            exact ⟨rfl, Did.board (b := { m.b with pl := q }) HK.out ⟨rfl, rfl, rfl⟩ ⟨_, X.out.below, rfl⟩⟩
          · simp only [Bool.false_eq_true, if_false] at hR
            subst hR
            go_wp2_with fail
            go_ret2
            exact ⟨rfl, Did.none HK.out X.out.below⟩
    · simp only [if_neg h2]
      have H3 : RowKit.Hid (ofB t = false) := Lib.hid (by simpa using h2)
      have C2 := Lib.hid (fun W' (h : Below W.heap.size W W') => rdload_any m.b p.F t s m.cnt W' ((K.next h).fr.rd) ok.fl)
      have HN := Lib.hid (dld_none m.b p.F t s m.cnt)
      generalize ldF m.b p.F t s m.cnt = R at C2 HN ⊢
      obtain ⟨b', F', n, g0⟩ := R
      dsimp only at C2 HN ⊢
      clear ht0 ht1 ok K hB h0 h2
      have HX : RowKit.Hid (g0 = true ∨ (g0 = false ∧ n = 0)) := Lib.hid (by cases g0; exact .inr ⟨rfl, HN.out rfl⟩; exact .inl rfl)
      clear HN
      generalize hR : (if g0 = true then (({ m with b := b' }, { p with F := F' }, n, true) : Mc × Pt × Int × Bool) else (m, p, 0, false)) = R
      have HR := Lib.hid hR
      clear hR
      go_enter Try.func30, Try.ntmps30
      go_upto_region 4 with (first | (with_reducible refine wpList_load_by rfl rfl (MBox.load_ram HK.out.box) rfl ?_) | (go_at_call 16; (with_reducible refine (C0.out _ X.out.below).mono ?_); rintro e wa ⟨rfl, kk⟩; have X := Lib.hid (X.out.next kk); clear kk) | fail)
      go_cut [34] (fun v wx => v = .bool (ofB t) ∧ wx = wa)
      case first =>
        by_cases k1 : 201326592 ≤ t
        · have g1 : decide (201326592 ≤ t) = true := decide_eq_true k1
          by_cases k2 : t < 205520896
          · have g2 : decide (t < 205520896) = true := decide_eq_true k2
            go_wp2_with fail
            go_meet
            exact ⟨by unfold ofB; rw [g1, g2]; rfl, rfl⟩
          · have g2 : decide (t < 205520896) = false := decide_eq_false k2
            go_wp2_with fail
            go_meet
            exact ⟨by unfold ofB; rw [g1, g2]; rfl, rfl⟩
        · have g1 : decide (201326592 ≤ t) = false := decide_eq_false k1
          go_wp2_with fail
          go_meet
          exact ⟨by unfold ofB; rw [g1]; rfl, rfl⟩
      case rest =>
        obtain ⟨rfl, hw⟩ := hcut
        subst hw
        rw [H3.out]
        go_upto_region 9 with (fail)
        go_cut [13, 14, 15] (fun s10 s8 s11 wx => ∃ x q c, s10 = .pointer (some ⟨x, 0, none⟩) ∧ s8 = .int .u64 n ∧ s11 = .bool g0 ∧ RowKit.Hid (Mem W wx [(x, bdC (b'.at q F'.length c), 35)] [(9, .slice q F'.length c, F'.length, sC F')]))
        case first =>
          refine dr (fun w => MBox w z m) fun wz hzz => ?_
          have X := Lib.hid (X.out.next hzz)
          clear hzz
          have hS := HK.out.box.next X.out.below
          refine tk 0 hS ?_
          refine tk 1 hS ?_
          refine tk 2 hS ?_
          refine tl 3 hS (fun w hw => MBox.load_b hw) ?_
          refine tk 4 hS ?_
          refine tk 5 hS ?_
          refine tk 6 hS ?_
          refine tk 7 hS ?_
          refine tk 8 hS ?_
          refine tl 9 hS (fun w hw => MBox.load_cnt hw) ?_
          refine two 10 15 (cc 10 (calls_tld (C2.out _ X.out.below)) ?_ ?_)
          · rintro v' wb ⟨q, c, rfl, ho', kk⟩
            have X := Lib.hid ((X.out.next kk).addrow ho' X.out.below.size (by decide))
            refine ⟨HK.out.box.next X.out.below, fun hS => ?_⟩
            clear kk ho'
            simp only [puts]
            refine tk 11 hS ?_
            refine tk 12 hS ?_
            refine tk 13 hS ?_
            refine tk 14 hS ?_
            refine ho 15 (HK.out.box.next X.out.newZ.below) ?_
            have X := Lib.hid X.out.newZ
            generalize wb.heap.size = x at X ⊢
            generalize wb.alloc zeroO = wn at X ⊢
            have hS := HK.out.box.next X.out.below
            refine hs 16 (store_box _ _ _ _ X.out.b0 (bdC_size _)) fun wy hw => ?_
            have X := Lib.hid (X.out.p0 hw)
            refine ⟨HK.out.box.next X.out.below, fun hS => ?_⟩
            clear hw
            refine tk 17 hS ?_
            refine tk 18 hS ?_
            refine wpAnyH_done (by kernel_rfl) ?_ _
            go_wp2_with fail
            go_meet
            exact ⟨_, q, c, rfl, rfl, rfl, X⟩
          · refine al 15 (HK.out.box.next X.out.newZ.below) ?_ AllReadyH.nil
            have X := Lib.hid X.out.newZ
            generalize wz.heap.size = x at X ⊢
            generalize wz.alloc zeroO = wn at X ⊢
            have hS := HK.out.box.next X.out.below
            refine hc 10 (calls_tld (C2.out _ X.out.below)) ?_
            rintro v' wb ⟨q, c, rfl, ho', kk⟩
            have X := Lib.hid ((X.out.next kk).addrow ho' X.out.below.size (by decide))
            refine ⟨HK.out.box.next X.out.below, fun hS => ?_⟩
            clear kk ho'
            simp only [puts]
            refine tk 11 hS ?_
            refine tk 12 hS ?_
            refine tk 13 hS ?_
            refine tk 14 hS ?_
            refine hs 16 (store_box _ _ _ _ X.out.b0 (bdC_size _)) fun wy hw => ?_
            have X := Lib.hid (X.out.p0 hw)
            refine ⟨HK.out.box.next X.out.below, fun hS => ?_⟩
            clear hw
            refine tk 17 hS ?_
            refine tk 18 hS ?_
            refine wpAnyH_done (by kernel_rfl) ?_ _
            go_wp2_with fail
            go_meet
            exact ⟨_, q, c, rfl, rfl, rfl, X⟩
        case rest =>
          obtain ⟨x, q, c, rfl, rfl, rfl, X⟩ := hcut
          have hR := HR.out
          rcases HX.out with rfl | ⟨rfl, rfl⟩
          · simp only [if_true] at hR
            subst hR
            have hS := HK.out.box.next X.out.below
            go_wp2_with (first | (with_reducible refine wpList_load_by rfl rfl (Box.load X.out.b0) rfl ?_) | (with_reducible refine wpList_store_by rfl rfl (MBox.store_b hS (b'.at q F'.length c)) rfl rfl ?_) | fail)
            go_ret2
            exact ⟨rfl, Did.frames HK.out HB.out X.out.below X.out.r0 rfl⟩
          · simp only [Bool.false_eq_true, if_false] at hR
            subst hR
            go_wp2_with fail
            go_ret2
            exact ⟨rfl, Did.none HK.out X.out.below⟩

end Go.Proofs.Ytnedhjaphfjdmaa
