/- BusRecords: the walk. -/
import Derived.Test.YtnedhjaphfjdmaaMB
import Derived.Test.YtnedhjaphfjdmaaBW
namespace Go.Proofs.Ytnedhjaphfjdmaa
open Go.RowKit Go.Deep Go.Joins
noncomputable abbrev mcZO : Obj := .cells Try.zeroCells42 42
theorem Mem.newM {W w : World} {l : List (Nat × Array Value × Nat)} {r : List (Nat × Value × Nat × List Value)} (h : Mem W w l r) : Mem W (w.alloc mcZO) ((w.heap.size, Try.zeroCells42, 42) :: l) r := h.new _ 42 (by decide)
theorem CP.one {w : World} {N : Nat} {q : Option Addr} {c : Nat} {dv mv ov : Value} {p : Pt} {m : Mc} (h : CP w N q c dv mv ov p) : Mc1 (atM m p.F.length q c dv mv ov) := ⟨one_t h.d, one_t h.mm, one_t h.o⟩
theorem rs_start {W wc : World} {z c : Nat} {q : Option Addr} {m : Mc} {p : Pt} {dv mv ov : Value} (hz : W.heap.size ≤ z) (A : CP wc W.heap.size q c dv mv ov p) (k : MBox wc z (atM m p.F.length q c dv mv ov)) (hb : Below W.heap.size W wc) (ok : POk m p) (hn : 0 ≤ m.nxt ∧ m.nxt ≤ 18446744073709551615) : RS W (wc.setRow z (mcC { atM m p.F.length q c dv mv ov with ov := .slice none 0 0 })) z m.nxt 0 { atM m p.F.length q c dv mv ov with ov := .slice none 0 0 } { p with O := [] } :=
  ⟨(A.ms hz k).nil, Touch.below hb ((Touch.refl wc (fun x => x = z)).setRow (.inl rfl) _) (fun x hx => by subst hx; exact hz) hb.size, ⟨⟨ok.bd.addr, ok.bd.nicA, ok.bd.sector⟩, ok.c, ok.fz, ok.fl, ok.dl, ok.ml⟩, ⟨by simp only [wrap_u, List.length_nil]; omega, fun k hk => by cases hk⟩, Nat.le_refl _⟩
set_option maxRecDepth 100000 in
set_option maxHeartbeats 4000000 in
theorem records_walk (m : Mc) (p : Pt) (L : List Lk) (lq : Option Addr) (lc : Nat) (W : World) (K : MR W m p) (ok : POk m p) (hO : p.O.length * 32 ≤ 140737488355328) (hn : 0 ≤ m.nxt ∧ m.nxt ≤ 18446744073709551615) (hL : Reads W (.slice lq L.length lc) 4 L.length (lkR L)) (hu : ∀ l ∈ L, (0 ≤ l.1 ∧ l.1 ≤ 18446744073709551615) ∧ (0 ≤ l.2.2.1 ∧ l.2.2.1 ≤ 18446744073709551615)) : Calls Try.prog 5 #[mcV m, .slice lq L.length lc] W fun e W' => e = .returned (.bool true) ∧ Below W.heap.size W W' := by
  have C0 := Lib.hid awake_any
  have C1 := Lib.hid (fun W' (h : Below W.heap.size W W') => rmcopy_any m p W' (K.next h) ok.fl ok.dl ok.ml hO)
  have HP := Lib.hid (And.intro ok hn)
  have HL := Lib.hid (And.intro hL hu)
  have HLL := Reads.le hL
  clear K ok hO hL hu hn
  go_enter Try.func5, Try.ntmps5
  go_upto_region 1 with (fail)
  have X := Lib.hid ((Mem.start W).new (mcC m) 42 (by decide))
  generalize W.alloc (Obj.cells (mcC m) 42) = wa at X ⊢
  go_upto_region 4 with (first | (go_at_call 7; (with_reducible refine (C0.out _).mono ?_); rintro e wb ⟨rfl, kk⟩; have X := Lib.hid (X.out.next kk); clear kk) | (with_reducible refine wpList_load_by rfl rfl (MBox.load X.out.m0) rfl ?_) | (go_at_call 12; (with_reducible refine (C1.out _ X.out.below).mono ?_); rintro e wn ⟨q, c, dv, mv, ov, rfl, h1, h2, h3, h4, kk⟩; have CA := Lib.hid (CP.base (CP.mk h1 h2 h3 h4) X.out.below.size); have X := Lib.hid (X.out.next kk); clear kk h1 h2 h3 h4) | (with_reducible refine wpList_store_by rfl rfl (MBox.store (atM m p.F.length q c dv mv ov) CA.out.one X.out.newM.g0 (by kernel_rfl)) rfl rfl ?_) | fail)
  have CA := Lib.hid ((CA.out.next (below1 wn mcZO)).over X.out.newM.g0 (mcC (atM m p.F.length q c dv mv ov)))
  have X := Lib.hid (X.out.newM.p0 (cs' := mcC (atM m p.F.length q c dv mv ov)) rfl)
  generalize wn.heap.size = z at X CA ⊢
  generalize (wn.alloc mcZO).setRow z (mcC (atM m p.F.length q c dv mv ov)) = wc at X CA ⊢
  have XM := Lib.hid X.out.m0
  go_upto_region 5 with (first | (with_reducible refine wpList_store_by rfl rfl (MBox.store_o XM.out none 0 0) rfl rfl ?_) | fail)
  have R := Lib.hid (rs_start (X.out.big _ (List.mem_cons_self ..)) CA.out XM.out X.out.below HP.out.1 HP.out.2)
  have m_n : (wc.setRow z (mcC { atM m p.F.length q c dv mv ov with ov := .slice none 0 0 })).cell? ⟨z, 77, none⟩ = some (.int .u64 m.nxt) := R.out.m_n
  generalize wc.setRow z (mcC { atM m p.F.length q c dv mv ov with ov := .slice none 0 0 }) = wd at R m_n ⊢
  generalize ({ atM m p.F.length q c dv mv ov with ov := .slice none 0 0 } : Mc) = r0 at R
  have HF := Lib.hid HP.out.2
  clear CA XM X HP C0 C1
  generalize hf : m.nxt = f at R m_n HF
  clear hf
  go_upto_region 6 with (fail)
  clear m_n
  go_wp2_with (fail)
  go_loopw [7] (fun i wr => ∃ j : Nat, j ≤ L.length ∧ j ≤ 30 ∧ i = .int .i64 j ∧ RowKit.Hid (∃ r q, RS W wr z f j r q)) (fun i _ => L.length - (intOf i).toNat)
  case atStart => exact ⟨0, Nat.zero_le _, Nat.zero_le _, rfl, Lib.hid ⟨r0, _, R.out⟩⟩
  case round =>
    obtain ⟨j, hj, hj3, rfl, H⟩ := hrel
    clear R
    go_upto_region 7 with (fail)
    go_cut [25] from 18 to 78 (fun v wx => v = .bool (decide (j < L.length) && decide (j < 30)) ∧ wx = wr)
    case first =>
      by_cases h1 : j < L.length
      · by_cases h2 : j < 30
        · have g1 : decide ((j : Int) < 30) = true := decide_eq_true (by omega)
          have g2 : decide (j < 30) = true := decide_eq_true h2
          have g3 : decide (j < L.length) = true := decide_eq_true h1
          go_wp2_with fail
          go_meet
          exact ⟨by rw [g2, g3]; rfl, rfl⟩
        · have g1 : decide ((j : Int) < 30) = false := decide_eq_false (by omega)
          have g2 : decide (j < 30) = false := decide_eq_false h2
          have g3 : decide (j < L.length) = true := decide_eq_true h1
          go_wp2_with fail
          go_meet
          exact ⟨by rw [g2, g3]; rfl, rfl⟩
      · have g3 : decide (j < L.length) = false := decide_eq_false h1
        go_wp2_with fail
        go_meet
        exact ⟨by rw [g3]; rfl, rfl⟩
    case rest =>
      obtain ⟨rfl, rfl⟩ := hcut
      rcases Bool.eq_false_or_eq_true (decide (j < L.length) && decide (j < 30)) with hgo | hgo
      · rw [hgo]
        have hlt : j < L.length := by simp at hgo; omega
        have hl30 : j < 30 := by simp at hgo; omega
        clear hgo
        obtain ⟨r, q, hrs⟩ := H.out
        obtain ⟨qo, co, hov⟩ := hrs.shape
        have hfew := hrs.few
        have hrd : Reads wc (.slice qo q.O.length co) 3 q.O.length (oC q.O) := hov ▸ reads_of_owns hrs.ms.o
        obtain ⟨p4, c4, w4, hrun, ho, hb⟩ := run_recs wc qo co q.O hrd (by omega)
        obtain ⟨g, off, rfl, hld⟩ := look_at HL.out.1 (by omega)
        have hU := HL.out.2 L[j] (List.getElem_mem ..)
        have hldw := hld j hlt w4 (below_then hrs.below hb)
        have R4 := hrs.next hb
        generalize hO : q.O = O at *
        generalize L[j] = lk at hU hldw
        obtain ⟨t, s, v, rd⟩ := lk
        have C5 := Lib.hid (look_any z W.heap.size r q t s v rd w4 R4.ms R4.below.size R4.ok (by rw [hO]; omega) hU.1 hU.2)
        have hU2 := Lib.hid hU.2
        have HR := Lib.hid hrun
        have HW := Lib.hid ho
        have R1 := Lib.hid (hrs.next (below1 wc (.cells #[] 62)))
        have R4 := Lib.hid R4
        have HV := Lib.hid hov
        have LD := Lib.hid hldw
        have GL := Lib.hid (fun k (h : Ow r z k) => (hrs.ms.lt h).2)
        clear hrun ho hb hrd hld hU hldw hov hrs H
        go_upto_region 10 with (first | (with_reducible refine wpList_load_by rfl rfl (MBox.load_o' R1.out.ms.box HV.out) rfl ?_) | (at_builtin; (refine wpList_append_run rfl _ _ 40 rfl _ _ _ rfl rfl _ HR.out ?_)) | fail)
        clear R1 HR
        go_upto_region 11 with (first | (with_reducible refine wpList_load_by rfl rfl LD.out rfl ?_) | (go_at_call 13; (with_reducible refine C5.out.mono ?_); rintro e w5 ⟨⟨x5, y5, rfl⟩, kk⟩) | fail)
        obtain ⟨r2, R2, ho2, hrow⟩ := RS.did R4.out kk (lk_grown r q t s v rd R4.out.ok hU2.out)
        have hrow5 := hrow wc.heap.size _ O HW.out GL.out
        rw [hO] at ho2
        clear kk hrow LD GL C5 R4 HW HV hO
        generalize (lkM r q t s v rd).2 = q2 at R2 ho2
        obtain ⟨a2, c2, e2⟩ := R2.shape
        have m_o := R2.m_o e2
        have m_n := R2.m_n
        have hfew2 := R2.few
        have hN := R2.nums.1
        have hle : O.length ≤ q2.O.length ∧ q2.O.length ≤ O.length + 1 := by
          rcases ho2 with e | ⟨x, e⟩ <;> rw [e] <;> simp
        have HR := Lib.hid R2
        have HE := Lib.hid e2
        have HH := Lib.hid ho2
        have HW := Lib.hid hrow5
        clear R2 e2 ho2 hrow5
        generalize hn2 : q2.O.length = n2 at *
        generalize hn1 : O.length = n1 at *
        generalize r2.nxt = x at *
        have ds : (IntKind.u64.wrap (x - f) != (n2 : Int)) = false := by
          rw [hN, bne_eq_false_iff_eq]
          simp only [wrap_u]
          have := HF.out
          omega
        have d4 : ¬ n2 < n1 := by omega
        have HN := Lib.hid hN
        have Hn1 := Lib.hid hn1
        have Hn2 := Lib.hid hn2
        clear hN hn1 hn2
        have d1 : decide ((n2 : Int) < (n1 : Int)) = false := decide_eq_false (by omega)
        have d2 : decide ((n1 : Int) + 1 < (n2 : Int)) = false := decide_eq_false (by omega)
        have d3 : ¬ ((n1 : Int) + 1 < (n2 : Int)) := by omega
        go_upto_region 12 with (fail)
        go_wp2_with (fail)
        clear d1 d2 d3 d4 ds m_o m_n
        have L2 := Lib.hid (fun w (h : Below w5.heap.size w5 w) => MBox.load_o' (HR.out.next h).ms.box HE.out)
        have AK := Lib.hid (fun (k : Nat) (hk : k < n1) => (show ∃ g2 o2 g3 o3 rr, a2 = some ⟨g2, o2, none⟩ ∧ p4 = some ⟨g3, o3, none⟩ ∧ ∀ w, Below w5.heap.size w5 w → (Instr.loadAt 62 (.pointer (some ⟨g2, o2 + k * 3, none⟩))).run Try.prog w = .ok (rcV rr) w ∧ (Instr.loadAt 62 (.pointer (some ⟨g3, o3 + k * 3, none⟩))).run Try.prog w = .ok (rcV rr) w from by
          obtain rfl := Hn1.out
          obtain rfl := Hn2.out
          have k2 : Reads w5 (.slice a2 q2.O.length c2) 3 q2.O.length (oC q2.O) := HE.out ▸ reads_of_owns HR.out.ms.o
          obtain ⟨g2, o2, e2, l2⟩ := rec_at k2 (by omega)
          obtain ⟨g3, o3, e3, l3⟩ := rec_at (reads_of_owns HW.out) (by omega)
          have e : q2.O[k]'(by omega) = O[k] := by
            rcases HH.out with e | ⟨x, e⟩
            · simp only [e]
            · simp only [e]
              exact List.getElem_append_left hk
          exact ⟨g2, o2, g3, o3, O[k], e2, e3, fun w h => ⟨e ▸ l2 k (by omega) w h, l3 k hk w h⟩⟩))
        have hn := hle.1
        have hn30 : n1 ≤ 30 := by omega
        clear hle hfew2 hfew
        go_loopw [9] (fun i wr => ∃ k : Nat, k ≤ n1 ∧ i = .int .i64 k ∧ RowKit.Hid (Below w5.heap.size w5 wr)) (fun i _ => n1 - (intOf i).toNat)
        case atStart => exact ⟨0, Nat.zero_le _, rfl, Lib.hid (Below.refl _ _)⟩
        case round =>
          obtain ⟨k, hk, rfl, X⟩ := hrel
          by_cases hk2 : k < n1
          · obtain ⟨g2, o2, g3, o3, rr, ea, ep, hl2⟩ := AK.out k hk2
            subst ea
            subst ep
            have D1 := Lib.hid (fun w h => (hl2 w h).1)
            have D2 := Lib.hid (fun w h => (hl2 w h).2)
            clear hl2
            go_upto_region 16 with (fail)
            refine dr (fun w => Below w5.heap.size w5 w) fun wz hzz => ?_
            have X := Lib.hid (below_then X.out hzz)
            clear hzz
            have hS := X.out
            refine tk 0 hS ?_
            refine tl 1 hS (fun w hw => L2.out w hw) ?_
            refine tk 2 hS ?_
            refine tk 3 hS ?_ (hy := .inl ⟨by kernel_rfl, fun w _ => exec_idx rfl rfl rfl (run_idx w g2 o2 n2 c2 k (by omega))⟩)
            refine tl 4 hS (fun w hw => D1.out w hw) ?_
            refine tk 5 hS ?_
            refine tk 6 hS ?_
            refine tk 7 hS ?_ (hy := .inl ⟨by kernel_rfl, fun w _ => exec_idx rfl rfl rfl (run_idx w g3 o3 n1 c4 k hk2)⟩)
            refine tl 8 hS (fun w hw => D2.out w hw) ?_
            refine tk 9 hS ?_ (hy := .inl ⟨by kernel_rfl, fun w _ => exec_rec rr w rfl rfl rfl⟩)
            refine wpAnyH_done (by kernel_rfl) ?_ _
            clear D1 D2 hS
            go_wp2_with fail
            exact ⟨⟨k + 1, by omega, by go_num, X⟩, by simp [intOf]; omega⟩
          · clear hk
            go_wp2_with fail
            exact ⟨⟨j + 1, by omega, by omega, by go_num, Lib.hid ⟨r2, q2, HR.out.next X.out⟩⟩, by simp [intOf]; omega⟩
      · rw [hgo]
        clear hgo
        obtain ⟨r, q, hrs⟩ := H.out
        obtain ⟨a, c, e⟩ := hrs.shape
        have hfew := hrs.few
        have L2 := Lib.hid (fun w (h : Below wc.heap.size wc w) => (hrs.next h).m_o e)
        have AK := Lib.hid (fun (k : Nat) (hk : k < q.O.length) => (show ∃ g2 o2 v s, a = some ⟨g2, o2, none⟩ ∧ (v != IntKind.u64.wrap (f + (k : Int))) = false ∧ s.toList.isEmpty = false ∧ ∀ w, Below wc.heap.size wc w → w.cell? ⟨g2, o2 + k * 3, none⟩ = some (.int .u64 v) ∧ w.cell? ⟨g2, o2 + k * 3 + 2, none⟩ = some (.string s) from by
          have k2 : Reads wc (.slice a q.O.length c) 3 q.O.length (oC q.O) := e ▸ reads_of_owns hrs.ms.o
          obtain ⟨g2, o2, cap, e2, _, _, hg, hc⟩ := Reads.at k2 (by omega)
          simp only [Value.slice.injEq] at e2
          obtain ⟨h1, h2⟩ := hrs.nums.2 k hk
          have c0 := hc (3 * k + 0) (.int .u64 q.O[k].1) (by rw [oC_get q.O k hk 0 (by omega)]; rfl)
          have c2 := hc (3 * k + 2) (.string q.O[k].2.2) (by rw [oC_get q.O k hk 2 (by omega)]; rfl)
          refine ⟨g2, o2, q.O[k].1, q.O[k].2.2, e2.1, by rw [h1]; simp, ?_, fun w h => ⟨?_, ?_⟩⟩
          · have h := in_none q.O[k].2.2
            rw [decide_eq_true (by omega)] at h
            simpa using h
          · rw [show o2 + k * 3 = o2 + (3 * k + 0) by omega]
            exact (h.cell (p := ⟨g2, o2 + (3 * k + 0), none⟩) hg).trans c0
          · rw [show o2 + k * 3 + 2 = o2 + (3 * k + 2) by omega]
            exact (h.cell (p := ⟨g2, o2 + (3 * k + 2), none⟩) hg).trans c2))
        have HB := Lib.hid hrs.below
        clear e hrs H
        generalize q.O.length = n at *
        go_wp2_with fail
        go_loopw [10] (fun i wr => ∃ k : Nat, k ≤ n ∧ i = .int .i64 k ∧ RowKit.Hid (Below wc.heap.size wc wr)) (fun i _ => n - (intOf i).toNat)
        case atStart => exact ⟨0, Nat.zero_le _, rfl, Lib.hid (Below.refl _ _)⟩
        case round =>
          obtain ⟨k, hk, rfl, X⟩ := hrel
          have m_o := L2.out _ X.out
          by_cases hk2 : k < n
          · obtain ⟨g2, o2, v, s, ea, b1, b2, hl2⟩ := AK.out k hk2
            subst ea
            obtain ⟨c0, c2⟩ := hl2 _ X.out
            clear hl2
            go_wp2_with fail
            exact ⟨⟨k + 1, by omega, by go_num, X⟩, by simp [intOf]; omega⟩
          · clear hk
            go_wp2_with fail
            go_ret
            exact ⟨rfl, below_then HB.out X.out⟩
end Go.Proofs.Ytnedhjaphfjdmaa
