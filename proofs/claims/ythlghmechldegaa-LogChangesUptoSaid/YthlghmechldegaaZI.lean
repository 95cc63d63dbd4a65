/- The reference's Accept, the place ahead of the list. -/
import Derived.Test.YthlghmechldegaaZH
namespace Go.Proofs.Ythlghmechldegaa
open Go.RowKit Go.Deep Go.Joins
set_option maxRecDepth 100000
set_option maxHeartbeats 16000000 in
/-- Accept of the reference, where the place lies ahead of the list. -/
theorem raccept_lo (l : Lg) (L E : List En) (prev pt : Int) (q : Option Addr) (c : Nat) (W : World) (hl : EAt W l.lv L) (he : EAt W (.slice q E.length c) E) (hz : ∀ e ∈ L, e.i.data.size ≤ maxLen) (hz2 : ∀ e ∈ E, e.i.data.size ≤ maxLen) (h0 : 0 ≤ l.base) (h1 : l.base ≤ 1152921504606846976) (hi0 : 0 ≤ prev) (hi1 : prev < 18446744073709551616) (hlim : (L.length + 600) * 64 ≤ 140737488355328) (hyes : folB l L prev pt = true) (h5 : E.length ≤ 512) (hlo : prev < l.base) :
    Calls Try.prog 29 #[lgV l, .int .u64 prev, .int .u64 pt, .slice q E.length c] W fun r W' => ∃ r', r = .returned (.tuple #[lgV r', .int .u64 (if acB l L prev pt E = true then prev + E.length else 0), .bool (acB l L prev pt E)]) ∧ AccR W W' l r' (accN l.base L prev E E.length) (acB l L prev pt E) ∧ Below W.heap.size W W' := by
  have CL := Lib.hid (fun w (hw : Below W.heap.size W w) => rlast_any l L w (hl.below hw) h0 h1 (by omega))
  have CT := Lib.hid (fun w (hw : Below W.heap.size W w) => rtermat_any l L prev w (hl.below hw) h0 h1 hi0 hi1 (by omega))
  have CY := Lib.hid (fun w (hw : Below W.heap.size W w) => rcopy_any l L w (hl.below hw) (by omega))
  have HE := Lib.hid he
  obtain ⟨hp1, hp2⟩ := folB_yes hyes
  have HAC2 := Lib.hid (show acB l L prev pt E = chkB l (accN l.base L prev E E.length) from by unfold acB; rw [hyes, decide_eq_true h5]; rfl)
  have HFO := hyes
  unfold folB at HFO
  rw [if_neg (by omega), if_neg (by omega)] at HFO
  have hok := hl.lok
  have hel := he.le
  obtain ⟨p, d, hq⟩ := hl.is
  have ha : (lastV l L).1 = l.base + L.length := lastV_len l L
  rw [ha] at hp1
  obtain ⟨base, bt, s, lv⟩ := l
  dsimp only at hl hq h0 h1 hp1 HFO ha
  subst hq
  have HZ := Lib.hid (show ∀ x ∈ accN base L prev E E.length, x.i.data.size ≤ maxLen from fun x h => (accN_mem base L prev E _ (Nat.le_refl _) x h).elim (hz x) (hz2 x))
  clear hl he hz hz2 hyes
  generalize acB ⟨base, bt, s, .slice p L.length d⟩ L prev pt E = A at *
  dsimp only at HAC2 ⊢
  have HLN := Lib.hid (fun j hj => accN_len base L prev E hp1 j hj)
  have HNX := Lib.hid (fun j hj => accN_next base L prev E j hj)
  rw [ha] at CL
  generalize (lastV ⟨base, bt, s, .slice p L.length d⟩ L).2 = a2 at *
  generalize (termV ⟨base, bt, s, .slice p L.length d⟩ L prev).1 = t at *
  generalize (termV ⟨base, bt, s, .slice p L.length d⟩ L prev).2 = b at *
  clear ha
  have q1 : decide (base + (L.length : Int) < prev) = false := decide_eq_false (by omega)
  have q2 : decide (1099511627776 < prev) = false := decide_eq_false (by omega)
  have q3 : decide ((512 : Int) < E.length) = false := decide_eq_false (by omega)
  dsimp only at hlo
  clear HFO
  have q4 : decide (base ≤ prev) = false := decide_eq_false (by omega)
  go_enter Try.func29, Try.ntmps29
  go_upto_region 1 with (fail)
  have X := Lib.hid (show Lr W ((W.alloc (lgO ⟨base, bt, s, .slice p L.length d⟩)).alloc (Obj.cells zlgC 27)) ⟨base, bt, s, .slice p L.length d⟩ zeroLg from Lr.start W _ zeroLg)
  generalize (W.alloc (lgO ⟨base, bt, s, .slice p L.length d⟩)).alloc (Obj.cells zlgC 27) = w0 at *
  go_upto_region 8 with (first | (with_reducible refine wpList_load_by rfl rfl X.out.box.load rfl ?_) | (with_reducible refine wpList_load_by rfl rfl X.out.box.base rfl ?_) | (go_at_call 12; (with_reducible refine (CL.out _ X.out.below).mono ?_); rintro r wb ⟨rfl, kk⟩; have X := Lib.hid (X.out.next kk); clear kk) | (go_at_call 16; (with_reducible refine (CT.out _ X.out.below).mono ?_); rintro r wc ⟨rfl, kk⟩; have X := Lib.hid (X.out.next kk); clear kk) | (go_at_call 24; (with_reducible refine (CY.out _ X.out.below).mono ?_); rintro r wb ⟨q0, c0, rfl, ho, kk⟩; have HF := Lib.hid (fun w => lg_new w ⟨base, bt, s, .slice q0 L.length c0⟩ ⟨_, _, _, rfl⟩); have Ax := Lib.hid (Ac.start X.out ho kk); clear ho kk) | (with_reducible refine wpList_store_by rfl rfl (HF.out _) rfl rfl ?_) | fail)
  generalize wb.heap.size = z at *
  generalize wb.alloc (lgO ⟨base, bt, s, .slice q0 L.length c0⟩) = w3 at *
  clear HF X CL CT CY
  try simp only [put_none]
  go_upto_region 9 with (fail)
  go_loopw [16] (fun i wr => ∃ (j : Nat) (q1 : Option Addr) (c1 : Nat), j ≤ E.length ∧ i = .int .i64 j ∧ RowKit.Hid (Ac W wr z ⟨base, bt, s, .slice p L.length d⟩ zeroLg ⟨base, bt, s, .slice q1 (accN base L prev E j).length c1⟩ (accN base L prev E j).length (accN base L prev E j))) (fun i _ => E.length - (intOf i).toNat)
  case atStart => exact ⟨0, q0, c0, by omega, rfl, Ax⟩
  case round =>
    obtain ⟨j, q1, c1, hj, rfl, HA⟩ := hrel
    clear Ax
    by_cases hlt : j < E.length
    · have q6 : decide ((j : Int) < E.length) = true := decide_eq_true (by omega)
      obtain ⟨g, off, hqq, hc⟩ := ent_at HE.out (by omega)
      subst hqq
      have HIX := Lib.hid (show ∀ w : World, (Instr.indexAt 25 (.slice (some ⟨g, off, none⟩) E.length c) (.int .i64 (j : Int))).run Try.prog w = .ok (.pointer (some ⟨g, off + j * 13, none⟩)) w from fun w => run_idx w g off _ c j hlt)
      have HEL := Lib.hid (fun w (hw : Below W.heap.size W w) => ent_load w g _ _ (hc j hlt w hw))
      have HT := Lib.hid (fun w (hw : Below W.heap.size W w) => term_load w g _ _ (hc j hlt w hw))
      have HM := Lib.hid (HNX.out j hlt)
      obtain ⟨hl1, hl2⟩ := HLN.out j hj
      clear hc
      generalize E[j] = e at *
      generalize accN base L prev E j = M at *
      have X := HA
      clear HA
      go_upto_region 12 with (fail)
      obtain ⟨i, hi⟩ : ∃ i : Int, prev + j + 1 = i := ⟨_, rfl⟩
      rw [show prev + 1 + (j : Int) = i from by omega] at HM
      rw [hi]
      have hi2 : 0 ≤ i := by omega
      have hi3 : i < 1152921504606846976 := by omega
      have hi4 : i ≤ base + M.length + 1 := by omega
      clear hi
      have hcap := owns_cap X.out.own
      by_cases g1 : i ≤ base
      · have q7 : decide (i ≤ base) = true := decide_eq_true g1
        have HM2 := Lib.hid (HM.out.trans (layF_stay1 g1))
        clear HM
        go_wp2_with (first | (with_reducible refine wpList_load_by rfl rfl X.out.cur.base rfl ?_) | fail)
        go_round
        case rel => exact ⟨j + 1, q1, c1, by omega, rfl, Lib.hid (by rw [HM2.out]; exact X.out)⟩
        case measure => simp [intOf]; omega
      · have q7 : decide (i ≤ base) = false := decide_eq_false g1
        have CA := Lib.hid (fun w (hw : Below wr.heap.size wr w) => rat_any ⟨base, bt, s, .slice q1 M.length c1⟩ M i w (reads_of_owns (owns_below X.out.own hw)) h0 h1 hi2 (by omega) (by omega))
        obtain ⟨d1, hd⟩ : ∃ d1, (i - base - 1).toNat = d1 := ⟨_, rfl⟩
        have hdk : d1 ≤ M.length := by omega
        have HSL := Lib.hid (show ∀ w : World, (Instr.sliceAt 25 (.slice q1 M.length c1) none (some (.int .u64 (IntKind.u64.wrap (IntKind.u64.wrap (i - base) - 1)))) none).run Try.prog w = .ok (.slice q1 d1 c1) w from fun w => by
          have e1 : IntKind.u64.wrap (IntKind.u64.wrap (i - base) - 1) = (d1 : Int) := by rw [IntKind.wrap_u64, IntKind.wrap_u64]; omega
          rw [e1]
          exact slice_hi .u64 hdk hcap w)
        by_cases hdl : d1 < M.length
        · have HV : atV ⟨base, bt, s, .slice q1 M.length c1⟩ M i = (M[d1], true) := by
            unfold atV
            rw [dif_pos (by dsimp only; omega)]
            simp only [hd]
          rw [HV] at CA
          dsimp only at CA
          by_cases ht : M[d1].term = e.term
          · have HM2 := Lib.hid (HM.out.trans (layF_stay2 g1 (by omega) (by simp only [hd]; exact ht)))
            obtain ⟨f, hf⟩ : ∃ f, f = M[d1] := ⟨_, rfl⟩
            rw [← hf] at CA ht
            have q8 : (f.term == e.term) = true := by rw [beq_iff_eq]; exact ht
            clear hf ht HM HV hd hdk HSL hdl
            go_upto_region 14 with (first | (with_reducible refine wpList_load_by rfl rfl X.out.cur.base rfl ?_) | (with_reducible refine wpList_load_by rfl rfl X.out.cur.load rfl ?_) | (go_at_call 14; (with_reducible refine (CA.out _ (Below.refl _ _)).mono ?_); rintro r wb ⟨rfl, kk⟩; have X := Lib.hid (X.out.next kk); clear kk) | (with_reducible refine wpList_store_by rfl rfl (ent_new _ _) rfl rfl ?_) | fail)
            have Y := Lib.hid (EBox.new wb f)
            have X := Lib.hid (X.out.next (below1 wb (enO f)))
            generalize wb.heap.size = y at *
            generalize wb.alloc (enO f) = w5 at *
            try simp only [put_none]
            have hne : Nonempty (Near w5) := ⟨⟨w5, Below.refl _ _⟩⟩
            refine wp_region_near (by kernel_rfl) (by kernel_rfl) ?_
            repeat (first | (go_big_quiet_want; (with_reducible refine quiet_by _ (fun w hw => exec_ix rfl rfl rfl (HIX.out w)) ?_); simp only [Act.put, List.setIfInBounds_toArray, List.set_cons_zero, List.set_cons_succ]; go_big_quiet_on) | (go_big_quiet_want; (with_reducible refine quiet_by _ (fun w hw => exec_load (t := 22) rfl (near_tm X.out.below HT.out w hw) rfl) ?_); simp only [Act.put, List.setIfInBounds_toArray, List.set_cons_zero, List.set_cons_succ]; go_big_quiet_on) | (go_big_quiet_want; (with_reducible refine quiet_by _ (fun w hw => exec_load (t := 22) rfl (near_eterm Y.out w hw) rfl) ?_); simp only [Act.put, List.setIfInBounds_toArray, List.set_cons_zero, List.set_cons_succ]; go_big_quiet_on) | go_big_quiet_step (first | fail | fail))
            refine wpQuiet_nil ?_
            rintro _ ⟨pn, rfl⟩
            have X := Lib.hid (X.out.next pn.near)
            clear hne Y
            generalize pn.wx = w6 at *
            go_wp2
            go_round
            case rel => exact ⟨j + 1, q1, c1, by omega, rfl, Lib.hid (by rw [HM2.out]; exact X.out)⟩
            case measure => simp [intOf]; omega
          · have HM2 := Lib.hid (HM.out.trans (layF_turn g1 (fun h => by simp only [hd]; exact ht)))
            rw [hd] at HM2
            have HML := Lib.hid (show (M.take d1 ++ [e]).length = d1 + 1 from by simp; omega)
            obtain ⟨f, hf⟩ : ∃ f, f = M[d1] := ⟨_, rfl⟩
            rw [← hf] at CA ht
            have q8 : (f.term == e.term) = false := by rw [beq_eq_false_iff_ne]; exact ht
            clear hf ht HM HV hd hdl
            go_upto_region 14 with (first | (with_reducible refine wpList_load_by rfl rfl X.out.cur.base rfl ?_) | (with_reducible refine wpList_load_by rfl rfl X.out.cur.load rfl ?_) | (go_at_call 14; (with_reducible refine (CA.out _ (Below.refl _ _)).mono ?_); rintro r wb ⟨rfl, kk⟩; have X := Lib.hid (X.out.next kk); clear kk) | (with_reducible refine wpList_store_by rfl rfl (ent_new _ _) rfl rfl ?_) | fail)
            have Y := Lib.hid (EBox.new wb f)
            have X := Lib.hid (X.out.next (below1 wb (enO f)))
            generalize wb.heap.size = y at *
            generalize wb.alloc (enO f) = w5 at *
            try simp only [put_none]
            have hne : Nonempty (Near w5) := ⟨⟨w5, Below.refl _ _⟩⟩
            refine wp_region_near (by kernel_rfl) (by kernel_rfl) ?_
            repeat (first | (go_big_quiet_want; (with_reducible refine quiet_by _ (fun w hw => exec_ix rfl rfl rfl (HIX.out w)) ?_); simp only [Act.put, List.setIfInBounds_toArray, List.set_cons_zero, List.set_cons_succ]; go_big_quiet_on) | (go_big_quiet_want; (with_reducible refine quiet_by _ (fun w hw => exec_load (t := 22) rfl (near_tm X.out.below HT.out w hw) rfl) ?_); simp only [Act.put, List.setIfInBounds_toArray, List.set_cons_zero, List.set_cons_succ]; go_big_quiet_on) | (go_big_quiet_want; (with_reducible refine quiet_by _ (fun w hw => exec_load (t := 22) rfl (near_eterm Y.out w hw) rfl) ?_); simp only [Act.put, List.setIfInBounds_toArray, List.set_cons_zero, List.set_cons_succ]; go_big_quiet_on) | go_big_quiet_step (first | fail | fail))
            refine wpQuiet_nil ?_
            rintro _ ⟨pn, rfl⟩
            have X := Lib.hid (X.out.next pn.near)
            clear hne Y
            generalize pn.wx = w6 at *
            go_upto_region 15 with (fail)
            refine drK (fun w => LBox w z ⟨base, bt, s, .slice q1 M.length c1⟩ ∧ (Instr.loadAt 36 (.pointer (some ⟨g, off + j * 13, none⟩))).run Try.prog w = .ok (enV e) w) 15 fun w7 hzz => ?_
            have X := Lib.hid (X.out.next hzz)
            clear hzz
            have hS := And.intro X.out.cur (HEL.out w7 X.out.below)
            refine tkK 0 hS ?_
            refine tlK 1 hS (fun w hw => hw.1.list) ?_
            refine tkK 2 hS ?_
            refine tkK 3 hS ?_
            refine tlK 4 hS (fun w hw => hw.1.base) ?_
            refine tkK 5 hS ?_
            refine tkK 6 hS ?_
            refine tkK 7 hS ?_ (hy := .inl ⟨by kernel_rfl, fun w _ => exec_shi rfl (HSL.out w) rfl rfl⟩)
            refine tkK 8 hS ?_
            refine tkK 9 hS ?_
            refine tkK 10 hS ?_ (hy := .inl ⟨by kernel_rfl, fun w _ => exec_ix rfl rfl rfl (HIX.out w)⟩)
            refine tlK 11 hS (fun w hw => hw.2) ?_
            have HG := Lib.hid (heap_alloc_new w7 (.cells (enC e) 36))
            have X6 := Lib.hid (X.out.next (below1 w7 (.cells (enC e) 36)))
            refine oneK 12 (opVal 12 (exec_be _ rfl rfl) ⟨fun _ => And.intro X6.out.cur (HEL.out _ X6.out.below), ?_⟩)
            have X := X6
            clear X6
            generalize w7.heap.size = y2 at *
            generalize w7.alloc (.cells (enC e) 36) = w8 at *
            obtain ⟨q2, c2, w9, hrun, ho2, ht⟩ := app_ent (owns_take X.out.own hdk) HG.out (by have := X.out.far; have := X.out.cur.lt; omega) (by omega)
            have HP := Lib.hid (X.out.put ho2 (ht.mono fun x _ hx => by rw [show (Value.slice q1 d1 c1).ownBlock = (Value.slice q1 M.length c1).ownBlock from by cases q1 <;> rfl] at hx; exact hx))
            have HB9 := Lib.hid (show Below W.heap.size W w9 from Touch.below X.out.below ht (fun g hg => by
              rw [show (Value.slice q1 d1 c1).ownBlock = (Value.slice q1 M.length c1).ownBlock from by cases q1 <;> rfl] at hg
              have := (owns_lt X.out.own hg.symm).1
              omega) X.out.below.size)
            have hS9 := And.intro HP.out.1 (HEL.out w9 HB9.out)
            refine oneK 13 (opVal 13 (exec_app (v := .slice q1 d1 c1) (u := .slice (some ⟨y2, 0, none⟩) 1 1) rfl hrun rfl rfl) ⟨fun _ => hS9, ?_⟩)
            clear hrun ho2 ht
            refine tkK 14 hS9 ?_
            refine hsK (HP.out.1.putList _ _ _) fun wy hw => ?_
            subst hw
            refine doneK ?_ (by kernel_rfl) _
            go_wp2
            go_round
            case rel => exact ⟨j + 1, q2, c2, by omega, rfl, Lib.hid (by rw [HM2.out, HML.out]; exact HP.out.2)⟩
            case measure => simp [intOf]; omega
        · have HV : atV ⟨base, bt, s, .slice q1 M.length c1⟩ M i = (zeroEn, false) := by
            unfold atV
            rw [dif_neg (by dsimp only; omega)]
          rw [HV] at CA
          dsimp only at CA
          have HM2 := Lib.hid (HM.out.trans (layF_turn g1 (fun h => absurd h (by omega))))
          rw [hd] at HM2
          have HML := Lib.hid (show (M.take d1 ++ [e]).length = d1 + 1 from by simp; omega)
          clear HV HM hd
          generalize zeroEn = f at *
          go_upto_region 14 with (first | (with_reducible refine wpList_load_by rfl rfl X.out.cur.base rfl ?_) | (with_reducible refine wpList_load_by rfl rfl X.out.cur.load rfl ?_) | (go_at_call 14; (with_reducible refine (CA.out _ (Below.refl _ _)).mono ?_); rintro r wb ⟨rfl, kk⟩; have X := Lib.hid (X.out.next kk); clear kk) | (with_reducible refine wpList_store_by rfl rfl (ent_new _ _) rfl rfl ?_) | fail)
          have Y := Lib.hid (EBox.new wb f)
          have X := Lib.hid (X.out.next (below1 wb (enO f)))
          generalize wb.heap.size = y at *
          generalize wb.alloc (enO f) = w5 at *
          try simp only [put_none]
          have hne : Nonempty (Near w5) := ⟨⟨w5, Below.refl _ _⟩⟩
          refine wp_region_near (by kernel_rfl) (by kernel_rfl) ?_
          repeat (first | (go_big_quiet_want; (with_reducible refine quiet_by _ (fun w hw => exec_ix rfl rfl rfl (HIX.out w)) ?_); simp only [Act.put, List.setIfInBounds_toArray, List.set_cons_zero, List.set_cons_succ]; go_big_quiet_on) | (go_big_quiet_want; (with_reducible refine quiet_by _ (fun w hw => exec_load (t := 22) rfl (near_tm X.out.below HT.out w hw) rfl) ?_); simp only [Act.put, List.setIfInBounds_toArray, List.set_cons_zero, List.set_cons_succ]; go_big_quiet_on) | (go_big_quiet_want; (with_reducible refine quiet_by _ (fun w hw => exec_load (t := 22) rfl (near_eterm Y.out w hw) rfl) ?_); simp only [Act.put, List.setIfInBounds_toArray, List.set_cons_zero, List.set_cons_succ]; go_big_quiet_on) | go_big_quiet_step (first | fail | fail))
          refine wpQuiet_nil ?_
          rintro _ ⟨pn, rfl⟩
          have X := Lib.hid (X.out.next pn.near)
          clear hne Y
          generalize pn.wx = w6 at *
          go_upto_region 15 with (fail)
          refine drK (fun w => LBox w z ⟨base, bt, s, .slice q1 M.length c1⟩ ∧ (Instr.loadAt 36 (.pointer (some ⟨g, off + j * 13, none⟩))).run Try.prog w = .ok (enV e) w) 15 fun w7 hzz => ?_
          have X := Lib.hid (X.out.next hzz)
          clear hzz
          have hS := And.intro X.out.cur (HEL.out w7 X.out.below)
          refine tkK 0 hS ?_
          refine tlK 1 hS (fun w hw => hw.1.list) ?_
          refine tkK 2 hS ?_
          refine tkK 3 hS ?_
          refine tlK 4 hS (fun w hw => hw.1.base) ?_
          refine tkK 5 hS ?_
          refine tkK 6 hS ?_
          refine tkK 7 hS ?_ (hy := .inl ⟨by kernel_rfl, fun w _ => exec_shi rfl (HSL.out w) rfl rfl⟩)
          refine tkK 8 hS ?_
          refine tkK 9 hS ?_
          refine tkK 10 hS ?_ (hy := .inl ⟨by kernel_rfl, fun w _ => exec_ix rfl rfl rfl (HIX.out w)⟩)
          refine tlK 11 hS (fun w hw => hw.2) ?_
          have HG := Lib.hid (heap_alloc_new w7 (.cells (enC e) 36))
          have X6 := Lib.hid (X.out.next (below1 w7 (.cells (enC e) 36)))
          refine oneK 12 (opVal 12 (exec_be _ rfl rfl) ⟨fun _ => And.intro X6.out.cur (HEL.out _ X6.out.below), ?_⟩)
          have X := X6
          clear X6
          generalize w7.heap.size = y2 at *
          generalize w7.alloc (.cells (enC e) 36) = w8 at *
          obtain ⟨q2, c2, w9, hrun, ho2, ht⟩ := app_ent (owns_take X.out.own hdk) HG.out (by have := X.out.far; have := X.out.cur.lt; omega) (by omega)
          have HP := Lib.hid (X.out.put ho2 (ht.mono fun x _ hx => by rw [show (Value.slice q1 d1 c1).ownBlock = (Value.slice q1 M.length c1).ownBlock from by cases q1 <;> rfl] at hx; exact hx))
          have HB9 := Lib.hid (show Below W.heap.size W w9 from Touch.below X.out.below ht (fun g hg => by
            rw [show (Value.slice q1 d1 c1).ownBlock = (Value.slice q1 M.length c1).ownBlock from by cases q1 <;> rfl] at hg
            have := (owns_lt X.out.own hg.symm).1
            omega) X.out.below.size)
          have hS9 := And.intro HP.out.1 (HEL.out w9 HB9.out)
          refine oneK 13 (opVal 13 (exec_app (v := .slice q1 d1 c1) (u := .slice (some ⟨y2, 0, none⟩) 1 1) rfl hrun rfl rfl) ⟨fun _ => hS9, ?_⟩)
          clear hrun ho2 ht
          refine tkK 14 hS9 ?_
          refine hsK (HP.out.1.putList _ _ _) fun wy hw => ?_
          subst hw
          refine doneK ?_ (by kernel_rfl) _
          go_wp2
          go_round
          case rel => exact ⟨j + 1, q2, c2, by omega, rfl, Lib.hid (by rw [HM2.out, HML.out]; exact HP.out.2)⟩
          case measure => simp [intOf]; omega
    · obtain rfl : j = E.length := by omega
      have q6 : decide ((E.length : Int) < E.length) = false := decide_eq_false (by omega)
      generalize hMM : accN base L prev E E.length = M at *
      have HMM := Lib.hid hMM
      clear hMM
      have CK := Lib.hid (show ∀ w, Below wr.heap.size wr w → Calls Try.prog 10 #[lgV ⟨base, bt, s, .slice q1 M.length c1⟩] w fun r W' => r = .returned (.int .i64 (chkF ⟨base, bt, s, .slice q1 M.length c1⟩ M)) ∧ Below w.heap.size w W' from fun w hw => rcheck_any ⟨base, bt, s, .slice q1 M.length c1⟩ M w (by
        have := owns_below HA.out.own hw
        exact reads_of_owns this) HZ.out)
      have HB := Lib.hid (show A = chkB ⟨base, bt, s, .slice q1 M.length c1⟩ M from HAC2.out)
      clear HAC2 HNX HLN
      cases A
      · rw [chkF_no _ _ HB.out.symm] at CK
        go_wp2_with (first | (with_reducible refine wpList_load_by rfl rfl HA.out.cur.load rfl ?_) | (go_at_call 10; (with_reducible refine (CK.out _ (Below.refl _ _)).mono ?_); rintro r wc ⟨rfl, kk⟩; have B := Lib.hid (HA.out.next kk); clear kk; have X5 := Lib.hid (B.out.tell zeroLg)) | (with_reducible refine wpList_store_by rfl rfl B.out.res.zero rfl rfl ?_) | fail)
        exact bodyPost_ret (v := .tuple #[lgV zeroLg, .int .u64 0, .bool false]) (results_lg3 Try.results29 _ _ (W.heap.size + 1) _ _ _ rfl X5.out.res rfl rfl) rfl ⟨zeroLg, rfl, .inr ⟨rfl, rfl⟩, X5.out.below⟩
      · rw [chkF_yes _ _ HB.out.symm] at CK
        go_wp2_with (first | (with_reducible refine wpList_load_by rfl rfl HA.out.cur.load rfl ?_) | (with_reducible refine wpList_load_by rfl rfl B.out.cur.load rfl ?_) | (go_at_call 10; (with_reducible refine (CK.out _ (Below.refl _ _)).mono ?_); rintro r wc ⟨rfl, kk⟩; have B := Lib.hid (HA.out.next kk); clear kk; have X5 := Lib.hid (B.out.tell ⟨base, bt, s, .slice q1 M.length c1⟩); have HF := Lib.hid (B.out.res.full ⟨base, bt, s, .slice q1 M.length c1⟩ ⟨_, _, _, rfl⟩)) | (with_reducible refine wpList_store_by rfl rfl HF.out rfl rfl ?_) | fail)
        exact bodyPost_ret (v := .tuple #[lgV ⟨base, bt, s, .slice q1 M.length c1⟩, .int .u64 (prev + E.length), .bool true]) (results_lg3 Try.results29 _ _ (W.heap.size + 1) _ _ _ rfl X5.out.res rfl rfl) rfl ⟨⟨base, bt, s, .slice q1 M.length c1⟩, rfl, .inl ⟨rfl, .slice q1 M.length c1, rfl, by
          unfold OwnE
          rw [HMM.out]
          exact owns_base X5.out.own (by omega)⟩, X5.out.below⟩

end Go.Proofs.Ythlghmechldegaa
