/- Accept of the program. -/
import Derived.Test.YthlghmechldegaaZGD
namespace Go.Proofs.Ythlghmechldegaa
open Go.RowKit Go.Deep Go.Joins
set_option maxRecDepth 100000
set_option maxHeartbeats 8000000 in
theorem accept_any (l : Lg) (L E : List En) (prev pt : Int) (q : Option Addr) (c : Nat) (W : World) (hl : EAt W l.lv L) (he : EAt W (.slice q E.length c) E) (hz : ∀ e ∈ L, e.i.data.size ≤ maxLen) (hz2 : ∀ e ∈ E, e.i.data.size ≤ maxLen) (h0 : 0 ≤ l.base) (h1 : l.base ≤ 1152921504606846976) (hi0 : 0 ≤ prev) (hi1 : prev < 18446744073709551616) (hlim : (L.length + 600) * 64 ≤ 140737488355328) :
    Calls Try.prog 28 #[lgV l, .int .u64 prev, .int .u64 pt, .slice q E.length c] W fun r W' => ∃ r', r = .returned (.tuple #[lgV r', .int .u64 (if acB l L prev pt E = true then prev + E.length else 0), .bool (acB l L prev pt E)]) ∧ AccR W W' l r' (accN l.base L prev E E.length) (acB l L prev pt E) ∧ Below W.heap.size W W' := by
  have CF := Lib.hid (fun w (hw : Below W.heap.size W w) => follows_any l L prev pt w (hl.below hw) h0 h1 hi0 hi1 (by omega))
  have CY := Lib.hid (fun w (hw : Below W.heap.size W w) => copy_any l L w (hl.below hw) (by omega))
  have HE := Lib.hid he
  have HFY := Lib.hid (fun h => folB_yes (l := l) (L := L) (prev := prev) (pt := pt) h)
  rw [lastV_len] at HFY
  have hok := hl.lok
  have hel := he.le
  obtain ⟨p, d, hq⟩ := hl.is
  obtain ⟨base, bt, s, lv⟩ := l
  dsimp only at hl hq h0 h1 HFY
  subst hq
  have HZ := Lib.hid (show ∀ x ∈ accN base L prev E E.length, x.i.data.size ≤ maxLen from fun x h => (accN_mem base L prev E _ (Nat.le_refl _) x h).elim (hz x) (hz2 x))
  clear hl he hz hz2
  have HAC := Lib.hid (show acB ⟨base, bt, s, .slice p L.length d⟩ L prev pt E = (folB ⟨base, bt, s, .slice p L.length d⟩ L prev pt && (decide (E.length ≤ 512) && chkB ⟨base, bt, s, .slice p L.length d⟩ (accN base L prev E E.length))) from rfl)
  generalize acB ⟨base, bt, s, .slice p L.length d⟩ L prev pt E = A at *
  dsimp only
  generalize folB ⟨base, bt, s, .slice p L.length d⟩ L prev pt = fo at *
  cases fo
  · have hA : A = false := HAC.out
    subst hA
    clear HAC HFY
    go_enter Try.func28, Try.ntmps28
    go_upto_region 1 with (fail)
    have X := Lib.hid (show Lr W ((W.alloc (lgO ⟨base, bt, s, .slice p L.length d⟩)).alloc (Obj.cells zlgC 27)) ⟨base, bt, s, .slice p L.length d⟩ zeroLg from Lr.start W _ zeroLg)
    generalize (W.alloc (lgO ⟨base, bt, s, .slice p L.length d⟩)).alloc (Obj.cells zlgC 27) = w0 at *
    go_upto_region 2 with (first | (with_reducible refine wpList_load_by rfl rfl X.out.box.load rfl ?_) | (go_at_call 44; (with_reducible refine (CF.out _ X.out.below).mono ?_); rintro r wb ⟨rfl, kk⟩; have X := Lib.hid (X.out.next kk); clear kk) | fail)
    have X2 := Lib.hid (X.out.tell zeroLg)
    go_wp2_with (first | (with_reducible refine wpList_store_by rfl rfl X.out.res.zero rfl rfl ?_) | fail)
    exact bodyPost_ret (v := .tuple #[lgV zeroLg, .int .u64 0, .bool false]) (results_lg3 Try.results28 _ _ (W.heap.size + 1) _ _ _ rfl X2.out.res rfl rfl) rfl ⟨zeroLg, rfl, .inr ⟨rfl, rfl⟩, X2.out.below⟩
  · obtain ⟨hp1, hp2⟩ := HFY.out rfl
    by_cases h5 : E.length ≤ 512
    · have q5 : decide ((512 : Int) < (E.length : Int)) = false := decide_eq_false (by omega)
      have HLN := Lib.hid (fun j hj => accN_len base L prev E hp1 j hj)
      have HNX := Lib.hid (fun j hj => accN_next base L prev E j hj)
      have HAC2 := Lib.hid (show A = chkB ⟨base, bt, s, .slice p L.length d⟩ (accN base L prev E E.length) from by rw [HAC.out, decide_eq_true h5]; rfl)
      clear HAC HFY
      go_enter Try.func28, Try.ntmps28
      go_upto_region 1 with (fail)
      have X := Lib.hid (show Lr W ((W.alloc (lgO ⟨base, bt, s, .slice p L.length d⟩)).alloc (Obj.cells zlgC 27)) ⟨base, bt, s, .slice p L.length d⟩ zeroLg from Lr.start W _ zeroLg)
      generalize (W.alloc (lgO ⟨base, bt, s, .slice p L.length d⟩)).alloc (Obj.cells zlgC 27) = w0 at *
      go_upto_region 4 with (first | (with_reducible refine wpList_load_by rfl rfl X.out.box.load rfl ?_) | (go_at_call 44; (with_reducible refine (CF.out _ X.out.below).mono ?_); rintro r wb ⟨rfl, kk⟩; have X := Lib.hid (X.out.next kk); clear kk) | (go_at_call 32; (with_reducible refine (CY.out _ X.out.below).mono ?_); rintro r wb ⟨q0, c0, rfl, ho, kk⟩; have HF := Lib.hid (fun w => lg_new w ⟨base, bt, s, .slice q0 L.length c0⟩ ⟨_, _, _, rfl⟩); have Ax := Lib.hid (Ac.start X.out ho kk); clear ho kk) | (with_reducible refine wpList_store_by rfl rfl (HF.out _) rfl rfl ?_) | fail)
      generalize wb.heap.size = z at *
      generalize wb.alloc (lgO ⟨base, bt, s, .slice q0 L.length c0⟩) = w3 at *
      clear HF X
      try simp only [put_none]
      go_wp2
      go_loopw [29] (fun i wr => ∃ (j : Nat) (q1 : Option Addr) (c1 : Nat), j ≤ E.length ∧ i = .int .i64 j ∧ RowKit.Hid (Ac W wr z ⟨base, bt, s, .slice p L.length d⟩ zeroLg ⟨base, bt, s, .slice q1 (accN base L prev E j).length c1⟩ (accN base L prev E j).length (accN base L prev E j))) (fun i _ => E.length - (intOf i).toNat)
      case atStart => exact ⟨0, q0, c0, by omega, rfl, Ax⟩
      case round =>
        obtain ⟨j, q1, c1, hj, rfl, HA⟩ := hrel
        clear Ax
        by_cases hlt : j < E.length
        · have q6 : decide ((j : Int) < E.length) = true := decide_eq_true (by omega)
          obtain ⟨g, off, hqq, hc⟩ := ent_at HE.out (by omega)
          subst hqq
          have hix : ∀ w : World, (Instr.indexAt 25 (.slice (some ⟨g, off, none⟩) E.length c) (.int .i64 (j : Int))).run Try.prog w = .ok (.pointer (some ⟨g, off + j * 13, none⟩)) w := fun w => run_idx w g off _ c j hlt
          have HEL := Lib.hid (ent_load wr g _ _ (hc j hlt wr HA.out.below))
          have HM := Lib.hid (HNX.out j hlt)
          obtain ⟨hl1, hl2⟩ := HLN.out j hj
          clear hc
          generalize E[j] = e at *
          generalize accN base L prev E j = M at *
          go_upto_region 7 with (first | (with_reducible refine wpList_load_by rfl rfl HEL.out rfl ?_) | (with_reducible refine wpList_store_by rfl rfl (ent_new _ _) rfl rfl ?_) | fail)
          have X := Lib.hid (HA.out.next (below1 wr (enO e)))
          have Y := Lib.hid (EBox.new wr e)
          clear HA HEL
          generalize wr.heap.size = y at *
          generalize wr.alloc (enO e) = w5 at *
          have CC := Lib.hid (lay_any base bt s M (W.heap.size + 2) M.length c1 q1 (prev + 1 + j) e w5 X.out.own (by have := X.out.far; have := X.out.cur.lt; omega) h0 h1 (by omega) (by omega) (by omega))
          go_wp2_with (first | (with_reducible refine wpList_load_by rfl rfl X.out.cur.load rfl ?_) | (with_reducible refine wpList_load_by rfl rfl Y.out.load rfl ?_) | (go_at_call 45; (with_reducible refine CC.out.mono ?_); rintro r wb ⟨q2, c2, rfl, ho, ht⟩; have HP := Lib.hid (X.out.put ho ht); have HF := Lib.hid (HP.out.1.full ⟨base, bt, s, .slice q2 (layF base M (prev + 1 + j) e).length c2⟩ ⟨_, _, _, rfl⟩); clear ho ht) | (with_reducible refine wpList_store_by rfl rfl HF.out rfl rfl ?_) | fail)
          go_round
          case rel => exact ⟨j + 1, q2, c2, by omega, rfl, Lib.hid (by rw [HM.out]; exact HP.out.2)⟩
          case measure => simp [intOf]; omega
        · obtain rfl : j = E.length := by omega
          have q6 : decide ((E.length : Int) < E.length) = false := decide_eq_false (by omega)
          generalize hMM : accN base L prev E E.length = M at *
          have HMM := Lib.hid hMM
          clear hMM
          have CK := Lib.hid (show ∀ w, Below wr.heap.size wr w → Calls Try.prog 9 #[lgV ⟨base, bt, s, .slice q1 M.length c1⟩] w fun r W' => r = .returned (.int .i64 (chkF ⟨base, bt, s, .slice q1 M.length c1⟩ M)) ∧ Below w.heap.size w W' from fun w hw => check_any ⟨base, bt, s, .slice q1 M.length c1⟩ M w (by
            have := owns_below HA.out.own hw
            exact reads_of_owns this) HZ.out)
          have HB := Lib.hid (show A = chkB ⟨base, bt, s, .slice q1 M.length c1⟩ M from HAC2.out)
          clear HAC2 HNX HLN
          cases A
          · rw [chkF_no _ _ HB.out.symm] at CK
            go_wp2_with (first | (with_reducible refine wpList_load_by rfl rfl HA.out.cur.load rfl ?_) | (go_at_call 9; (with_reducible refine (CK.out _ (Below.refl _ _)).mono ?_); rintro r wc ⟨rfl, kk⟩; have B := Lib.hid (HA.out.next kk); clear kk; have X5 := Lib.hid (B.out.tell zeroLg)) | (with_reducible refine wpList_store_by rfl rfl B.out.res.zero rfl rfl ?_) | fail)
            exact bodyPost_ret (v := .tuple #[lgV zeroLg, .int .u64 0, .bool false]) (results_lg3 Try.results28 _ _ (W.heap.size + 1) _ _ _ rfl X5.out.res rfl rfl) rfl ⟨zeroLg, rfl, .inr ⟨rfl, rfl⟩, X5.out.below⟩
          · rw [chkF_yes _ _ HB.out.symm] at CK
            go_wp2_with (first | (with_reducible refine wpList_load_by rfl rfl HA.out.cur.load rfl ?_) | (with_reducible refine wpList_load_by rfl rfl B.out.cur.load rfl ?_) | (go_at_call 9; (with_reducible refine (CK.out _ (Below.refl _ _)).mono ?_); rintro r wc ⟨rfl, kk⟩; have B := Lib.hid (HA.out.next kk); clear kk; have X5 := Lib.hid (B.out.tell ⟨base, bt, s, .slice q1 M.length c1⟩); have HF := Lib.hid (B.out.res.full ⟨base, bt, s, .slice q1 M.length c1⟩ ⟨_, _, _, rfl⟩)) | (with_reducible refine wpList_store_by rfl rfl HF.out rfl rfl ?_) | fail)
            exact bodyPost_ret (v := .tuple #[lgV ⟨base, bt, s, .slice q1 M.length c1⟩, .int .u64 (prev + E.length), .bool true]) (results_lg3 Try.results28 _ _ (W.heap.size + 1) _ _ _ rfl X5.out.res rfl rfl) rfl ⟨⟨base, bt, s, .slice q1 M.length c1⟩, rfl, .inl ⟨rfl, .slice q1 M.length c1, rfl, by
              unfold OwnE
              rw [HMM.out]
              exact owns_base X5.out.own (by omega)⟩, X5.out.below⟩
    · have q5 : decide ((512 : Int) < (E.length : Int)) = true := decide_eq_true (by omega)
      have hA : A = false := by rw [HAC.out, decide_eq_false h5]; rfl
      subst hA
      clear HAC HFY
      go_enter Try.func28, Try.ntmps28
      go_upto_region 1 with (fail)
      have X := Lib.hid (show Lr W ((W.alloc (lgO ⟨base, bt, s, .slice p L.length d⟩)).alloc (Obj.cells zlgC 27)) ⟨base, bt, s, .slice p L.length d⟩ zeroLg from Lr.start W _ zeroLg)
      generalize (W.alloc (lgO ⟨base, bt, s, .slice p L.length d⟩)).alloc (Obj.cells zlgC 27) = w0 at *
      go_upto_region 2 with (first | (with_reducible refine wpList_load_by rfl rfl X.out.box.load rfl ?_) | (go_at_call 44; (with_reducible refine (CF.out _ X.out.below).mono ?_); rintro r wb ⟨rfl, kk⟩; have X := Lib.hid (X.out.next kk); clear kk) | fail)
      have X2 := Lib.hid (X.out.tell zeroLg)
      go_wp2_with (first | (with_reducible refine wpList_store_by rfl rfl X.out.res.zero rfl rfl ?_) | fail)
      exact bodyPost_ret (v := .tuple #[lgV zeroLg, .int .u64 0, .bool false]) (results_lg3 Try.results28 _ _ (W.heap.size + 1) _ _ _ rfl X2.out.res rfl rfl) rfl ⟨zeroLg, rfl, .inr ⟨rfl, rfl⟩, X2.out.below⟩
end Go.Proofs.Ythlghmechldegaa
