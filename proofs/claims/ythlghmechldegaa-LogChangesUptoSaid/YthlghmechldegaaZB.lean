/- Add of the reference. -/
import Derived.Test.YthlghmechldegaaZA
namespace Go.Proofs.Ythlghmechldegaa
open Go.RowKit Go.Deep Go.Joins
set_option maxRecDepth 100000
/-- A log, a result, and a log on the way whose list is the function's own. -/
structure Ac (W w : World) (z : Nat) (l r m : Lg) (n : Nat) (M : List En) : Prop where
  box : LBox w W.heap.size l
  res : LBox w (W.heap.size + 1) r
  cur : LBox w z m
  own : World.ownsRow w (W.heap.size + 2) 36 13 m.lv n (eC M)
  far : W.heap.size + 1 < z
  below : Below W.heap.size W w
theorem own_not {w : World} {B n z : Nat} {v : Value} {xs : List Value} {l : Lg} (h : World.ownsRow w B 36 13 v n xs) (k : LBox w z l) : v.ownBlock ≠ some z := by
  intro hb
  rcases h.2 with ⟨e, _⟩ | ⟨g, cap, cur, e, _, hg, _⟩
  · rw [e] at hb; cases hb
  · rw [e] at hb
    simp only [Value.ownBlock, Option.some.injEq] at hb
    subst hb
    have := hg.symm.trans k
    simp only [Option.some.injEq, Obj.cells.injEq] at this
    exact absurd this.2.1 (by decide)
theorem Ac.next {W w w' : World} {z : Nat} {l r m : Lg} {n : Nat} {M : List En} (k : Ac W w z l r m n M) (j : Below w.heap.size w w') : Ac W w' z l r m n M := ⟨k.box.next j, k.res.next j, k.cur.next j, owns_below k.own j, k.far, below_then k.below (Nat.le_refl _) j⟩
/-- The list grown, and stored. -/
theorem Ac.put {W w w2 : World} {z : Nat} {l r m : Lg} {n n2 : Nat} {M M2 : List En} {v : Value} (k : Ac W w z l r m n M) (ho : World.ownsRow w2 (W.heap.size + 2) 36 13 v n2 (eC M2)) (ht : Touch w w2 (fun x => some x = m.lv.ownBlock)) :
    LBox w2 z m ∧ Ac W (w2.setRow z (lgC { m with lv := v })) z l r { m with lv := v } n2 M2 := by
  have far := k.far
  have hb : ∀ x y, LBox w x y → LBox w2 x y := fun x y h => (ht.block x h.lt (fun e => own_not k.own h e.symm)).trans h
  have hc := hb _ _ k.cur
  refine ⟨hc, (hb _ _ k.box).over (by omega) _, (hb _ _ k.res).over (by omega) _, hc.mine _, owns_same ho fun g hg => setRow_other _ _ _ _ fun e => own_not ho hc (by rw [hg, e]), far, below_setRow (Touch.below k.below ht (fun g hg => by have := (owns_lt k.own hg.symm).1; omega) k.below.size) (by omega) _⟩
theorem Ac.tell {W w : World} {z : Nat} {l r m : Lg} {n : Nat} {M : List En} (k : Ac W w z l r m n M) (g : Lg) : Ac W (w.setRow (W.heap.size + 1) (lgC g)) z l g m n M := by
  have far := k.far
  exact ⟨k.box.over (by omega) _, k.res.mine g, k.cur.over (by omega) _, owns_same k.own fun x hx => setRow_other _ _ _ _ (by have := (owns_lt k.own hx).1; omega), far, below_setRow k.below (by omega) _⟩
theorem Ac.lok {W w : World} {z : Nat} {l r m : Lg} {n : Nat} {M : List En} (k : Ac W w z l r m n M) : LOk m := by
  obtain ⟨p, c, e⟩ := owns_shape k.own
  exact ⟨p, n, c, e⟩
/-- A copy as a variable. -/
theorem Ac.start {W w w' : World} {l r : Lg} {L : List En} {q : Option Addr} {c : Nat} (k : Lr W w l r) (ho : OwnE w' w.heap.size (.slice q L.length c) L) (hb : Below w.heap.size w w') : Ac W (w'.alloc (lgO { l with lv := .slice q L.length c })) w'.heap.size l r { l with lv := .slice q L.length c } L.length L := by
  have h := k.next hb
  exact ⟨h.box.next (below1 _ _), h.res.next (below1 _ _), LBox.new _ _, owns_base (owns_below ho (below1 _ _)) k.res.lt, h.res.lt, (h.next (below1 _ _)).below⟩
set_option maxHeartbeats 4000000 in
theorem radd_any (l : Lg) (L E : List En) (q : Option Addr) (c : Nat) (W : World) (hl : EAt W l.lv L) (he : EAt W (.slice q E.length c) E) (hz : ∀ e ∈ L, e.i.data.size ≤ maxLen) (hz2 : ∀ e ∈ E, e.i.data.size ≤ maxLen) (hn : L.length * 64 ≤ 140737488355328) (hs : L.length + E.length ≤ 9223372036854775807) :
    Calls Try.prog 26 #[lgV l, .slice q E.length c] W fun r W' => ∃ r', r = .returned (.tuple #[lgV r', .int .i64 (addE l L E)]) ∧ AddR W W' l r' (L ++ E) (addE l L E) ∧ Below W.heap.size W W' := by
  obtain ⟨p, d, hq⟩ := hl.is
  obtain ⟨base, bt, s, lv⟩ := l
  dsimp only at hl hq
  subst hq
  have HL := Lib.hid hl
  have HE := Lib.hid he
  have CY := Lib.hid (fun w (hw : Below W.heap.size W w) => rcopy_any ⟨base, bt, s, .slice p L.length d⟩ L w (hl.below hw) hn)
  have HZ := Lib.hid (show ∀ e ∈ L ++ E, e.i.data.size ≤ maxLen from fun e h => (List.mem_append.1 h).elim (hz e) (hz2 e))
  have HLEN := Lib.hid (show (L ++ E).length = L.length + E.length from List.length_append)
  clear hl he hz hz2
  obtain ⟨R, hR⟩ : ∃ R, addE ⟨base, bt, s, .slice p L.length d⟩ L E = R := ⟨_, rfl⟩
  rw [hR]
  have HR := Lib.hid hR
  clear hR
  go_enter Try.func26, Try.ntmps26
  go_upto_region 1 with (fail)
  have X := Lib.hid (show Lr W ((W.alloc (lgO ⟨base, bt, s, .slice p L.length d⟩)).alloc (Obj.cells zlgC 27)) ⟨base, bt, s, .slice p L.length d⟩ zeroLg from Lr.start W _ zeroLg)
  generalize (W.alloc (lgO ⟨base, bt, s, .slice p L.length d⟩)).alloc (Obj.cells zlgC 27) = w0 at *
  by_cases h5 : 512 < L.length + E.length
  · have HE4 := Lib.hid (show addE ⟨base, bt, s, .slice p L.length d⟩ L E = 4 from if_pos (by omega))
    have X2 := Lib.hid (X.out.tell zeroLg)
    by_cases h6 : 512 < E.length
    · have q6 : decide ((512 : Int) < (E.length : Int)) = true := decide_eq_true (by omega)
      go_wp2_with (first | (with_reducible refine wpList_load_wanted rfl rfl X.out.box.list rfl ?_) | (with_reducible refine wpList_store_by rfl rfl X.out.res.zero rfl rfl ?_) | fail)
      exact bodyPost_ret (v := .tuple #[lgV zeroLg, .int .i64 4]) (results_lg Try.results26 _ _ (W.heap.size + 1) _ _ rfl X2.out.res rfl) rfl ⟨zeroLg, by rw [← HR.out, HE4.out], .inr ⟨by rw [← HR.out, HE4.out]; decide, rfl⟩, X2.out.below⟩
    · have q6 : decide ((512 : Int) < (E.length : Int)) = false := decide_eq_false (by omega)
      have q7 : decide ((512 : Int) - (E.length : Int) < (L.length : Int)) = true := decide_eq_true (by omega)
      go_wp2_with (first | (with_reducible refine wpList_load_wanted rfl rfl X.out.box.list rfl ?_) | (with_reducible refine wpList_store_by rfl rfl X.out.res.zero rfl rfl ?_) | fail)
      exact bodyPost_ret (v := .tuple #[lgV zeroLg, .int .i64 4]) (results_lg Try.results26 _ _ (W.heap.size + 1) _ _ rfl X2.out.res rfl) rfl ⟨zeroLg, by rw [← HR.out, HE4.out], .inr ⟨by rw [← HR.out, HE4.out]; decide, rfl⟩, X2.out.below⟩
  · have q6 : decide ((512 : Int) < (E.length : Int)) = false := decide_eq_false (by omega)
    have q7 : decide ((512 : Int) - (E.length : Int) < (L.length : Int)) = false := decide_eq_false (by omega)
    have HE4 := Lib.hid (show addE ⟨base, bt, s, .slice p L.length d⟩ L E = chkF ⟨base, bt, s, .slice p L.length d⟩ (L ++ E) from if_neg (by omega))
    have CY := Lib.hid (CY.out w0 X.out.below)
    go_upto_region 4 with (first | (with_reducible refine wpList_load_wanted rfl rfl X.out.box.list rfl ?_) | (with_reducible refine wpList_load_by rfl rfl X.out.box.load rfl ?_) | (go_at_call 24; (with_reducible refine CY.out.mono ?_); rintro r wb ⟨q0, c0, rfl, ho, kk⟩; have HF := Lib.hid (fun w => lg_new w ⟨base, bt, s, .slice q0 L.length c0⟩ ⟨_, _, _, rfl⟩); have A := Lib.hid (Ac.start X.out ho kk); clear ho kk) | (with_reducible refine wpList_store_by rfl rfl (HF.out _) rfl rfl ?_) | fail)
    generalize wb.heap.size = z at *
    generalize wb.alloc (lgO ⟨base, bt, s, .slice q0 L.length c0⟩) = w3 at *
    obtain ⟨ii, hi, hzz, hss, hby⟩ := info36
    obtain ⟨q1, c1, w4, hrun, ho2, ht⟩ := app_row (ty := 25) Try.underlying25 hi hzz hss hby rfl (by omega) A.out.own (HE.out.below A.out.below) (eC_one _) (by unfold maxLen; omega) (by omega) (by have := A.out.res.lt; omega)
    rw [← eC_append] at ho2
    obtain ⟨hc, ha⟩ := A.out.put ho2 ht
    have HRR := Lib.hid hrun
    have HC := Lib.hid hc
    have HA := Lib.hid ha
    clear hrun ho2 ht hc ha hi hzz hss hby
    obtain ⟨N, hN⟩ : ∃ N, L.length + E.length = N := ⟨_, rfl⟩
    rw [hN] at HRR HA
    go_upto_region 5 with (first | (with_reducible refine wpList_load_by rfl rfl A.out.cur.list rfl ?_) | (at_builtin; (refine wpList_append_run rfl (.tmp 24) (.tmp 25) 25 rfl _ _ _ rfl rfl _ HRR.out ?_)) | (with_reducible refine wpList_store_by rfl rfl (HC.out.putList _ _ _) rfl rfl ?_) | fail)
    clear A HC HRR
    generalize (w4.setRow z (lgC ⟨base, bt, s, .slice q1 N c1⟩)) = w6 at *
    have CK := Lib.hid (show ∀ w, Below w6.heap.size w6 w → Calls Try.prog 10 #[lgV ⟨base, bt, s, .slice q1 N c1⟩] w fun r W' => r = .returned (.int .i64 R) ∧ Below w.heap.size w W' from fun w hw => by
      have h := rcheck_any ⟨base, bt, s, .slice q1 N c1⟩ (L ++ E) w (by
        have := owns_below HA.out.own hw
        show Reads w (.slice q1 N c1) 13 (L ++ E).length _
        rw [HLEN.out, hN]
        exact reads_of_owns this) HZ.out
      rwa [chk_lv base bt s _ (.slice p L.length d), ← HE4.out, HR.out] at h)
    have hRR : R = 0 ∨ R = 190 := by
      have := HR.out
      rw [HE4.out] at this
      unfold chkF at this
      split at this <;> omega
    have HNN := Lib.hid hN
    try simp only [put_none]
    rcases hRR with rfl | rfl
    · go_upto_region 8 with (first | (with_reducible refine wpList_load_by rfl rfl HA.out.cur.load rfl ?_) | (go_at_call 10; (with_reducible refine (CK.out _ (Below.refl _ _)).mono ?_); rintro r wc ⟨rfl, kk⟩; have A := Lib.hid (HA.out.next kk); clear kk) | fail)
      have X5 := Lib.hid (A.out.tell ⟨base, bt, s, .slice q1 N c1⟩)
      have HF := Lib.hid (A.out.res.full ⟨base, bt, s, .slice q1 N c1⟩ ⟨_, _, _, rfl⟩)
      go_wp2_with (first | (with_reducible refine wpList_load_by rfl rfl A.out.cur.load rfl ?_) | (with_reducible refine wpList_store_by rfl rfl HF.out rfl rfl ?_) | fail)
      exact bodyPost_ret (v := .tuple #[lgV ⟨base, bt, s, .slice q1 N c1⟩, .int .i64 0]) (results_lg Try.results26 _ _ (W.heap.size + 1) _ _ rfl X5.out.res rfl) rfl ⟨_, rfl, .inl ⟨rfl, .slice q1 N c1, rfl, by
        show World.ownsRow _ _ 36 13 _ (L ++ E).length _
        rw [HLEN.out, HNN.out]
        exact owns_base X5.out.own (by omega)⟩, X5.out.below⟩
    · go_upto_region 7 with (first | (with_reducible refine wpList_load_by rfl rfl HA.out.cur.load rfl ?_) | (go_at_call 10; (with_reducible refine (CK.out _ (Below.refl _ _)).mono ?_); rintro r wc ⟨rfl, kk⟩; have A := Lib.hid (HA.out.next kk); clear kk) | fail)
      have X5 := Lib.hid (A.out.tell zeroLg)
      go_wp2_with (first | (with_reducible refine wpList_store_by rfl rfl A.out.res.zero rfl rfl ?_) | fail)
      exact bodyPost_ret (v := .tuple #[lgV zeroLg, .int .i64 190]) (results_lg Try.results26 _ _ (W.heap.size + 1) _ _ rfl X5.out.res rfl) rfl ⟨_, rfl, .inr ⟨by decide, rfl⟩, X5.out.below⟩
end Go.Proofs.Ythlghmechldegaa
