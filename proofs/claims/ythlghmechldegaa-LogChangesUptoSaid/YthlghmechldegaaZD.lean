/- Shorten of the reference. -/
import Derived.Test.YthlghmechldegaaZC
namespace Go.Proofs.Ythlghmechldegaa
open Go.RowKit Go.Deep Go.Joins
set_option maxRecDepth 100000
theorem exec_app {ρ : Operand → Value} {o : Oper} {x y : Operand} {t : TypeId} {v u r : Value} {w w' : World} (ho : o.op = .call { callee := .builtin .append, args := #[x, y], argTypes := #[t, t] }) (hrun : (Builtin.append_ #[t, t] o.type #[v, u]).run Try.prog w = .ok r w') (hx : ρ x = v) (hy : ρ y = u) : (execOp ρ o).run Try.prog w = .ok (.value r) w' := by
  simp [execOp, ho, resolve, invoke, builtin, hx, hy, hrun, Result.andThen]
theorem exec_bs0 {ρ : Operand → Value} {o : Oper} (w : World) (ho : o.op = .buildSlice 25 0 #[]) : (execOp ρ o).run Try.prog w = .ok (.value (.slice (some ⟨w.heap.size, 0, none⟩) 0 0)) (w.alloc (.cells #[] 36)) := by
  have h : (Instr.buildSlice 25 0 #[]).run Try.prog w = .ok (.slice (some ⟨w.heap.size, 0, none⟩) 0 0) (w.alloc (.cells #[] 36)) := by kernel_rfl
  unfold execOp
  simp [ho, h, Result.andThen]
/-- append of what is read to an empty row of one's own. -/
theorem app_emp {w : World} {B g : Nat} {q : Option Addr} {n c : Nat} {M : List En} (hg : w.heap[g]? = some (.cells #[] 36 (0, 0))) (hB : B ≤ g) (h : Reads w (.slice q n c) 13 n (eC M)) (hn : n * 64 ≤ 140737488355328) :
    ∃ q2 c2 w2, (Builtin.append_ #[25, 25] 25 #[.slice (some ⟨g, 0, none⟩) 0 0, .slice q n c]).run Try.prog w = .ok (.slice q2 n c2) w2 ∧ World.ownsRow w2 B 36 13 (.slice q2 n c2) n (eC M) ∧ Touch w w2 (fun k => k = g) := by
  obtain ⟨i, hi, hz, hs, hby⟩ := info36
  have hlt : g < w.heap.size := (Array.getElem?_eq_some_iff.1 hg).1
  obtain ⟨q2, c2, w2, hrun, ho2, ht⟩ := app_row (ty := 25) Try.underlying25 hi hz hs hby rfl (by omega) (owns_empty (B := B) (size := 13) hg hB) h (eC_one _) (by unfold maxLen; omega) (by omega) (by omega)
  rw [Nat.zero_add, List.nil_append] at ho2
  rw [Nat.zero_add] at hrun
  exact ⟨q2, c2, w2, hrun, ho2, ht.mono fun k _ hk => by simpa [Value.ownBlock] using hk⟩
theorem Lr.touch {W w w2 : World} {l r : Lg} {g : Nat} (k : Lr W w l r) (hg : W.heap.size + 2 ≤ g) (ht : Touch w w2 (fun k => k = g)) : Lr W w2 l r :=
  ⟨(ht.block _ k.box.lt (by omega)).trans k.box, (ht.block _ k.res.lt (by omega)).trans k.res, Touch.below k.below ht (fun x hx => by subst hx; omega) k.below.size⟩
section
variable {P : Program} {md : Region.Mode} {ops : Array Oper} {Q : Exit → Act → World → Prop} {S : World → Prop} {fuel : Nat} {listed : Array Bool} {a a' : Act} {w w' : World} {o : Oper} {v : Value}
/-- An operation that alone may come up and makes memory. -/
theorem ho' (i : Nat) (hrun : (execOp a.eval o).run P w = .ok (.value v) w') (hS : S w') (h : S w' → wpAnyH P md ops Q S fuel (listed.setIfInBounds i true) (a.put o.dst v) w') (hi : ops[i]? = some o := by (simp only [nths]; exact rfl)) (hr : Region.ready md ops listed = [i] := by kernel_rfl) (hg : o.guard = none := by rfl) : wpAnyH P md ops Q S (fuel + 1) listed a w :=
  held_op hr hi hg hrun hS (h hS)
/-- One of several. -/
theorem al' {rs : List Nat} (i : Nat) (hrun : (execOp a.eval o).run P w = .ok (.value v) w') (hS : S w') (h : S w' → wpAnyH P md ops Q S fuel (listed.setIfInBounds i true) (a.put o.dst v) w') (hs : AllReadyH P md ops Q S fuel listed a w rs) (hi : ops[i]? = some o := by (simp only [nths]; exact rfl)) (hg : o.guard = none := by rfl) : AllReadyH P md ops Q S fuel listed a w (i :: rs) :=
  cons_op hi hg hrun hS (h hS) hs
end
set_option maxHeartbeats 8000000 in
theorem rshort_any (l : Lg) (L : List En) (i : Int) (W : World) (hl : EAt W l.lv L) (h0 : 0 ≤ l.base) (h1 : l.base ≤ 1152921504606846976) (hi0 : 0 ≤ i) (hi1 : i < 18446744073709551616) (hlen : L.length ≤ 1152921504606846976) (hn : L.length * 64 ≤ 140737488355328) :
    Calls Try.prog 31 #[lgV l, .int .u64 i] W fun r W' => ∃ r', r = .returned (.tuple #[lgV r', .int .i64 (shE l L i)]) ∧ AddR W W' (shL l L i) r' (L.drop (upN l L i)) (shE l L i) ∧ Below W.heap.size W W' := by
  have CT := Lib.hid (fun w (hw : Below W.heap.size W w) => rtermat_any l L i w (hl.below hw) h0 h1 hi0 hi1 hlen)
  have CM := Lib.hid (fun w (hw : Below W.heap.size W w) => rmembers_any l L i w (hl.below hw) h0 h1 hi0 hi1 hlen)
  have hup := upN_le l L i
  have HUP := Lib.hid (show (termV l L i).2 = true → i - l.base = (upN l L i : Int) from fun h => by
    unfold termV at h
    unfold upN
    split at h
    · rename_i e
      rw [if_pos (by omega)]
      omega
    · unfold atV at h
      split at h
      · rename_i hh
        rw [if_neg (by omega)]
        omega
      · cases h)
  obtain ⟨p, d, hq⟩ := hl.is
  obtain ⟨base, bt, s, lv⟩ := l
  dsimp only at hl hq h0 h1 HUP
  subst hq
  unfold shE shL
  generalize (termV ⟨base, bt, s, .slice p L.length d⟩ L i).1 = t at *
  generalize memV ⟨base, bt, s, .slice p L.length d⟩ L i = ms at *
  generalize upN ⟨base, bt, s, .slice p L.length d⟩ L i = n at *
  obtain ⟨p', hsl, hd⟩ := slice_lo hl n hup .u64
  have hdl : (L.drop n).length = L.length - n := List.length_drop
  have HD := Lib.hid (show Reads W (.slice p' (L.length - n) (d - n)) 13 (L.length - n) (eC (L.drop n)) from by have := hd; unfold EAt at this; rwa [hdl] at this)
  have HN64 := Lib.hid (show (L.length - n) * 64 ≤ 140737488355328 from by omega)
  have HDL := Lib.hid hdl
  have HSL := Lib.hid hsl
  clear hl hsl hd hdl hn
  rcases Bool.eq_false_or_eq_true (termV ⟨base, bt, s, .slice p L.length d⟩ L i).2 with hb | hb
  · have hx := HUP.out hb
    rw [← show IntKind.u64.wrap (i - base) = (n : Int) from by rw [IntKind.wrap_u64]; omega] at HSL
    rw [hb] at CT
    rw [if_pos hb]
    clear hb HUP
    have hib : base ≤ i := by omega
    clear hx
    generalize L.length = N at *
    go_enter Try.func31, Try.ntmps31
    go_upto_region 1 with (fail)
    have X := Lib.hid (show Lr W ((W.alloc (lgO ⟨base, bt, s, .slice p N d⟩)).alloc (Obj.cells zlgC 27)) ⟨base, bt, s, .slice p N d⟩ zeroLg from Lr.start W _ zeroLg)
    generalize (W.alloc (lgO ⟨base, bt, s, .slice p N d⟩)).alloc (Obj.cells zlgC 27) = w0 at *
    go_upto_region 4 with (first | (with_reducible refine wpList_load_by rfl rfl X.out.box.load rfl ?_) | (go_at_call 16; (with_reducible refine (CT.out _ X.out.below).mono ?_); rintro r wb ⟨rfl, kk⟩; have X := Lib.hid (X.out.next kk); clear kk) | fail)
    refine dr (fun w => LBox w W.heap.size ⟨base, bt, s, .slice p N d⟩) fun w3 hzz => ?_
    have X := Lib.hid (X.out.next hzz)
    clear hzz
    have hS := X.out.box
    refine tk 0 hS ?_
    refine tk 1 hS ?_
    refine tl 2 hS (fun w hw => LBox.load hw) ?_
    refine tk 3 hS ?_
    refine tk 6 hS ?_
    refine tl 7 hS (fun w hw => LBox.list hw) ?_
    refine tk 8 hS ?_
    refine tk 9 hS ?_
    refine tl 10 hS (fun w hw => LBox.base hw) ?_
    refine tk 11 hS ?_
    refine tk 12 hS ?_ (hy := .inl ⟨by kernel_rfl, fun w _ => exec_slo rfl rfl rfl (HSL.out w)⟩)
    refine two 4 5 (cc 4 (true_calls2 (CM.out _ X.out.below)) (fun v wu hr => ?_) (al' 5 (exec_bs0 _ rfl) (hS.next (below1 _ _)) (fun hS => ?_) AllReadyH.nil))
    · obtain ⟨rfl, kk⟩ := hr
      refine ⟨hS.next kk, fun hS => ?_⟩
      have X := Lib.hid (X.out.next kk)
      clear kk
      refine ho' 5 (exec_bs0 _ rfl) (hS.next (below1 _ _)) fun hS => ?_
      have HG := Lib.hid (heap_alloc_new wu (.cells #[] 36))
      have HGB := Lib.hid (show W.heap.size + 2 ≤ wu.heap.size from X.out.res.lt)
      have X := Lib.hid (X.out.next (below1 wu (.cells #[] 36)))
      generalize wu.heap.size = g at *
      generalize wu.alloc (.cells #[] 36) = w5 at *
      obtain ⟨q, c, w7, hrun, ho, ht⟩ := app_emp HG.out HGB.out (HD.out.below X.out.below) HN64.out
      refine ho' 13 (exec_app (v := .slice (some ⟨g, 0, none⟩) 0 0) (u := .slice p' (N - n) (d - n)) rfl hrun rfl rfl) ((ht.block _ hS.lt (by have := X.out.res.lt; have := HGB.out; omega)).trans hS) fun hS => ?_
      have HO := Lib.hid ho
      have X := Lib.hid (X.out.touch HGB.out ht)
      clear hrun ho ht
      refine tk 14 hS ?_ (hy := .inl ⟨by kernel_rfl, fun w _ => exec_build4 rfl (build_log w i t ms q (N - n) c) rfl rfl rfl rfl⟩)
      have X5 := Lib.hid (X.out.tell ⟨i, t, ms, .slice q (N - n) c⟩)
      have HO5 := Lib.hid (show World.ownsRow (w7.setRow (W.heap.size + 1) (lgC ⟨i, t, ms, .slice q (N - n) c⟩)) (W.heap.size + 2) 36 13 (.slice q (N - n) c) (N - n) (eC (L.drop n)) from owns_same HO.out fun g hg => setRow_other _ _ _ _ (by have := (owns_lt HO.out hg).1; omega))
      refine hs 15 (X.out.res.full ⟨i, t, ms, .slice q (N - n) c⟩ ⟨_, _, _, rfl⟩) fun wy hw => ?_
      subst hw
      refine ⟨X5.out.box, fun hS => ?_⟩
      refine tk 16 hS ?_
      refine wpAnyH_done (by kernel_rfl) ?_ _
      go_wp2
      exact bodyPost_ret (v := .tuple #[lgV ⟨i, t, ms, .slice q (N - n) c⟩, .int .i64 0]) (results_lg Try.results31 _ _ (W.heap.size + 1) _ _ rfl X5.out.res rfl) rfl ⟨_, rfl, .inl ⟨rfl, _, rfl, by
        unfold OwnE
        rw [HDL.out]
        exact owns_base HO5.out (by omega)⟩, X5.out.below⟩
    · have HG := Lib.hid (heap_alloc_new w3 (.cells #[] 36))
      have HGB := Lib.hid (show W.heap.size + 2 ≤ w3.heap.size from X.out.res.lt)
      have X := Lib.hid (X.out.next (below1 w3 (.cells #[] 36)))
      generalize w3.heap.size = g at *
      generalize w3.alloc (.cells #[] 36) = w5 at *
      refine hc 4 (true_calls2 (CM.out _ X.out.below)) fun v wu hr => ?_
      obtain ⟨rfl, kk⟩ := hr
      refine ⟨hS.next kk, fun hS => ?_⟩
      have HG := Lib.hid ((kk.block g (Array.getElem?_eq_some_iff.1 HG.out).1).trans HG.out)
      have X := Lib.hid (X.out.next kk)
      clear kk
      obtain ⟨q, c, w7, hrun, ho, ht⟩ := app_emp HG.out HGB.out (HD.out.below X.out.below) HN64.out
      refine ho' 13 (exec_app (v := .slice (some ⟨g, 0, none⟩) 0 0) (u := .slice p' (N - n) (d - n)) rfl hrun rfl rfl) ((ht.block _ hS.lt (by have := X.out.res.lt; have := HGB.out; omega)).trans hS) fun hS => ?_
      have HO := Lib.hid ho
      have X := Lib.hid (X.out.touch HGB.out ht)
      clear hrun ho ht
      refine tk 14 hS ?_ (hy := .inl ⟨by kernel_rfl, fun w _ => exec_build4 rfl (build_log w i t ms q (N - n) c) rfl rfl rfl rfl⟩)
      have X5 := Lib.hid (X.out.tell ⟨i, t, ms, .slice q (N - n) c⟩)
      have HO5 := Lib.hid (show World.ownsRow (w7.setRow (W.heap.size + 1) (lgC ⟨i, t, ms, .slice q (N - n) c⟩)) (W.heap.size + 2) 36 13 (.slice q (N - n) c) (N - n) (eC (L.drop n)) from owns_same HO.out fun g hg => setRow_other _ _ _ _ (by have := (owns_lt HO.out hg).1; omega))
      refine hs 15 (X.out.res.full ⟨i, t, ms, .slice q (N - n) c⟩ ⟨_, _, _, rfl⟩) fun wy hw => ?_
      subst hw
      refine ⟨X5.out.box, fun hS => ?_⟩
      refine tk 16 hS ?_
      refine wpAnyH_done (by kernel_rfl) ?_ _
      go_wp2
      exact bodyPost_ret (v := .tuple #[lgV ⟨i, t, ms, .slice q (N - n) c⟩, .int .i64 0]) (results_lg Try.results31 _ _ (W.heap.size + 1) _ _ rfl X5.out.res rfl) rfl ⟨_, rfl, .inl ⟨rfl, _, rfl, by
        unfold OwnE
        rw [HDL.out]
        exact owns_base HO5.out (by omega)⟩, X5.out.below⟩
  · rw [hb] at CT
    rw [if_neg (by rw [hb]; simp)]
    clear hb
    generalize L.length = N at *
    go_enter Try.func31, Try.ntmps31
    go_upto_region 1 with (fail)
    have X := Lib.hid (show Lr W ((W.alloc (lgO ⟨base, bt, s, .slice p N d⟩)).alloc (Obj.cells zlgC 27)) ⟨base, bt, s, .slice p N d⟩ zeroLg from Lr.start W _ zeroLg)
    generalize (W.alloc (lgO ⟨base, bt, s, .slice p N d⟩)).alloc (Obj.cells zlgC 27) = w0 at *
    go_upto_region 2 with (first | (with_reducible refine wpList_load_by rfl rfl X.out.box.load rfl ?_) | (go_at_call 16; (with_reducible refine (CT.out _ X.out.below).mono ?_); rintro r wb ⟨rfl, kk⟩; have X := Lib.hid (X.out.next kk); clear kk) | fail)
    have X5 := Lib.hid (X.out.tell zeroLg)
    go_wp2_with (first | (with_reducible refine wpList_store_by rfl rfl X.out.res.zero rfl rfl ?_) | fail)
    exact bodyPost_ret (v := .tuple #[lgV zeroLg, .int .i64 190]) (results_lg Try.results31 _ _ (W.heap.size + 1) _ _ rfl X5.out.res rfl) rfl ⟨_, rfl, .inr ⟨by decide, rfl⟩, X5.out.below⟩
end Go.Proofs.Ythlghmechldegaa
