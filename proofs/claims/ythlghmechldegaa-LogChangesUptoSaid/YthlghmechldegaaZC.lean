/- Shorten, both sides. -/
import Derived.Test.YthlghmechldegaaZB
namespace Go.Proofs.Ythlghmechldegaa
open Go.RowKit Go.Deep Go.Joins
set_option maxRecDepth 100000
theorem eC_drop (L : List En) (n : Nat) : eC (L.drop n) = (eC L).drop (n * 13) := by
  by_cases h : n ≤ L.length
  · have e : eC L = eC (L.take n) ++ eC (L.drop n) := by rw [← eC_append, List.take_append_drop]
    have hl : (eC (L.take n)).length = n * 13 := by rw [eC_length, List.length_take, Nat.min_eq_left h]
    rw [e, ← hl, List.drop_left]
  · rw [List.drop_eq_nil_of_le (by omega), List.drop_eq_nil_of_le (by rw [eC_length]; omega)]
    rfl
theorem elem25 : Try.prog.elem 25 = 36 := by kernel_rfl
theorem size_of36 (w : World) : (sizeOf 36).run Try.prog w = .ok 13 w := by
  cases hq : Try.prog.info? 36 with
  | none => have := size36; simp [hq] at this
  | some i =>
    have h13 : i.size = 13 := by have := size36; simpa [hq] using this
    simp [sizeOf, typeInfo, Sem.run_bind, hq, h13, Result.andThen]
/-- The rest of a list from a place on. -/
theorem slice_lo {W : World} {q : Option Addr} {c : Nat} {L : List En} (h : EAt W (.slice q L.length c) L) (n : Nat) (hn : n ≤ L.length) (k : IntKind) :
    ∃ q', (∀ w : World, (Instr.sliceAt 25 (.slice q L.length c) (some (.int k (n : Int))) none none).run Try.prog w = .ok (.slice q' (L.length - n) (c - n)) w) ∧ EAt W (.slice q' (L.length - n) (c - n)) (L.drop n) := by
  have hu : Try.prog.underlying 25 = some (.slice (Try.prog.elem 25)) := by rw [elem25]; exact Try.underlying25
  obtain ⟨hc1, hc2⟩ := h.cap
  refine ⟨if c = n then q else q.map (·.add (n * 13)), fun w => ?_, ?_⟩
  · rw [run_sliceAt_slice w 25 _ _ _ _ hu, run_slice_l w 25 q L.length c hu k n (by omega) (by omega), elem25, size_of36]
    simp only [Result.andThen, sliced, Int.toNat_natCast]
  · have hl : (L.drop n).length = L.length - n := List.length_drop
    refine ⟨eC_length _, ?_⟩
    rw [hl]
    rcases h.2 with ⟨e, hz⟩ | ⟨a, cap, e, h1, h2, hcell⟩
    · simp only [Value.slice.injEq] at e
      obtain ⟨rfl, _, rfl⟩ := e
      left
      refine ⟨?_, by omega⟩
      have : n = 0 := by omega
      subst this
      simp [hz]
    · simp only [Value.slice.injEq, true_and] at e
      obtain ⟨rfl, rfl⟩ := e
      right
      by_cases hcn : c = n
      · rw [if_pos hcn]
        refine ⟨a, c - n, rfl, by omega, by omega, fun j u hu => ?_⟩
        have h0 : L.drop n = [] := List.drop_eq_nil_of_le (by omega)
        rw [h0] at hu
        simp [eC] at hu
      · rw [if_neg hcn]
        refine ⟨a.add (n * 13), c - n, rfl, by omega, by omega, fun j u hu => ?_⟩
        rw [add_add']
        apply hcell
        rw [eC_drop, List.getElem?_drop] at hu
        exact hu
theorem exec_slo {ρ : Operand → Value} {o : Oper} {t : TypeId} {x lo : Operand} {v u r : Value} {w : World} (ho : o.op = .slice t x (some lo) none none) (hx : ρ x = v) (hl : ρ lo = u) (hrun : (Instr.sliceAt t v (some u) none none).run Try.prog w = .ok r w) : (execOp ρ o).run Try.prog w = .ok (.value r) w := by
  unfold execOp
  simp [ho, hx, hl, hrun, Result.andThen]
theorem build_log (w : World) (a b : Int) (f : Nat → Bool) (q : Option Addr) (n c : Nat) : (Instr.build 27 #[(0, .int .u64 a), (1, .int .u64 b), (2, setV f), (3, .slice q n c)]).run Try.prog w = .ok (lgV ⟨a, b, f, .slice q n c⟩) w := by
  kernel_rfl
theorem exec_build4 {ρ : Operand → Value} {o : Oper} {t : TypeId} {x0 x1 x2 x3 : Operand} {v0 v1 v2 v3 r : Value} {w : World} (ho : o.op = .build t #[(0, x0), (1, x1), (2, x2), (3, x3)]) (hrun : (Instr.build t #[(0, v0), (1, v1), (2, v2), (3, v3)]).run Try.prog w = .ok r w) (h0 : ρ x0 = v0) (h1 : ρ x1 = v1) (h2 : ρ x2 = v2) (h3 : ρ x3 = v3) : (execOp ρ o).run Try.prog w = .ok (.value r) w := by
  unfold execOp
  simp [ho, h0, h1, h2, h3, hrun, Result.andThen]
theorem wpList_execn {w : World} {ops : Array Oper} {rest : List Oper} {o : Oper} {a : Act} {Q : Exit → Act → World → Prop} {r : Value} (hgd : o.guard = none) (hrun : (execOp a.eval o).run Try.prog w = .ok (.value r) w)
    (h : wpList Try.prog ops Q rest (a.put o.dst r) w) : wpList Try.prog ops Q (o :: rest) a w := by
  refine wpList_plain hgd fun K hK => ?_
  unfold Oper.wp
  rw [hrun]
  exact hK _ _ h
theorem true_calls2 {f : FuncId} {args : Array Value} {w : World} {v : Value} (h : Calls Try.prog f args w fun e w' => e = .returned v ∧ Below w.heap.size w w') : Calls Try.prog f args w fun e w' => ∃ u, e = .returned u ∧ (u = v ∧ Below w.heap.size w w') :=
  h.mono fun _ _ ⟨h1, h2⟩ => ⟨_, h1, rfl, h2⟩
theorem clone_calls {f : FuncId} {args : Array Value} {w : World} {n : Nat} {xs : List Value} (h : Calls Try.prog f args w fun r W' => ∃ q c, r = .returned (.slice q n c) ∧ World.ownsRow W' w.heap.size 36 13 (.slice q n c) n xs ∧ Below w.heap.size w W') : Calls Try.prog f args w fun e w' => ∃ v, e = .returned v ∧ (∃ q c, v = .slice q n c ∧ World.ownsRow w' w.heap.size 36 13 (.slice q n c) n xs ∧ Below w.heap.size w w') :=
  h.mono fun _ _ ⟨q, c, h1, h2, h3⟩ => ⟨_, h1, q, c, rfl, h2, h3⟩
/-- What Shorten tells. -/
def shE (l : Lg) (L : List En) (i : Int) : Int := if (termV l L i).2 = true then 0 else 190
/-- The log that it leaves, its list aside. -/
def shL (l : Lg) (L : List En) (i : Int) : Lg := ⟨i, (termV l L i).1, memV l L i, .slice none 0 0⟩
set_option maxHeartbeats 4000000 in
theorem short_any (l : Lg) (L : List En) (i : Int) (W : World) (hl : EAt W l.lv L) (h0 : 0 ≤ l.base) (h1 : l.base ≤ 1152921504606846976) (hi0 : 0 ≤ i) (hi1 : i < 18446744073709551616) (hlen : L.length ≤ 1152921504606846976) (hn : L.length * 64 ≤ 140737488355328) :
    Calls Try.prog 30 #[lgV l, .int .u64 i] W fun r W' => ∃ r', r = .returned (.tuple #[lgV r', .int .i64 (shE l L i)]) ∧ AddR W W' (shL l L i) r' (L.drop (upN l L i)) (shE l L i) ∧ Below W.heap.size W W' := by
  have CT := Lib.hid (fun w (hw : Below W.heap.size W w) => termat_any l L i w (hl.below hw) h0 h1 hi0 hi1 hlen)
  have CU := Lib.hid (fun w (hw : Below W.heap.size W w) => upto_any l L i w (hl.below hw) h0 h1 hi0 hi1 hlen)
  have CM := Lib.hid (fun w (hw : Below W.heap.size W w) => members_any l L i w (hl.below hw) h0 h1 hi0 hi1 hlen)
  have hup := upN_le l L i
  obtain ⟨p, d, hq⟩ := hl.is
  obtain ⟨base, bt, s, lv⟩ := l
  dsimp only at hl hq h0 h1
  subst hq
  unfold shE shL
  generalize (termV ⟨base, bt, s, .slice p L.length d⟩ L i).1 = t at *
  generalize memV ⟨base, bt, s, .slice p L.length d⟩ L i = ms at *
  generalize upN ⟨base, bt, s, .slice p L.length d⟩ L i = n at *
  obtain ⟨p', hsl, hd⟩ := slice_lo hl n hup .i64
  have HSL := Lib.hid hsl
  have hdl : (L.drop n).length = L.length - n := List.length_drop
  have CC := Lib.hid (show ∀ w, Below W.heap.size W w → Calls Try.prog 42 #[.slice p' (L.length - n) (d - n)] w (fun r W' => ∃ q c, r = .returned (.slice q (L.length - n) c) ∧ World.ownsRow W' w.heap.size 36 13 (.slice q (L.length - n) c) (L.length - n) (eC (L.drop n)) ∧ Below w.heap.size w W') from fun w hw => by
    have h := clone_any p' (d - n) (L.drop n) w (by rw [hdl]; exact hd.below hw) (by rw [hdl]; omega)
    unfold OwnE at h
    rwa [hdl] at h)
  have HDL := Lib.hid hdl
  clear hl h0 h1 hi0 hi1 hsl hd hdl
  rcases Bool.eq_false_or_eq_true (termV ⟨base, bt, s, .slice p L.length d⟩ L i).2 with hb | hb
  · rw [hb] at CT
    rw [if_pos hb]
    clear hb
    generalize L.length = N at *
    go_enter Try.func30, Try.ntmps30
    go_upto_region 1 with (fail)
    have X := Lib.hid (show Lr W ((W.alloc (lgO ⟨base, bt, s, .slice p N d⟩)).alloc (Obj.cells zlgC 27)) ⟨base, bt, s, .slice p N d⟩ zeroLg from Lr.start W _ zeroLg)
    generalize (W.alloc (lgO ⟨base, bt, s, .slice p N d⟩)).alloc (Obj.cells zlgC 27) = w0 at *
    go_upto_region 4 with (first | (with_reducible refine wpList_load_by rfl rfl X.out.box.load rfl ?_) | (go_at_call 15; (with_reducible refine (CT.out _ X.out.below).mono ?_); rintro r wb ⟨rfl, kk⟩; have X := Lib.hid (X.out.next kk); clear kk) | fail)
    refine dr (fun w => LBox w W.heap.size ⟨base, bt, s, .slice p N d⟩) fun w3 hzz => ?_
    have X := Lib.hid (X.out.next hzz)
    clear hzz
    have hS := X.out.box
    refine tk 0 hS ?_
    refine tl 1 hS (fun w hw => LBox.list hw) ?_
    refine tl 2 hS (fun w hw => LBox.load hw) ?_
    refine tk 3 hS ?_
    refine hc 4 (true_calls2 (CU.out _ X.out.below)) fun v wu hr => ?_
    obtain ⟨rfl, kk⟩ := hr
    refine ⟨hS.next kk, fun hS => ?_⟩
    have X := Lib.hid (X.out.next kk)
    clear kk
    refine tk 5 hS ?_ (hy := .inl ⟨by kernel_rfl, fun w _ => exec_slo rfl rfl rfl (HSL.out w)⟩)
    refine hc 6 (clone_calls (CC.out _ X.out.below)) fun v wc hr => ?_
    obtain ⟨q, c, rfl, ho, kk⟩ := hr
    refine ⟨hS.next kk, fun hS => ?_⟩
    have HO := Lib.hid (owns_base ho X.out.res.lt)
    have X := Lib.hid (X.out.next kk)
    clear ho kk
    refine tk 7 hS ?_
    refine wpAnyH_done (by kernel_rfl) ?_ _
    have HBL := Lib.hid (fun w => build_log w i t ms q (N - n) c)
    have HF := Lib.hid (fun (w : World) (l : Lg) (k : LBox w (W.heap.size + 1) l) => k.full ⟨i, t, ms, .slice q (N - n) c⟩ ⟨_, _, _, rfl⟩)
    go_wp2_with (first | (with_reducible refine wpList_load_by rfl rfl X.out.box.load rfl ?_) | (go_at_call 17; (with_reducible refine (CM.out _ X.out.below).mono ?_); rintro r wd ⟨rfl, kk⟩; have X := Lib.hid (X.out.next kk); have HO := Lib.hid (owns_below HO.out kk); clear kk) | (with_reducible refine wpList_execn rfl (exec_build4 rfl (HBL.out _) rfl rfl rfl rfl) ?_) | (with_reducible refine wpList_store_by rfl rfl (HF.out _ _ X.out.res) rfl rfl ?_) | fail)
    have X5 := Lib.hid (X.out.tell ⟨i, t, ms, .slice q (N - n) c⟩)
    have HO5 := Lib.hid (show World.ownsRow (wd.setRow (W.heap.size + 1) (lgC ⟨i, t, ms, .slice q (N - n) c⟩)) (W.heap.size + 2) 36 13 (.slice q (N - n) c) (N - n) (eC (L.drop n)) from owns_same HO.out fun g hg => setRow_other _ _ _ _ (by have := (owns_lt HO.out hg).1; omega))
    exact bodyPost_ret (v := .tuple #[lgV ⟨i, t, ms, .slice q (N - n) c⟩, .int .i64 0]) (results_lg Try.results30 _ _ (W.heap.size + 1) _ _ rfl X5.out.res rfl) rfl ⟨_, rfl, .inl ⟨rfl, _, rfl, by
      unfold OwnE
      rw [HDL.out]
      exact owns_base HO5.out (by omega)⟩, X5.out.below⟩
  · rw [hb] at CT
    rw [if_neg (by rw [hb]; simp)]
    clear hb
    generalize L.length = N at *
    go_enter Try.func30, Try.ntmps30
    go_upto_region 1 with (fail)
    have X := Lib.hid (show Lr W ((W.alloc (lgO ⟨base, bt, s, .slice p N d⟩)).alloc (Obj.cells zlgC 27)) ⟨base, bt, s, .slice p N d⟩ zeroLg from Lr.start W _ zeroLg)
    generalize (W.alloc (lgO ⟨base, bt, s, .slice p N d⟩)).alloc (Obj.cells zlgC 27) = w0 at *
    go_upto_region 2 with (first | (with_reducible refine wpList_load_by rfl rfl X.out.box.load rfl ?_) | (go_at_call 15; (with_reducible refine (CT.out _ X.out.below).mono ?_); rintro r wb ⟨rfl, kk⟩; have X := Lib.hid (X.out.next kk); clear kk) | fail)
    have X5 := Lib.hid (X.out.tell zeroLg)
    go_wp2_with (first | (with_reducible refine wpList_store_by rfl rfl X.out.res.zero rfl rfl ?_) | fail)
    exact bodyPost_ret (v := .tuple #[lgV zeroLg, .int .i64 190]) (results_lg Try.results30 _ _ (W.heap.size + 1) _ _ rfl X5.out.res rfl) rfl ⟨_, rfl, .inr ⟨by decide, rfl⟩, X5.out.below⟩
end Go.Proofs.Ythlghmechldegaa
