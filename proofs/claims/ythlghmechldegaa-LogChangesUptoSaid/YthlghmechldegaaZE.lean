/- Accept of the program: may entries follow; one entry laid. -/
import Derived.Test.YthlghmechldegaaZD
namespace Go.Proofs.Ythlghmechldegaa
open Go.RowKit Go.Deep Go.Joins
set_option maxRecDepth 100000
/-- May entries follow the place? -/
def folB (l : Lg) (L : List En) (prev pt : Int) : Bool := if (lastV l L).1 < prev then false else if 1099511627776 < prev then false else if prev < l.base then true else (termV l L prev).2 && ((termV l L prev).1 == pt)
/-- One entry laid at a place. -/
def layF (base : Int) (M : List En) (i : Int) (e : En) : List En :=
  if i ≤ base then M else if h : (i - base - 1).toNat < M.length then if M[(i - base - 1).toNat].term = e.term then M else M.take (i - base - 1).toNat ++ [e] else M.take (i - base - 1).toNat ++ [e]
set_option maxHeartbeats 4000000 in
theorem follows_any (l : Lg) (L : List En) (prev pt : Int) (W : World) (hl : EAt W l.lv L) (h0 : 0 ≤ l.base) (h1 : l.base ≤ 1152921504606846976) (hi0 : 0 ≤ prev) (hi1 : prev < 18446744073709551616) (hlen : L.length ≤ 1152921504606846976) : Calls Try.prog 44 #[lgV l, .int .u64 prev, .int .u64 pt] W fun r W' => r = .returned (.bool (folB l L prev pt)) ∧ Below W.heap.size W W' := by
  have CL := Lib.hid (fun w (hw : Below W.heap.size W w) => last_any l L w (hl.below hw) h0 h1 hlen)
  have CT := Lib.hid (fun w (hw : Below W.heap.size W w) => termat_any l L prev w (hl.below hw) h0 h1 hi0 hi1 hlen)
  unfold folB
  generalize (lastV l L).1 = a at *
  generalize (lastV l L).2 = a2 at *
  generalize (termV l L prev).1 = t at *
  generalize (termV l L prev).2 = b at *
  clear hl h0 h1 hi0 hi1
  by_cases g1 : a < prev
  · rw [if_pos g1]
    have q1 : decide (a < prev) = true := decide_eq_true g1
    go_enter Try.func44, Try.ntmps44
    go_upto_region 1 with (fail)
    have X := Lib.hid (Lb.start W l)
    have HB := Lib.hid (below1 W (lgO l))
    generalize W.alloc (lgO l) = w0 at *
    go_wp2_with (first | (with_reducible refine wpList_load_by rfl rfl X.out.box.load rfl ?_) | (with_reducible refine wpList_load_by rfl rfl X.out.box.base rfl ?_) | (go_at_call 11; (with_reducible refine (CL.out _ X.out.below).mono ?_); rintro r wb ⟨rfl, kk⟩; have X := Lib.hid (X.out.next kk); clear kk) | (go_at_call 15; (with_reducible refine (CT.out _ X.out.below).mono ?_); rintro r wc ⟨rfl, kk⟩; have X := Lib.hid (X.out.next kk); clear kk) | fail)
    go_ret
    exact ⟨rfl, X.out.below⟩
  · rw [if_neg g1]
    have q1 : decide (a < prev) = false := decide_eq_false g1
    by_cases g2 : 1099511627776 < prev
    · rw [if_pos g2]
      have q2 : decide (1099511627776 < prev) = true := decide_eq_true g2
      go_enter Try.func44, Try.ntmps44
      go_upto_region 1 with (fail)
      have X := Lib.hid (Lb.start W l)
      have HB := Lib.hid (below1 W (lgO l))
      generalize W.alloc (lgO l) = w0 at *
      go_wp2_with (first | (with_reducible refine wpList_load_by rfl rfl X.out.box.load rfl ?_) | (with_reducible refine wpList_load_by rfl rfl X.out.box.base rfl ?_) | (go_at_call 11; (with_reducible refine (CL.out _ X.out.below).mono ?_); rintro r wb ⟨rfl, kk⟩; have X := Lib.hid (X.out.next kk); clear kk) | (go_at_call 15; (with_reducible refine (CT.out _ X.out.below).mono ?_); rintro r wc ⟨rfl, kk⟩; have X := Lib.hid (X.out.next kk); clear kk) | fail)
      go_ret
      exact ⟨rfl, X.out.below⟩
    · rw [if_neg g2]
      have q2 : decide (1099511627776 < prev) = false := decide_eq_false g2
      by_cases g3 : prev < l.base
      · rw [if_pos g3]
        have q3 : decide (prev < l.base) = true := decide_eq_true g3
        go_enter Try.func44, Try.ntmps44
        go_upto_region 1 with (fail)
        have X := Lib.hid (Lb.start W l)
        have HB := Lib.hid (below1 W (lgO l))
        generalize W.alloc (lgO l) = w0 at *
        go_wp2_with (first | (with_reducible refine wpList_load_by rfl rfl X.out.box.load rfl ?_) | (with_reducible refine wpList_load_by rfl rfl X.out.box.base rfl ?_) | (go_at_call 11; (with_reducible refine (CL.out _ X.out.below).mono ?_); rintro r wb ⟨rfl, kk⟩; have X := Lib.hid (X.out.next kk); clear kk) | (go_at_call 15; (with_reducible refine (CT.out _ X.out.below).mono ?_); rintro r wc ⟨rfl, kk⟩; have X := Lib.hid (X.out.next kk); clear kk) | fail)
        go_ret
        exact ⟨rfl, X.out.below⟩
      · rw [if_neg g3]
        have q3 : decide (prev < l.base) = false := decide_eq_false g3
        cases b
        · rw [Bool.false_and]
          go_enter Try.func44, Try.ntmps44
          go_upto_region 1 with (fail)
          have X := Lib.hid (Lb.start W l)
          have HB := Lib.hid (below1 W (lgO l))
          generalize W.alloc (lgO l) = w0 at *
          go_wp2_with (first | (with_reducible refine wpList_load_by rfl rfl X.out.box.load rfl ?_) | (with_reducible refine wpList_load_by rfl rfl X.out.box.base rfl ?_) | (go_at_call 11; (with_reducible refine (CL.out _ X.out.below).mono ?_); rintro r wb ⟨rfl, kk⟩; have X := Lib.hid (X.out.next kk); clear kk) | (go_at_call 15; (with_reducible refine (CT.out _ X.out.below).mono ?_); rintro r wc ⟨rfl, kk⟩; have X := Lib.hid (X.out.next kk); clear kk) | fail)
          go_ret
          exact ⟨rfl, X.out.below⟩
        · rw [Bool.true_and]
          go_enter Try.func44, Try.ntmps44
          go_upto_region 1 with (fail)
          have X := Lib.hid (Lb.start W l)
          have HB := Lib.hid (below1 W (lgO l))
          generalize W.alloc (lgO l) = w0 at *
          go_wp2_with (first | (with_reducible refine wpList_load_by rfl rfl X.out.box.load rfl ?_) | (with_reducible refine wpList_load_by rfl rfl X.out.box.base rfl ?_) | (go_at_call 11; (with_reducible refine (CL.out _ X.out.below).mono ?_); rintro r wb ⟨rfl, kk⟩; have X := Lib.hid (X.out.next kk); clear kk) | (go_at_call 15; (with_reducible refine (CT.out _ X.out.below).mono ?_); rintro r wc ⟨rfl, kk⟩; have X := Lib.hid (X.out.next kk); clear kk) | fail)
          go_ret
          exact ⟨rfl, X.out.below⟩
theorem eC_take (L : List En) (n : Nat) : eC (L.take n) = (eC L).take (n * 13) := by
  by_cases h : n ≤ L.length
  · have e : eC L = eC (L.take n) ++ eC (L.drop n) := by rw [← eC_append, List.take_append_drop]
    have hl : (eC (L.take n)).length = n * 13 := by rw [eC_length, List.length_take, Nat.min_eq_left h]
    rw [e, ← hl, List.take_left]
  · rw [List.take_of_length_le (by omega), List.take_of_length_le (by rw [eC_length]; omega)]
/-- The first entries of a list of one's own. -/
theorem owns_take {w : World} {B k c n : Nat} {q : Option Addr} {M : List En} (h : World.ownsRow w B 36 13 (.slice q k c) k (eC M)) (hn : n ≤ k) : World.ownsRow w B 36 13 (.slice q n c) n (eC (M.take n)) := by
  have hl := h.1
  rw [eC_length] at hl
  have hk : M.length = k := by omega
  refine ⟨by rw [eC_length, List.length_take]; congr 1; omega, ?_⟩
  rcases h.2 with ⟨e, hz⟩ | ⟨g, cap, cur, e, hB, hg, h1, h2, h3, h4⟩
  · simp only [Value.slice.injEq] at e
    obtain ⟨rfl, _, rfl⟩ := e
    exact .inl ⟨by rw [show n = 0 from by omega], by omega⟩
  · simp only [Value.slice.injEq, true_and] at e
    obtain ⟨rfl, rfl⟩ := e
    refine .inr ⟨g, c, cur, rfl, hB, hg, by omega, h2, h3, ?_⟩
    rw [eC_take, ← h4, List.take_take]
    congr 1
    have := Nat.mul_le_mul_right 13 hn
    omega
theorem slice_hi {q : Option Addr} {k c n : Nat} (kd : IntKind) (hn : n ≤ k) (hk : k ≤ c) (w : World) : (Instr.sliceAt 25 (.slice q k c) none (some (.int kd (n : Int))) none).run Try.prog w = .ok (.slice q n c) w := by
  have hu : Try.prog.underlying 25 = some (.slice (Try.prog.elem 25)) := by rw [elem25]; exact Try.underlying25
  rw [run_sliceAt_slice w 25 _ _ _ _ hu, run_slice_h w 25 q k c hu kd n (by omega) (by omega), elem25, size_of36]
  simp only [Result.andThen, sliced, Int.toNat_natCast, Nat.zero_mul, Nat.sub_zero]
  have e : (if c = 0 then q else q.map (·.add 0)) = q := by
    split
    · rfl
    · cases q with
      | none => rfl
      | some a => simp [Addr.add]
  rw [e]
theorem exec_shi {ρ : Operand → Value} {o : Oper} {t : TypeId} {x hi : Operand} {v u r : Value} {w : World} (ho : o.op = .slice t x none (some hi) none) (hrun : (Instr.sliceAt t v none (some u) none).run Try.prog w = .ok r w) (hx : ρ x = v) (hl : ρ hi = u) : (execOp ρ o).run Try.prog w = .ok (.value r) w := by
  unfold execOp
  simp [ho, hx, hl, hrun, Result.andThen]
theorem owns_cap {w : World} {B k c : Nat} {q : Option Addr} {xs : List Value} (h : World.ownsRow w B 36 13 (.slice q k c) k xs) : k ≤ c := by
  rcases h.2 with ⟨e, hz⟩ | ⟨g, cap, cur, e, hB, hg, h1, h2, h3, h4⟩
  · simp only [Value.slice.injEq] at e; omega
  · simp only [Value.slice.injEq, true_and] at e; omega
theorem exec_be {ρ : Operand → Value} {o : Oper} {x : Operand} {e : En} (w : World) (ho : o.op = .buildSlice 25 1 #[(0, x)]) (hx : ρ x = enV e) : (execOp ρ o).run Try.prog w = .ok (.value (.slice (some ⟨w.heap.size, 0, none⟩) 1 1)) (w.alloc (.cells (enC e) 36)) := by
  unfold execOp
  simp [ho, hx, build_ent, Result.andThen]
/-- One entry more behind the first ones of a list of one's own. -/
theorem app_ent {w : World} {B k c g : Nat} {q : Option Addr} {M : List En} {e : En} (h : World.ownsRow w B 36 13 (.slice q k c) k (eC M)) (hg : w.heap[g]? = some (.cells (enC e) 36 (0, 0))) (hB : B ≤ w.heap.size) (hn : (k + 1) * 64 ≤ 140737488355328) :
    ∃ q2 c2 w2, (Builtin.append_ #[25, 25] 25 #[.slice q k c, .slice (some ⟨g, 0, none⟩) 1 1]).run Try.prog w = .ok (.slice q2 (k + 1) c2) w2 ∧ World.ownsRow w2 B 36 13 (.slice q2 (k + 1) c2) (k + 1) (eC (M ++ [e])) ∧ Touch w w2 (fun x => some x = (Value.slice q k c).ownBlock) := by
  obtain ⟨ii, hi, hz, hs, hby⟩ := info36
  have hr : Reads w (.slice (some ⟨g, 0, none⟩) 1 1) 13 1 (enL e) := by
    refine ⟨rfl, .inr ⟨⟨g, 0, none⟩, 1, rfl, Nat.le_refl _, by unfold maxLen; decide, fun j u hu => ?_⟩⟩
    rw [add_lit, Nat.zero_add, cell_of_row _ _ _ _ 36 (0, 0) hg, enC_at]
    exact hu
  obtain ⟨q2, c2, w2, hrun, ho2, ht⟩ := app_row (ty := 25) Try.underlying25 hi hz hs hby rfl (by omega) h hr (enL_one e) (by unfold maxLen; omega) hn hB
  exact ⟨q2, c2, w2, hrun, by rw [eC_append, eC_single]; exact ho2, ht⟩
end Go.Proofs.Ythlghmechldegaa
