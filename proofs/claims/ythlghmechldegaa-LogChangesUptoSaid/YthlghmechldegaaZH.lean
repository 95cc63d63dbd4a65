/- The reference's Accept where the place does not fit. -/
import Derived.Test.YthlghmechldegaaZGD
namespace Go.Proofs.Ythlghmechldegaa
open Go.RowKit Go.Deep Go.Joins
set_option maxRecDepth 100000
theorem near_eterm {w : World} {b : Nat} {e : En} (k : EBox w b e) (w' : World) (hw : ∃ p : Near w, w' = p.wx) : (Instr.loadAt 22 (.pointer (some ⟨b, 0, none⟩))).run Try.prog w' = .ok (.int .u64 e.term) w' := by
  obtain ⟨p, rfl⟩ := hw
  exact (k.next p.near).term
theorem near_tm {W w : World} {g o : Nat} {t : Int} (hb : Below W.heap.size W w) (h : ∀ w, Below W.heap.size W w → (Instr.loadAt 22 (.pointer (some ⟨g, o, none⟩))).run Try.prog w = .ok (.int .u64 t) w) (w' : World) (hw : ∃ p : Near w, w' = p.wx) : (Instr.loadAt 22 (.pointer (some ⟨g, o, none⟩))).run Try.prog w' = .ok (.int .u64 t) w' := by
  obtain ⟨p, rfl⟩ := hw
  exact h _ (below_then hb (Nat.le_refl _) p.near)
set_option maxHeartbeats 8000000 in
/-- Accept of the reference, where the place does not fit. -/
theorem raccept_no (l : Lg) (L E : List En) (prev pt : Int) (q : Option Addr) (c : Nat) (W : World) (hl : EAt W l.lv L) (he : EAt W (.slice q E.length c) E) (h0 : 0 ≤ l.base) (h1 : l.base ≤ 1152921504606846976) (hi0 : 0 ≤ prev) (hi1 : prev < 18446744073709551616) (hlim : (L.length + 600) * 64 ≤ 140737488355328) (hno : folB l L prev pt = false ∨ 512 < E.length) :
    Calls Try.prog 29 #[lgV l, .int .u64 prev, .int .u64 pt, .slice q E.length c] W fun r W' => ∃ r', r = .returned (.tuple #[lgV r', .int .u64 (if acB l L prev pt E = true then prev + E.length else 0), .bool (acB l L prev pt E)]) ∧ AccR W W' l r' (accN l.base L prev E E.length) (acB l L prev pt E) ∧ Below W.heap.size W W' := by
  have hA : acB l L prev pt E = false := by
    unfold acB
    rcases hno with h | h
    · rw [h]; rfl
    · rw [decide_eq_false (show ¬ E.length ≤ 512 by omega)]; simp
  rw [hA]
  clear hA
  have CL := Lib.hid (fun w (hw : Below W.heap.size W w) => rlast_any l L w (hl.below hw) h0 h1 (by omega))
  have CT := Lib.hid (fun w (hw : Below W.heap.size W w) => rtermat_any l L prev w (hl.below hw) h0 h1 hi0 hi1 (by omega))
  unfold folB at hno
  have hel := he.le
  obtain ⟨p, d, hq⟩ := hl.is
  obtain ⟨base, bt, s, lv⟩ := l
  dsimp only at hl hq h0 h1 hno
  subst hq
  generalize (lastV ⟨base, bt, s, .slice p L.length d⟩ L).1 = a at *
  generalize (lastV ⟨base, bt, s, .slice p L.length d⟩ L).2 = a2 at *
  generalize (termV ⟨base, bt, s, .slice p L.length d⟩ L prev).1 = t at *
  generalize (termV ⟨base, bt, s, .slice p L.length d⟩ L prev).2 = b at *
  generalize accN base L prev E E.length = M
  clear hl he h0 h1 hi0 hi1 hlim
  by_cases g1 : a < prev
  · have q1 : decide (a < prev) = true := decide_eq_true g1
    clear hno
    go_enter Try.func29, Try.ntmps29
    go_upto_region 1 with (fail)
    have X := Lib.hid (show Lr W ((W.alloc (lgO ⟨base, bt, s, .slice p L.length d⟩)).alloc (Obj.cells zlgC 27)) ⟨base, bt, s, .slice p L.length d⟩ zeroLg from Lr.start W _ zeroLg)
    generalize (W.alloc (lgO ⟨base, bt, s, .slice p L.length d⟩)).alloc (Obj.cells zlgC 27) = w0 at *
    go_upto_region 3 with (first | (with_reducible refine wpList_load_by rfl rfl X.out.box.load rfl ?_) | (with_reducible refine wpList_load_by rfl rfl X.out.box.base rfl ?_) | (go_at_call 12; (with_reducible refine (CL.out _ X.out.below).mono ?_); rintro r wb ⟨rfl, kk⟩; have X := Lib.hid (X.out.next kk); clear kk) | (go_at_call 16; (with_reducible refine (CT.out _ X.out.below).mono ?_); rintro r wc ⟨rfl, kk⟩; have X := Lib.hid (X.out.next kk); clear kk) | fail)
    have X2 := Lib.hid (X.out.tell zeroLg)
    go_wp2_with (first | (with_reducible refine wpList_store_by rfl rfl X.out.res.zero rfl rfl ?_) | fail)
    exact bodyPost_ret (v := .tuple #[lgV zeroLg, .int .u64 0, .bool false]) (results_lg3 Try.results29 _ _ (W.heap.size + 1) _ _ _ rfl X2.out.res rfl rfl) rfl ⟨zeroLg, rfl, .inr ⟨rfl, rfl⟩, X2.out.below⟩
  · have q1 : decide (a < prev) = false := decide_eq_false g1
    rw [if_neg g1] at hno
    by_cases g2 : 1099511627776 < prev
    · have q2 : decide (1099511627776 < prev) = true := decide_eq_true g2
      clear hno
      go_enter Try.func29, Try.ntmps29
      go_upto_region 1 with (fail)
      have X := Lib.hid (show Lr W ((W.alloc (lgO ⟨base, bt, s, .slice p L.length d⟩)).alloc (Obj.cells zlgC 27)) ⟨base, bt, s, .slice p L.length d⟩ zeroLg from Lr.start W _ zeroLg)
      generalize (W.alloc (lgO ⟨base, bt, s, .slice p L.length d⟩)).alloc (Obj.cells zlgC 27) = w0 at *
      go_upto_region 3 with (first | (with_reducible refine wpList_load_by rfl rfl X.out.box.load rfl ?_) | (with_reducible refine wpList_load_by rfl rfl X.out.box.base rfl ?_) | (go_at_call 12; (with_reducible refine (CL.out _ X.out.below).mono ?_); rintro r wb ⟨rfl, kk⟩; have X := Lib.hid (X.out.next kk); clear kk) | (go_at_call 16; (with_reducible refine (CT.out _ X.out.below).mono ?_); rintro r wc ⟨rfl, kk⟩; have X := Lib.hid (X.out.next kk); clear kk) | fail)
      have X2 := Lib.hid (X.out.tell zeroLg)
      go_wp2_with (first | (with_reducible refine wpList_store_by rfl rfl X.out.res.zero rfl rfl ?_) | fail)
      exact bodyPost_ret (v := .tuple #[lgV zeroLg, .int .u64 0, .bool false]) (results_lg3 Try.results29 _ _ (W.heap.size + 1) _ _ _ rfl X2.out.res rfl rfl) rfl ⟨zeroLg, rfl, .inr ⟨rfl, rfl⟩, X2.out.below⟩
    · have q2 : decide (1099511627776 < prev) = false := decide_eq_false g2
      rw [if_neg g2] at hno
      by_cases g3 : 512 < E.length
      · have q3 : decide ((512 : Int) < E.length) = true := decide_eq_true (by omega)
        clear hno
        go_enter Try.func29, Try.ntmps29
        go_upto_region 1 with (fail)
        have X := Lib.hid (show Lr W ((W.alloc (lgO ⟨base, bt, s, .slice p L.length d⟩)).alloc (Obj.cells zlgC 27)) ⟨base, bt, s, .slice p L.length d⟩ zeroLg from Lr.start W _ zeroLg)
        generalize (W.alloc (lgO ⟨base, bt, s, .slice p L.length d⟩)).alloc (Obj.cells zlgC 27) = w0 at *
        go_upto_region 3 with (first | (with_reducible refine wpList_load_by rfl rfl X.out.box.load rfl ?_) | (with_reducible refine wpList_load_by rfl rfl X.out.box.base rfl ?_) | (go_at_call 12; (with_reducible refine (CL.out _ X.out.below).mono ?_); rintro r wb ⟨rfl, kk⟩; have X := Lib.hid (X.out.next kk); clear kk) | (go_at_call 16; (with_reducible refine (CT.out _ X.out.below).mono ?_); rintro r wc ⟨rfl, kk⟩; have X := Lib.hid (X.out.next kk); clear kk) | fail)
        have X2 := Lib.hid (X.out.tell zeroLg)
        go_wp2_with (first | (with_reducible refine wpList_store_by rfl rfl X.out.res.zero rfl rfl ?_) | fail)
        exact bodyPost_ret (v := .tuple #[lgV zeroLg, .int .u64 0, .bool false]) (results_lg3 Try.results29 _ _ (W.heap.size + 1) _ _ _ rfl X2.out.res rfl rfl) rfl ⟨zeroLg, rfl, .inr ⟨rfl, rfl⟩, X2.out.below⟩
      · have q3 : decide ((512 : Int) < E.length) = false := decide_eq_false (by omega)
        have hno := hno.resolve_right g3
        by_cases g4 : prev < base
        · rw [if_pos g4] at hno
          cases hno
        · rw [if_neg g4] at hno
          have q4 : decide (base ≤ prev) = true := decide_eq_true (by omega)
          cases b
          · clear hno
            go_enter Try.func29, Try.ntmps29
            go_upto_region 1 with (fail)
            have X := Lib.hid (show Lr W ((W.alloc (lgO ⟨base, bt, s, .slice p L.length d⟩)).alloc (Obj.cells zlgC 27)) ⟨base, bt, s, .slice p L.length d⟩ zeroLg from Lr.start W _ zeroLg)
            generalize (W.alloc (lgO ⟨base, bt, s, .slice p L.length d⟩)).alloc (Obj.cells zlgC 27) = w0 at *
            go_upto_region 6 with (first | (with_reducible refine wpList_load_by rfl rfl X.out.box.load rfl ?_) | (with_reducible refine wpList_load_by rfl rfl X.out.box.base rfl ?_) | (go_at_call 12; (with_reducible refine (CL.out _ X.out.below).mono ?_); rintro r wb ⟨rfl, kk⟩; have X := Lib.hid (X.out.next kk); clear kk) | (go_at_call 16; (with_reducible refine (CT.out _ X.out.below).mono ?_); rintro r wc ⟨rfl, kk⟩; have X := Lib.hid (X.out.next kk); clear kk) | fail)
            have X2 := Lib.hid (X.out.tell zeroLg)
            go_wp2_with (first | (with_reducible refine wpList_store_by rfl rfl X.out.res.zero rfl rfl ?_) | fail)
            exact bodyPost_ret (v := .tuple #[lgV zeroLg, .int .u64 0, .bool false]) (results_lg3 Try.results29 _ _ (W.heap.size + 1) _ _ _ rfl X2.out.res rfl rfl) rfl ⟨zeroLg, rfl, .inr ⟨rfl, rfl⟩, X2.out.below⟩
          · rw [Bool.true_and] at hno
            go_enter Try.func29, Try.ntmps29
            go_upto_region 1 with (fail)
            have X := Lib.hid (show Lr W ((W.alloc (lgO ⟨base, bt, s, .slice p L.length d⟩)).alloc (Obj.cells zlgC 27)) ⟨base, bt, s, .slice p L.length d⟩ zeroLg from Lr.start W _ zeroLg)
            generalize (W.alloc (lgO ⟨base, bt, s, .slice p L.length d⟩)).alloc (Obj.cells zlgC 27) = w0 at *
            go_upto_region 6 with (first | (with_reducible refine wpList_load_by rfl rfl X.out.box.load rfl ?_) | (with_reducible refine wpList_load_by rfl rfl X.out.box.base rfl ?_) | (go_at_call 12; (with_reducible refine (CL.out _ X.out.below).mono ?_); rintro r wb ⟨rfl, kk⟩; have X := Lib.hid (X.out.next kk); clear kk) | (go_at_call 16; (with_reducible refine (CT.out _ X.out.below).mono ?_); rintro r wc ⟨rfl, kk⟩; have X := Lib.hid (X.out.next kk); clear kk) | fail)
            have X2 := Lib.hid (X.out.tell zeroLg)
            go_wp2_with (first | (with_reducible refine wpList_store_by rfl rfl X.out.res.zero rfl rfl ?_) | fail)
            exact bodyPost_ret (v := .tuple #[lgV zeroLg, .int .u64 0, .bool false]) (results_lg3 Try.results29 _ _ (W.heap.size + 1) _ _ _ rfl X2.out.res rfl rfl) rfl ⟨zeroLg, rfl, .inr ⟨rfl, rfl⟩, X2.out.below⟩
end Go.Proofs.Ythlghmechldegaa
