/- May an entry be? Both sides. -/
import Derived.Test.YthlghmechldegaaH
namespace Go.Proofs.Ythlghmechldegaa
open Go.RowKit Go.Deep Go.Joins
set_option maxRecDepth 100000
/-- A block that holds this entry. -/
def EBox (w : World) (b : Nat) (e : En) : Prop := w.heap[b]? = some (enO e)
theorem EBox.lt {w : World} {b : Nat} {e : En} (k : EBox w b e) : b < w.heap.size := (Array.getElem?_eq_some_iff.1 k).1
theorem EBox.next {w w' : World} {b : Nat} {e : En} (k : EBox w b e) (j : Below w.heap.size w w') : EBox w' b e := (j.block b k.lt).trans k
theorem EBox.new (w : World) (e : En) : EBox (w.alloc (enO e)) w.heap.size e := heap_alloc_last w _
theorem size3 : (Try.prog.info? 3).map (·.size) = some 1 := by kernel_rfl
theorem EBox.term {w : World} {b : Nat} {e : En} (k : EBox w b e) : (Instr.loadAt 22 (.pointer (some ⟨b, 0, none⟩))).run Try.prog w = .ok (.int .u64 e.term) w :=
  run_load_cell w b 0 22 36 (enC e) _ _ k Try.underlying22 rfl (enC_at e 0)
theorem EBox.kind {w : World} {b : Nat} {e : En} (k : EBox w b e) : (Instr.loadAt 3 (.pointer (some ⟨b, 1, none⟩))).run Try.prog w = .ok (.int .i64 e.kind) w :=
  run_load_cell w b 1 3 36 (enC e) _ _ k Try.underlying3 rfl (enC_at e 1)
theorem EBox.id {w : World} {b : Nat} {e : En} (k : EBox w b e) : (Instr.loadAt 22 (.pointer (some ⟨b, 2, none⟩))).run Try.prog w = .ok (.int .u64 e.i.id) w :=
  run_load_cell w b 2 22 36 (enC e) _ _ k Try.underlying22 rfl (enC_at e 2)
theorem EBox.input {w : World} {b : Nat} {e : En} (k : EBox w b e) : (Instr.loadAt 34 (.pointer (some ⟨b, 2, none⟩))).run Try.prog w = .ok (inV e.i) w :=
  run_load_rowAt w b 2 36 34 (enC e) (inL e.i) _ k Try.underlying34 rfl (by rw [size34]; rfl) fun j v hv => by
    rw [enC_at]
    match j, hv with
    | 0, hv => exact hv
    | 1, hv => exact hv
    | 2, hv => exact hv
    | 3, hv => exact hv
    | j + 4, hv => simp [inL] at hv
theorem EBox.set {w : World} {b : Nat} {e : En} (k : EBox w b e) : (Instr.loadAt 24 (.pointer (some ⟨b, 6, none⟩))).run Try.prog w = .ok (setV e.s) w :=
  run_load_rowAt w b 6 36 24 (enC e) (setL e.s) _ k Try.underlying24 rfl (by rw [size24]; rfl) fun j v hv => by
    rw [enC_at]
    match j, hv with
    | 0, hv => exact hv
    | 1, hv => exact hv
    | 2, hv => exact hv
    | 3, hv => exact hv
    | 4, hv => exact hv
    | 5, hv => exact hv
    | 6, hv => exact hv
    | j + 7, hv => simp [setL] at hv
theorem near_ein {w : World} {b : Nat} {e : En} (k : EBox w b e) (w' : World) (hw : ∃ p : Near w, w' = p.wx) : (Instr.loadAt 34 (.pointer (some ⟨b, 2, none⟩))).run Try.prog w' = .ok (inV e.i) w' := by
  obtain ⟨p, rfl⟩ := hw
  exact (k.next p.near).input
theorem near_eset {w : World} {b : Nat} {e : En} (k : EBox w b e) (w' : World) (hw : ∃ p : Near w, w' = p.wx) : (Instr.loadAt 24 (.pointer (some ⟨b, 6, none⟩))).run Try.prog w' = .ok (setV e.s) w' := by
  obtain ⟨p, rfl⟩ := hw
  exact (k.next p.near).set
/-- The kind's part of whether an entry may be. -/
def kindB (kind id : Int) (noIn noSet may : Bool) : Bool :=
  if kind = 0 then noIn && noSet else if kind = 1 then decide (1 ≤ id) && may && noSet else if kind = 2 then noIn && !noSet else false
/-- An entry may be. -/
def entB (e : En) : Bool := decide (1 ≤ e.term) && (decide (e.term ≤ 1099511627776) && kindB e.kind e.i.id (inEq e.i zeroIn) (setEq e.s noF) (inpB e.i))
theorem cnt_dec (n : Nat) : decide ((1 : Int) ≤ n) = !decide (n < 1) := by
  by_cases h : n < 1
  · rw [decide_eq_true h, decide_eq_false (by omega)]; rfl
  · rw [decide_eq_false h, decide_eq_true (by omega)]; rfl
theorem setEq_cn (f : Nat → Bool) : setEq f noF = decide (cn f 7 < 1) := by
  have h : ∀ a b c d e g i : Bool, ((a == false) && ((b == false) && ((c == false) && ((d == false) && ((e == false) && ((g == false) && ((i == false) && true))))))) = decide (0 + a.toNat + b.toNat + c.toNat + d.toNat + e.toNat + g.toNat + i.toNat < 1) := by decide
  exact h (f 0) (f 1) (f 2) (f 3) (f 4) (f 5) (f 6)
set_option maxHeartbeats 2000000 in
theorem entry_any (e : En) (hz : e.i.data.size ≤ maxLen) (W : World) : Calls Try.prog 39 #[enV e] W fun r W' => r = .returned (.bool (entB e)) ∧ Below W.heap.size W W' := by
  have HP := Lib.hid (fun W' => input_any e.i hz W')
  have HE1 := Lib.hid (show ∀ w : World, (Op.equalIn 10000 34 (inV e.i) (.agg zinC)).run Try.prog w = .ok (inEq e.i zeroIn) w from fun w => eq_in 9998 e.i zeroIn w)
  have HE2 := Lib.hid (show ∀ w : World, (Op.equalIn 10000 24 (setV e.s) (.agg noC)).run Try.prog w = .ok (setEq e.s noF) w from fun w => eq_set 9998 e.s noF w)
  clear hz
  obtain ⟨R, hR⟩ : ∃ R, entB e = R := ⟨_, rfl⟩
  rw [hR]
  unfold entB at hR
  have HR := Lib.hid hR
  clear hR
  go_enter Try.func39, Try.ntmps39
  go_upto_region 1 with (fail)
  have X := Lib.hid (EBox.new W e)
  have B1 := Lib.hid (below1 W (enO e))
  generalize W.alloc (enO e) = w0 at *
  have hT := Lib.hid X.out.term
  have hK := Lib.hid X.out.kind
  have hI := Lib.hid X.out.id
  have hN := Lib.hid X.out.input
  have hS := Lib.hid X.out.set
  generalize inEq e.i zeroIn = b1 at *
  generalize setEq e.s noF = b2 at *
  generalize inpB e.i = b3 at *
  generalize e.term = t at *
  generalize hk : e.kind = kind at *
  generalize hi : e.i.id = id at *
  by_cases h1 : 1 ≤ t
  · have q1 : decide (t < 1) = false := decide_eq_false (by omega)
    by_cases h2 : t ≤ 1099511627776
    · have q2 : decide (1099511627776 < t) = false := decide_eq_false (by omega)
      go_upto_region 3 with (first | (with_reducible refine wpList_load_by rfl rfl hT.out rfl ?_) | (with_reducible refine wpList_load_wanted rfl rfl hT.out rfl ?_) | fail)
      have hne : Nonempty (Near w0) := ⟨⟨w0, Below.refl _ _⟩⟩
      refine wp_region_near (by kernel_rfl) (by kernel_rfl) ?_
      repeat (first | (go_big_quiet_want; (with_reducible refine quiet_by _ (fun w hw => exec_load (t := 34) rfl (near_ein X.out w hw) rfl) ?_); simp only [Act.put, List.setIfInBounds_toArray, List.set_cons_zero, List.set_cons_succ]; go_big_quiet_on) | (go_big_quiet_want; (with_reducible refine quiet_by _ (fun w hw => exec_load (t := 24) rfl (near_eset X.out w hw) rfl) ?_); simp only [Act.put, List.setIfInBounds_toArray, List.set_cons_zero, List.set_cons_succ]; go_big_quiet_on) | (go_big_quiet_want; (with_reducible refine quiet_by _ (fun w hw => exec_eql w rfl rfl rfl guard34 (HE1.out w)) ?_); simp only [Act.put, List.setIfInBounds_toArray, List.set_cons_zero, List.set_cons_succ]; go_big_quiet_on) | (go_big_quiet_want; (with_reducible refine quiet_by _ (fun w hw => exec_eql w rfl rfl rfl guard24 (HE2.out w)) ?_); simp only [Act.put, List.setIfInBounds_toArray, List.set_cons_zero, List.set_cons_succ]; go_big_quiet_on) | go_big_quiet_step (first | fail | fail))
      refine wpQuiet_nil ?_
      rintro _ ⟨pn, rfl⟩
      have X1 := Lib.hid (X.out.next pn.near)
      have B2 := Lib.hid (below_then B1.out (by have := B1.out.size; omega) pn.near)
      clear X B1 hne hK hI hN hS
      have X := X1
      have B1 := B2
      clear X1 B2
      generalize pn.wx = w1 at *
      have hI := Lib.hid (show (Instr.loadAt 22 (.pointer (some ⟨W.heap.size, 2, none⟩))).run Try.prog w1 = .ok (.int .u64 id) w1 from by have := X.out.id; rwa [hi] at this)
      have hN := Lib.hid X.out.input
      have hS := Lib.hid X.out.set
      have hK := Lib.hid (show (Instr.loadAt 3 (.pointer (some ⟨W.heap.size, 1, none⟩))).run Try.prog w1 = .ok (.int .i64 kind) w1 from by have := X.out.kind; rwa [hk] at this)
      clear hk hi
      by_cases k0 : kind = 0
      · subst k0
        cases b1
        · go_wp2_with (first | (with_reducible refine wpList_load_by rfl rfl hT.out rfl ?_) | (with_reducible refine wpList_load_wanted rfl rfl hT.out rfl ?_) | (with_reducible refine wpList_load_by rfl rfl hK.out rfl ?_) | (with_reducible refine wpList_load_wanted rfl rfl hK.out rfl ?_) | (with_reducible refine wpList_load_by rfl rfl hI.out rfl ?_) | (with_reducible refine wpList_load_wanted rfl rfl hI.out rfl ?_) | (with_reducible refine wpList_load_by rfl rfl hN.out rfl ?_) | (with_reducible refine wpList_load_wanted rfl rfl hN.out rfl ?_) | (with_reducible refine wpList_load_by rfl rfl hS.out rfl ?_) | (with_reducible refine wpList_load_wanted rfl rfl hS.out rfl ?_) | fail)
          go_ret
          first | refine ⟨ret_bool (Eq.trans ?_ HR.out), BZ.out⟩ | refine ⟨ret_bool (Eq.trans ?_ HR.out), B1.out⟩
          simp [kindB, h1, h2]
        · go_wp2_with (first | (with_reducible refine wpList_load_by rfl rfl hT.out rfl ?_) | (with_reducible refine wpList_load_wanted rfl rfl hT.out rfl ?_) | (with_reducible refine wpList_load_by rfl rfl hK.out rfl ?_) | (with_reducible refine wpList_load_wanted rfl rfl hK.out rfl ?_) | (with_reducible refine wpList_load_by rfl rfl hI.out rfl ?_) | (with_reducible refine wpList_load_wanted rfl rfl hI.out rfl ?_) | (with_reducible refine wpList_load_by rfl rfl hN.out rfl ?_) | (with_reducible refine wpList_load_wanted rfl rfl hN.out rfl ?_) | (with_reducible refine wpList_load_by rfl rfl hS.out rfl ?_) | (with_reducible refine wpList_load_wanted rfl rfl hS.out rfl ?_) | fail)
          go_ret
          first | refine ⟨ret_bool (Eq.trans ?_ HR.out), BZ.out⟩ | refine ⟨ret_bool (Eq.trans ?_ HR.out), B1.out⟩
          simp [kindB, h1, h2]
      · have g0 : (kind == 0) = false := by rw [beq_eq_false_iff_ne]; exact k0
        by_cases k1 : kind = 1
        · subst k1
          by_cases hi : 1 ≤ id
          · have gi : decide (id ≥ 1) = true := decide_eq_true hi
            cases b3
            · go_wp2_with (first | (with_reducible refine wpList_load_by rfl rfl hT.out rfl ?_) | (with_reducible refine wpList_load_wanted rfl rfl hT.out rfl ?_) | (with_reducible refine wpList_load_by rfl rfl hK.out rfl ?_) | (with_reducible refine wpList_load_wanted rfl rfl hK.out rfl ?_) | (with_reducible refine wpList_load_by rfl rfl hI.out rfl ?_) | (with_reducible refine wpList_load_wanted rfl rfl hI.out rfl ?_) | (with_reducible refine wpList_load_by rfl rfl hN.out rfl ?_) | (with_reducible refine wpList_load_wanted rfl rfl hN.out rfl ?_) | (with_reducible refine wpList_load_by rfl rfl hS.out rfl ?_) | (with_reducible refine wpList_load_wanted rfl rfl hS.out rfl ?_) | (go_at_call 47; (with_reducible refine (HP.out _).mono ?_); rintro r wb ⟨rfl, kk⟩; have BZ := Lib.hid (below_then B1.out (by have := B1.out.size; omega) kk); have hS := Lib.hid (X.out.next kk).set; clear kk) | fail)
              go_ret
              first | refine ⟨ret_bool (Eq.trans ?_ HR.out), BZ.out⟩ | refine ⟨ret_bool (Eq.trans ?_ HR.out), B1.out⟩
              simp [kindB, h1, h2, hi]
            · go_wp2_with (first | (with_reducible refine wpList_load_by rfl rfl hT.out rfl ?_) | (with_reducible refine wpList_load_wanted rfl rfl hT.out rfl ?_) | (with_reducible refine wpList_load_by rfl rfl hK.out rfl ?_) | (with_reducible refine wpList_load_wanted rfl rfl hK.out rfl ?_) | (with_reducible refine wpList_load_by rfl rfl hI.out rfl ?_) | (with_reducible refine wpList_load_wanted rfl rfl hI.out rfl ?_) | (with_reducible refine wpList_load_by rfl rfl hN.out rfl ?_) | (with_reducible refine wpList_load_wanted rfl rfl hN.out rfl ?_) | (with_reducible refine wpList_load_by rfl rfl hS.out rfl ?_) | (with_reducible refine wpList_load_wanted rfl rfl hS.out rfl ?_) | (go_at_call 47; (with_reducible refine (HP.out _).mono ?_); rintro r wb ⟨rfl, kk⟩; have BZ := Lib.hid (below_then B1.out (by have := B1.out.size; omega) kk); have hS := Lib.hid (X.out.next kk).set; clear kk) | fail)
              go_ret
              first | refine ⟨ret_bool (Eq.trans ?_ HR.out), BZ.out⟩ | refine ⟨ret_bool (Eq.trans ?_ HR.out), B1.out⟩
              simp [kindB, h1, h2, hi]
          · have gi : decide (id ≥ 1) = false := decide_eq_false hi
            go_wp2_with (first | (with_reducible refine wpList_load_by rfl rfl hT.out rfl ?_) | (with_reducible refine wpList_load_wanted rfl rfl hT.out rfl ?_) | (with_reducible refine wpList_load_by rfl rfl hK.out rfl ?_) | (with_reducible refine wpList_load_wanted rfl rfl hK.out rfl ?_) | (with_reducible refine wpList_load_by rfl rfl hI.out rfl ?_) | (with_reducible refine wpList_load_wanted rfl rfl hI.out rfl ?_) | (with_reducible refine wpList_load_by rfl rfl hN.out rfl ?_) | (with_reducible refine wpList_load_wanted rfl rfl hN.out rfl ?_) | (with_reducible refine wpList_load_by rfl rfl hS.out rfl ?_) | (with_reducible refine wpList_load_wanted rfl rfl hS.out rfl ?_) | fail)
            go_ret
            first | refine ⟨ret_bool (Eq.trans ?_ HR.out), BZ.out⟩ | refine ⟨ret_bool (Eq.trans ?_ HR.out), B1.out⟩
            simp [kindB, h1, h2, show ¬ 1 ≤ id by omega]
        · have g1 : (kind == 1) = false := by rw [beq_eq_false_iff_ne]; exact k1
          by_cases k2 : kind = 2
          · subst k2
            cases b1
            · go_wp2_with (first | (with_reducible refine wpList_load_by rfl rfl hT.out rfl ?_) | (with_reducible refine wpList_load_wanted rfl rfl hT.out rfl ?_) | (with_reducible refine wpList_load_by rfl rfl hK.out rfl ?_) | (with_reducible refine wpList_load_wanted rfl rfl hK.out rfl ?_) | (with_reducible refine wpList_load_by rfl rfl hI.out rfl ?_) | (with_reducible refine wpList_load_wanted rfl rfl hI.out rfl ?_) | (with_reducible refine wpList_load_by rfl rfl hN.out rfl ?_) | (with_reducible refine wpList_load_wanted rfl rfl hN.out rfl ?_) | (with_reducible refine wpList_load_by rfl rfl hS.out rfl ?_) | (with_reducible refine wpList_load_wanted rfl rfl hS.out rfl ?_) | fail)
              go_ret
              first | refine ⟨ret_bool (Eq.trans ?_ HR.out), BZ.out⟩ | refine ⟨ret_bool (Eq.trans ?_ HR.out), B1.out⟩
              first | (simp [kindB, h1, h2]; done) | (simp [kindB, h1, h2]; exact HQ.out)
            · go_wp2_with (first | (with_reducible refine wpList_load_by rfl rfl hT.out rfl ?_) | (with_reducible refine wpList_load_wanted rfl rfl hT.out rfl ?_) | (with_reducible refine wpList_load_by rfl rfl hK.out rfl ?_) | (with_reducible refine wpList_load_wanted rfl rfl hK.out rfl ?_) | (with_reducible refine wpList_load_by rfl rfl hI.out rfl ?_) | (with_reducible refine wpList_load_wanted rfl rfl hI.out rfl ?_) | (with_reducible refine wpList_load_by rfl rfl hN.out rfl ?_) | (with_reducible refine wpList_load_wanted rfl rfl hN.out rfl ?_) | (with_reducible refine wpList_load_by rfl rfl hS.out rfl ?_) | (with_reducible refine wpList_load_wanted rfl rfl hS.out rfl ?_) | fail)
              go_ret
              first | refine ⟨ret_bool (Eq.trans ?_ HR.out), BZ.out⟩ | refine ⟨ret_bool (Eq.trans ?_ HR.out), B1.out⟩
              first | (simp [kindB, h1, h2]; done) | (simp [kindB, h1, h2]; exact HQ.out)
          · have g2 : (kind == 2) = false := by rw [beq_eq_false_iff_ne]; exact k2
            go_wp2_with (first | (with_reducible refine wpList_load_by rfl rfl hT.out rfl ?_) | (with_reducible refine wpList_load_wanted rfl rfl hT.out rfl ?_) | (with_reducible refine wpList_load_by rfl rfl hK.out rfl ?_) | (with_reducible refine wpList_load_wanted rfl rfl hK.out rfl ?_) | (with_reducible refine wpList_load_by rfl rfl hI.out rfl ?_) | (with_reducible refine wpList_load_wanted rfl rfl hI.out rfl ?_) | (with_reducible refine wpList_load_by rfl rfl hN.out rfl ?_) | (with_reducible refine wpList_load_wanted rfl rfl hN.out rfl ?_) | (with_reducible refine wpList_load_by rfl rfl hS.out rfl ?_) | (with_reducible refine wpList_load_wanted rfl rfl hS.out rfl ?_) | fail)
            go_ret
            first | refine ⟨ret_bool (Eq.trans ?_ HR.out), BZ.out⟩ | refine ⟨ret_bool (Eq.trans ?_ HR.out), B1.out⟩
            simp [kindB, h1, h2, k0, k1, k2]
    · have q2 : decide (1099511627776 < t) = true := decide_eq_true (by omega)
      go_wp2_with (first | (with_reducible refine wpList_load_by rfl rfl hT.out rfl ?_) | (with_reducible refine wpList_load_wanted rfl rfl hT.out rfl ?_) | fail)
      go_ret
      exact ⟨ret_bool (Eq.trans (by simp [h1, show ¬ t ≤ 1099511627776 by omega]) HR.out), B1.out⟩
  · have q1 : decide (t < 1) = true := decide_eq_true (by omega)
    go_wp2_with (first | (with_reducible refine wpList_load_by rfl rfl hT.out rfl ?_) | (with_reducible refine wpList_load_wanted rfl rfl hT.out rfl ?_) | fail)
    go_ret
    exact ⟨ret_bool (Eq.trans (by simp [show ¬ 1 ≤ t by omega]) HR.out), B1.out⟩
set_option maxHeartbeats 2000000 in
theorem rentry_any (e : En) (hz : e.i.data.size ≤ maxLen) (W : World) : Calls Try.prog 40 #[enV e] W fun r W' => r = .returned (.bool (entB e)) ∧ Below W.heap.size W W' := by
  have HP := Lib.hid (fun W' => rinput_any e.i hz W')
  have HE1 := Lib.hid (show ∀ w : World, (Op.equalIn 10000 34 (inV e.i) (.agg zinC)).run Try.prog w = .ok (inEq e.i zeroIn) w from fun w => eq_in 9998 e.i zeroIn w)
  have HE2 := Lib.hid (show ∀ w : World, (Op.equalIn 10000 24 (setV e.s) (.agg noC)).run Try.prog w = .ok (setEq e.s noF) w from fun w => eq_set 9998 e.s noF w)
  have HC := Lib.hid (fun W' => rcount_any e.s W')
  have HQ := Lib.hid (show decide ((1 : Int) ≤ (cn e.s 7 : Nat)) = !(setEq e.s noF) from by rw [setEq_cn]; exact cnt_dec _)
  clear hz
  obtain ⟨R, hR⟩ : ∃ R, entB e = R := ⟨_, rfl⟩
  rw [hR]
  unfold entB at hR
  have HR := Lib.hid hR
  clear hR
  go_enter Try.func40, Try.ntmps40
  go_upto_region 1 with (fail)
  have X := Lib.hid (EBox.new W e)
  have B1 := Lib.hid (below1 W (enO e))
  generalize W.alloc (enO e) = w0 at *
  have hT := Lib.hid X.out.term
  have hK := Lib.hid X.out.kind
  have hI := Lib.hid X.out.id
  have hN := Lib.hid X.out.input
  have hS := Lib.hid X.out.set
  generalize inEq e.i zeroIn = b1 at *
  generalize setEq e.s noF = b2 at *
  generalize inpB e.i = b3 at *
  generalize e.term = t at *
  generalize hk : e.kind = kind at *
  generalize hi : e.i.id = id at *
  by_cases h1 : 1 ≤ t
  · have q1 : decide (t < 1) = false := decide_eq_false (by omega)
    by_cases h2 : t ≤ 1099511627776
    · have q2 : decide (1099511627776 < t) = false := decide_eq_false (by omega)
      have hn := cn_max e.s 7
      by_cases k0 : kind = 0
      · subst k0
        cases b1
        · go_wp2_with (first | (with_reducible refine wpList_load_by rfl rfl hT.out rfl ?_) | (with_reducible refine wpList_load_wanted rfl rfl hT.out rfl ?_) | (with_reducible refine wpList_load_by rfl rfl hK.out rfl ?_) | (with_reducible refine wpList_load_wanted rfl rfl hK.out rfl ?_) | (with_reducible refine wpList_load_by rfl rfl hI.out rfl ?_) | (with_reducible refine wpList_load_wanted rfl rfl hI.out rfl ?_) | (with_reducible refine wpList_load_by rfl rfl hN.out rfl ?_) | (with_reducible refine wpList_load_wanted rfl rfl hN.out rfl ?_) | (with_reducible refine wpList_load_by rfl rfl hS.out rfl ?_) | (with_reducible refine wpList_load_wanted rfl rfl hS.out rfl ?_) | (with_reducible refine wpList_exec rfl (exec_eql _ rfl rfl rfl guard34 (HE1.out _)) ?_) | (with_reducible refine wpList_exec rfl (exec_eql _ rfl rfl rfl guard24 (HE2.out _)) ?_) | fail)
          go_ret
          first | refine ⟨ret_bool (Eq.trans ?_ HR.out), BZ.out⟩ | refine ⟨ret_bool (Eq.trans ?_ HR.out), B1.out⟩
          simp [kindB, h1, h2]
        · go_wp2_with (first | (with_reducible refine wpList_load_by rfl rfl hT.out rfl ?_) | (with_reducible refine wpList_load_wanted rfl rfl hT.out rfl ?_) | (with_reducible refine wpList_load_by rfl rfl hK.out rfl ?_) | (with_reducible refine wpList_load_wanted rfl rfl hK.out rfl ?_) | (with_reducible refine wpList_load_by rfl rfl hI.out rfl ?_) | (with_reducible refine wpList_load_wanted rfl rfl hI.out rfl ?_) | (with_reducible refine wpList_load_by rfl rfl hN.out rfl ?_) | (with_reducible refine wpList_load_wanted rfl rfl hN.out rfl ?_) | (with_reducible refine wpList_load_by rfl rfl hS.out rfl ?_) | (with_reducible refine wpList_load_wanted rfl rfl hS.out rfl ?_) | (with_reducible refine wpList_exec rfl (exec_eql _ rfl rfl rfl guard34 (HE1.out _)) ?_) | (with_reducible refine wpList_exec rfl (exec_eql _ rfl rfl rfl guard24 (HE2.out _)) ?_) | fail)
          go_ret
          first | refine ⟨ret_bool (Eq.trans ?_ HR.out), BZ.out⟩ | refine ⟨ret_bool (Eq.trans ?_ HR.out), B1.out⟩
          simp [kindB, h1, h2]
      · have g0 : (kind == 0) = false := by rw [beq_eq_false_iff_ne]; exact k0
        by_cases k1 : kind = 1
        · subst k1
          by_cases hi : 1 ≤ id
          · have gi : decide (id ≥ 1) = true := decide_eq_true hi
            cases b3
            · go_wp2_with (first | (with_reducible refine wpList_load_by rfl rfl hT.out rfl ?_) | (with_reducible refine wpList_load_wanted rfl rfl hT.out rfl ?_) | (with_reducible refine wpList_load_by rfl rfl hK.out rfl ?_) | (with_reducible refine wpList_load_wanted rfl rfl hK.out rfl ?_) | (with_reducible refine wpList_load_by rfl rfl hI.out rfl ?_) | (with_reducible refine wpList_load_wanted rfl rfl hI.out rfl ?_) | (with_reducible refine wpList_load_by rfl rfl hN.out rfl ?_) | (with_reducible refine wpList_load_wanted rfl rfl hN.out rfl ?_) | (with_reducible refine wpList_load_by rfl rfl hS.out rfl ?_) | (with_reducible refine wpList_load_wanted rfl rfl hS.out rfl ?_) | (with_reducible refine wpList_exec rfl (exec_eql _ rfl rfl rfl guard34 (HE1.out _)) ?_) | (with_reducible refine wpList_exec rfl (exec_eql _ rfl rfl rfl guard24 (HE2.out _)) ?_) | (go_at_call 48; (with_reducible refine (HP.out _).mono ?_); rintro r wb ⟨rfl, kk⟩; have BZ := Lib.hid (below_then B1.out (by have := B1.out.size; omega) kk); have hS := Lib.hid (X.out.next kk).set; clear kk) | fail)
              go_ret
              first | refine ⟨ret_bool (Eq.trans ?_ HR.out), BZ.out⟩ | refine ⟨ret_bool (Eq.trans ?_ HR.out), B1.out⟩
              simp [kindB, h1, h2, hi]
            · go_wp2_with (first | (with_reducible refine wpList_load_by rfl rfl hT.out rfl ?_) | (with_reducible refine wpList_load_wanted rfl rfl hT.out rfl ?_) | (with_reducible refine wpList_load_by rfl rfl hK.out rfl ?_) | (with_reducible refine wpList_load_wanted rfl rfl hK.out rfl ?_) | (with_reducible refine wpList_load_by rfl rfl hI.out rfl ?_) | (with_reducible refine wpList_load_wanted rfl rfl hI.out rfl ?_) | (with_reducible refine wpList_load_by rfl rfl hN.out rfl ?_) | (with_reducible refine wpList_load_wanted rfl rfl hN.out rfl ?_) | (with_reducible refine wpList_load_by rfl rfl hS.out rfl ?_) | (with_reducible refine wpList_load_wanted rfl rfl hS.out rfl ?_) | (with_reducible refine wpList_exec rfl (exec_eql _ rfl rfl rfl guard34 (HE1.out _)) ?_) | (with_reducible refine wpList_exec rfl (exec_eql _ rfl rfl rfl guard24 (HE2.out _)) ?_) | (go_at_call 48; (with_reducible refine (HP.out _).mono ?_); rintro r wb ⟨rfl, kk⟩; have BZ := Lib.hid (below_then B1.out (by have := B1.out.size; omega) kk); have hS := Lib.hid (X.out.next kk).set; clear kk) | fail)
              go_ret
              first | refine ⟨ret_bool (Eq.trans ?_ HR.out), BZ.out⟩ | refine ⟨ret_bool (Eq.trans ?_ HR.out), B1.out⟩
              simp [kindB, h1, h2, hi]
          · have gi : decide (id ≥ 1) = false := decide_eq_false hi
            go_wp2_with (first | (with_reducible refine wpList_load_by rfl rfl hT.out rfl ?_) | (with_reducible refine wpList_load_wanted rfl rfl hT.out rfl ?_) | (with_reducible refine wpList_load_by rfl rfl hK.out rfl ?_) | (with_reducible refine wpList_load_wanted rfl rfl hK.out rfl ?_) | (with_reducible refine wpList_load_by rfl rfl hI.out rfl ?_) | (with_reducible refine wpList_load_wanted rfl rfl hI.out rfl ?_) | (with_reducible refine wpList_load_by rfl rfl hN.out rfl ?_) | (with_reducible refine wpList_load_wanted rfl rfl hN.out rfl ?_) | (with_reducible refine wpList_load_by rfl rfl hS.out rfl ?_) | (with_reducible refine wpList_load_wanted rfl rfl hS.out rfl ?_) | (with_reducible refine wpList_exec rfl (exec_eql _ rfl rfl rfl guard34 (HE1.out _)) ?_) | (with_reducible refine wpList_exec rfl (exec_eql _ rfl rfl rfl guard24 (HE2.out _)) ?_) | fail)
            go_ret
            first | refine ⟨ret_bool (Eq.trans ?_ HR.out), BZ.out⟩ | refine ⟨ret_bool (Eq.trans ?_ HR.out), B1.out⟩
            simp [kindB, h1, h2, show ¬ 1 ≤ id by omega]
        · have g1 : (kind == 1) = false := by rw [beq_eq_false_iff_ne]; exact k1
          by_cases k2 : kind = 2
          · subst k2
            cases b1
            · go_wp2_with (first | (with_reducible refine wpList_load_by rfl rfl hT.out rfl ?_) | (with_reducible refine wpList_load_wanted rfl rfl hT.out rfl ?_) | (with_reducible refine wpList_load_by rfl rfl hK.out rfl ?_) | (with_reducible refine wpList_load_wanted rfl rfl hK.out rfl ?_) | (with_reducible refine wpList_load_by rfl rfl hI.out rfl ?_) | (with_reducible refine wpList_load_wanted rfl rfl hI.out rfl ?_) | (with_reducible refine wpList_load_by rfl rfl hN.out rfl ?_) | (with_reducible refine wpList_load_wanted rfl rfl hN.out rfl ?_) | (with_reducible refine wpList_load_by rfl rfl hS.out rfl ?_) | (with_reducible refine wpList_load_wanted rfl rfl hS.out rfl ?_) | (with_reducible refine wpList_exec rfl (exec_eql _ rfl rfl rfl guard34 (HE1.out _)) ?_) | (with_reducible refine wpList_exec rfl (exec_eql _ rfl rfl rfl guard24 (HE2.out _)) ?_) | (go_at_call 34; (with_reducible refine (HC.out _).mono ?_); rintro r wb ⟨rfl, kk⟩; have BZ := Lib.hid (below_then B1.out (by have := B1.out.size; omega) kk); clear kk) | fail)
              go_ret
              first | refine ⟨ret_bool (Eq.trans ?_ HR.out), BZ.out⟩ | refine ⟨ret_bool (Eq.trans ?_ HR.out), B1.out⟩
              first | (simp [kindB, h1, h2]; done) | (simp [kindB, h1, h2]; exact HQ.out)
            · go_wp2_with (first | (with_reducible refine wpList_load_by rfl rfl hT.out rfl ?_) | (with_reducible refine wpList_load_wanted rfl rfl hT.out rfl ?_) | (with_reducible refine wpList_load_by rfl rfl hK.out rfl ?_) | (with_reducible refine wpList_load_wanted rfl rfl hK.out rfl ?_) | (with_reducible refine wpList_load_by rfl rfl hI.out rfl ?_) | (with_reducible refine wpList_load_wanted rfl rfl hI.out rfl ?_) | (with_reducible refine wpList_load_by rfl rfl hN.out rfl ?_) | (with_reducible refine wpList_load_wanted rfl rfl hN.out rfl ?_) | (with_reducible refine wpList_load_by rfl rfl hS.out rfl ?_) | (with_reducible refine wpList_load_wanted rfl rfl hS.out rfl ?_) | (with_reducible refine wpList_exec rfl (exec_eql _ rfl rfl rfl guard34 (HE1.out _)) ?_) | (with_reducible refine wpList_exec rfl (exec_eql _ rfl rfl rfl guard24 (HE2.out _)) ?_) | (go_at_call 34; (with_reducible refine (HC.out _).mono ?_); rintro r wb ⟨rfl, kk⟩; have BZ := Lib.hid (below_then B1.out (by have := B1.out.size; omega) kk); clear kk) | fail)
              go_ret
              first | refine ⟨ret_bool (Eq.trans ?_ HR.out), BZ.out⟩ | refine ⟨ret_bool (Eq.trans ?_ HR.out), B1.out⟩
              first | (simp [kindB, h1, h2]; done) | (simp [kindB, h1, h2]; exact HQ.out)
          · have g2 : (kind == 2) = false := by rw [beq_eq_false_iff_ne]; exact k2
            go_wp2_with (first | (with_reducible refine wpList_load_by rfl rfl hT.out rfl ?_) | (with_reducible refine wpList_load_wanted rfl rfl hT.out rfl ?_) | (with_reducible refine wpList_load_by rfl rfl hK.out rfl ?_) | (with_reducible refine wpList_load_wanted rfl rfl hK.out rfl ?_) | (with_reducible refine wpList_load_by rfl rfl hI.out rfl ?_) | (with_reducible refine wpList_load_wanted rfl rfl hI.out rfl ?_) | (with_reducible refine wpList_load_by rfl rfl hN.out rfl ?_) | (with_reducible refine wpList_load_wanted rfl rfl hN.out rfl ?_) | (with_reducible refine wpList_load_by rfl rfl hS.out rfl ?_) | (with_reducible refine wpList_load_wanted rfl rfl hS.out rfl ?_) | (with_reducible refine wpList_exec rfl (exec_eql _ rfl rfl rfl guard34 (HE1.out _)) ?_) | (with_reducible refine wpList_exec rfl (exec_eql _ rfl rfl rfl guard24 (HE2.out _)) ?_) | fail)
            go_ret
            first | refine ⟨ret_bool (Eq.trans ?_ HR.out), BZ.out⟩ | refine ⟨ret_bool (Eq.trans ?_ HR.out), B1.out⟩
            simp [kindB, h1, h2, k0, k1, k2]
    · have q2 : decide (1099511627776 < t) = true := decide_eq_true (by omega)
      go_wp2_with (first | (with_reducible refine wpList_load_by rfl rfl hT.out rfl ?_) | (with_reducible refine wpList_load_wanted rfl rfl hT.out rfl ?_) | fail)
      go_ret
      exact ⟨ret_bool (Eq.trans (by simp [h1, show ¬ t ≤ 1099511627776 by omega]) HR.out), B1.out⟩
  · have q1 : decide (t < 1) = true := decide_eq_true (by omega)
    go_wp2_with (first | (with_reducible refine wpList_load_by rfl rfl hT.out rfl ?_) | (with_reducible refine wpList_load_wanted rfl rfl hT.out rfl ?_) | fail)
    go_ret
    exact ⟨ret_bool (Eq.trans (by simp [show ¬ 1 ≤ t by omega]) HR.out), B1.out⟩
end Go.Proofs.Ythlghmechldegaa
