/- Newer of both sides; the same list; a copy of a list. -/
import Derived.Test.YthlghmechldegaaYD
import Derived.Lib.SliceRun
namespace Go.Proofs.Ythlghmechldegaa
open Go.RowKit Go.Deep Go.Joins
set_option maxRecDepth 100000
def newB (l : Lg) (L : List En) (i t : Int) : Bool := decide ((lastV l L).2 < t) || (t == (lastV l L).2 && decide ((lastV l L).1 ≤ i))
set_option maxHeartbeats 2000000 in
theorem newer_any (l : Lg) (L : List En) (i t : Int) (W : World) (hl : EAt W l.lv L) (h0 : 0 ≤ l.base) (h1 : l.base ≤ 1152921504606846976) (hlen : L.length ≤ 1152921504606846976) : Calls Try.prog 19 #[lgV l, .int .u64 i, .int .u64 t] W fun r W' => r = .returned (.bool (newB l L i t)) ∧ Below W.heap.size W W' := by
  have CL := Lib.hid (fun w (hw : Below W.heap.size W w) => last_any l L w (hl.below hw) h0 h1 hlen)
  unfold newB
  generalize (lastV l L).1 = a at *
  generalize (lastV l L).2 = b at *
  clear hl h0 h1
  by_cases h2 : b < t
  · have q1 : decide (b < t) = true := decide_eq_true h2
    rw [q1, Bool.true_or]
    go_enter Try.func19, Try.ntmps19
    go_upto_region 1 with (fail)
    have X := Lib.hid (Lb.start W l)
    have HB := Lib.hid (below1 W (lgO l))
    generalize W.alloc (lgO l) = w0 at *
    have CL := Lib.hid (CL.out w0 HB.out)
    go_wp2_with (first | (with_reducible refine wpList_load_by rfl rfl X.out.box.load rfl ?_) | (go_at_call 11; (with_reducible refine CL.out.mono ?_); rintro r wb ⟨rfl, kk⟩; have X := Lib.hid (X.out.next kk); clear kk) | fail)
    go_ret
    exact ⟨rfl, X.out.below⟩
  · have q1 : decide (b < t) = false := decide_eq_false h2
    rw [q1, Bool.false_or]
    by_cases h3 : t = b
    · have q2 : (t == b) = true := by rw [beq_iff_eq]; exact h3
      rw [q2, Bool.true_and]
      go_enter Try.func19, Try.ntmps19
      go_upto_region 1 with (fail)
      have X := Lib.hid (Lb.start W l)
      have HB := Lib.hid (below1 W (lgO l))
      generalize W.alloc (lgO l) = w0 at *
      have CL := Lib.hid (CL.out w0 HB.out)
      go_wp2_with (first | (with_reducible refine wpList_load_by rfl rfl X.out.box.load rfl ?_) | (go_at_call 11; (with_reducible refine CL.out.mono ?_); rintro r wb ⟨rfl, kk⟩; have X := Lib.hid (X.out.next kk); clear kk) | fail)
      go_ret
      exact ⟨rfl, X.out.below⟩
    · have q2 : (t == b) = false := by rw [beq_eq_false_iff_ne]; exact h3
      rw [q2, Bool.false_and]
      go_enter Try.func19, Try.ntmps19
      go_upto_region 1 with (fail)
      have X := Lib.hid (Lb.start W l)
      have HB := Lib.hid (below1 W (lgO l))
      generalize W.alloc (lgO l) = w0 at *
      have CL := Lib.hid (CL.out w0 HB.out)
      go_wp2_with (first | (with_reducible refine wpList_load_by rfl rfl X.out.box.load rfl ?_) | (go_at_call 11; (with_reducible refine CL.out.mono ?_); rintro r wb ⟨rfl, kk⟩; have X := Lib.hid (X.out.next kk); clear kk) | fail)
      go_ret
      exact ⟨rfl, X.out.below⟩
set_option maxHeartbeats 2000000 in
theorem rnewer_any (l : Lg) (L : List En) (i t : Int) (W : World) (hl : EAt W l.lv L) (h0 : 0 ≤ l.base) (h1 : l.base ≤ 1152921504606846976) (hlen : L.length ≤ 1152921504606846976) : Calls Try.prog 20 #[lgV l, .int .u64 i, .int .u64 t] W fun r W' => r = .returned (.bool (newB l L i t)) ∧ Below W.heap.size W W' := by
  have CL := Lib.hid (fun w (hw : Below W.heap.size W w) => rlast_any l L w (hl.below hw) h0 h1 hlen)
  unfold newB
  generalize (lastV l L).1 = a at *
  generalize (lastV l L).2 = b at *
  clear hl h0 h1
  by_cases h2 : b < t
  · have q1 : decide (b < t) = true := decide_eq_true h2
    rw [q1, Bool.true_or]
    go_enter Try.func20, Try.ntmps20
    go_upto_region 1 with (fail)
    have X := Lib.hid (Lb.start W l)
    have HB := Lib.hid (below1 W (lgO l))
    generalize W.alloc (lgO l) = w0 at *
    have CL := Lib.hid (CL.out w0 HB.out)
    go_wp2_with (first | (with_reducible refine wpList_load_by rfl rfl X.out.box.load rfl ?_) | (go_at_call 12; (with_reducible refine CL.out.mono ?_); rintro r wb ⟨rfl, kk⟩; have X := Lib.hid (X.out.next kk); clear kk) | fail)
    go_ret
    exact ⟨rfl, X.out.below⟩
  · have q1 : decide (b < t) = false := decide_eq_false h2
    rw [q1, Bool.false_or]
    by_cases h3 : t = b
    · have q2 : (t == b) = true := by rw [beq_iff_eq]; exact h3
      rw [q2, Bool.true_and]
      go_enter Try.func20, Try.ntmps20
      go_upto_region 1 with (fail)
      have X := Lib.hid (Lb.start W l)
      have HB := Lib.hid (below1 W (lgO l))
      generalize W.alloc (lgO l) = w0 at *
      have CL := Lib.hid (CL.out w0 HB.out)
      go_wp2_with (first | (with_reducible refine wpList_load_by rfl rfl X.out.box.load rfl ?_) | (go_at_call 12; (with_reducible refine CL.out.mono ?_); rintro r wb ⟨rfl, kk⟩; have X := Lib.hid (X.out.next kk); clear kk) | fail)
      go_ret
      exact ⟨rfl, X.out.below⟩
    · have q2 : (t == b) = false := by rw [beq_eq_false_iff_ne]; exact h3
      rw [q2, Bool.false_and]
      go_enter Try.func20, Try.ntmps20
      go_upto_region 1 with (fail)
      have X := Lib.hid (Lb.start W l)
      have HB := Lib.hid (below1 W (lgO l))
      generalize W.alloc (lgO l) = w0 at *
      have CL := Lib.hid (CL.out w0 HB.out)
      go_wp2_with (first | (with_reducible refine wpList_load_by rfl rfl X.out.box.load rfl ?_) | (go_at_call 12; (with_reducible refine CL.out.mono ?_); rintro r wb ⟨rfl, kk⟩; have X := Lib.hid (X.out.next kk); clear kk) | fail)
      go_ret
      exact ⟨rfl, X.out.below⟩
theorem enEq_self (e : En) : enEq e e = true := by
  simp [enEq, inEq, setEq]
theorem near_ent {W w : World} {g o : Nat} {e : En} (hb : Below W.heap.size W w) (h : ∀ w, Below W.heap.size W w → (Instr.loadAt 36 (.pointer (some ⟨g, o, none⟩))).run Try.prog w = .ok (enV e) w) (w' : World) (hw : ∃ p : Near w, w' = p.wx) : (Instr.loadAt 36 (.pointer (some ⟨g, o, none⟩))).run Try.prog w' = .ok (enV e) w' := by
  obtain ⟨p, rfl⟩ := hw
  exact h _ (below_then hb (Nat.le_refl _) p.near)
set_option maxHeartbeats 2000000 in
theorem same_any (p q : Option Addr) (c d : Nat) (L : List En) (W : World) (h1 : EAt W (.slice p L.length c) L) (h2 : EAt W (.slice q L.length d) L) : Calls Try.prog 21 #[.slice p L.length c, .slice q L.length d] W fun r W' => r = .returned (.bool true) ∧ Below W.heap.size W W' := by
  have R1 := Lib.hid h1
  have R2 := Lib.hid h2
  have hlen := h1.le
  clear h1 h2
  go_enter Try.func21, Try.ntmps21
  go_wp2
  go_loopw [5] (fun i wr => ∃ (k : Nat), k ≤ L.length ∧ i = .int .i64 k ∧ RowKit.Hid (Below W.heap.size W wr)) (fun i _ => L.length - (intOf i).toNat)
  case atStart => exact ⟨0, by omega, rfl, Lib.hid (Below.refl _ _)⟩
  case round =>
    obtain ⟨k, hk, rfl, X⟩ := hrel
    by_cases hlt : k < L.length
    · have q5 : decide ((k : Int) < L.length) = true := decide_eq_true (by omega)
      obtain ⟨g, off, hq1, hc1⟩ := ent_at R1.out (by omega)
      obtain ⟨g2, off2, hq2, hc2⟩ := ent_at R2.out (by omega)
      subst hq1
      subst hq2
      have H1 := Lib.hid (fun w (hw : Below W.heap.size W w) => ent_load w g _ _ (hc1 k hlt w hw))
      have H2 := Lib.hid (fun w (hw : Below W.heap.size W w) => ent_load w g2 _ _ (hc2 k hlt w hw))
      have I1 := Lib.hid (fun w : World => run_idx w g off L.length c k hlt)
      have I2 := Lib.hid (fun w : World => run_idx w g2 off2 L.length d k hlt)
      have HQ := Lib.hid (show ∀ w : World, (Op.equalIn 10000 36 (enV L[k]) (enV L[k])).run Try.prog w = .ok true w from fun w => (eq_en 9997 L[k] L[k] w).trans (by rw [enEq_self]))
      clear hc1 hc2
      generalize L[k] = e at *
      go_upto_region 6 with (fail)
      have hne : Nonempty (Near wr) := ⟨⟨wr, Below.refl _ _⟩⟩
      refine wp_region_near (by kernel_rfl) (by kernel_rfl) ?_
      repeat (first | (go_big_quiet_want; (with_reducible refine quiet_by _ (fun w hw => exec_ix rfl rfl rfl (I1.out w)) ?_); simp only [Act.put, List.setIfInBounds_toArray, List.set_cons_zero, List.set_cons_succ]; go_big_quiet_on) | (go_big_quiet_want; (with_reducible refine quiet_by _ (fun w hw => exec_ix rfl rfl rfl (I2.out w)) ?_); simp only [Act.put, List.setIfInBounds_toArray, List.set_cons_zero, List.set_cons_succ]; go_big_quiet_on) | (go_big_quiet_want; (with_reducible refine quiet_by _ (fun w hw => exec_load (t := 36) rfl (near_ent X.out H1.out w hw) rfl) ?_); simp only [Act.put, List.setIfInBounds_toArray, List.set_cons_zero, List.set_cons_succ]; go_big_quiet_on) | (go_big_quiet_want; (with_reducible refine quiet_by _ (fun w hw => exec_load (t := 36) rfl (near_ent X.out H2.out w hw) rfl) ?_); simp only [Act.put, List.setIfInBounds_toArray, List.set_cons_zero, List.set_cons_succ]; go_big_quiet_on) | (go_big_quiet_want; (with_reducible refine quiet_by _ (fun w hw => exec_neq w rfl rfl rfl guard36 (HQ.out w)) ?_); simp only [Act.put, List.setIfInBounds_toArray, List.set_cons_zero, List.set_cons_succ]; go_big_quiet_on) | go_big_quiet_step (first | fail | fail))
      refine wpQuiet_nil ?_
      rintro _ ⟨pn, rfl⟩
      have X2 := Lib.hid (below_then X.out (Nat.le_refl _) pn.near)
      clear X hne
      generalize pn.wx = w1 at *
      go_wp2
      go_round
      case rel => exact ⟨k + 1, by omega, rfl, X2⟩
      case measure => simp [intOf]; omega
    · obtain rfl : k = L.length := by omega
      go_wp2
      go_ret
      exact ⟨rfl, X.out⟩
theorem owns_empty {w : World} {B g : Nat} {e : TypeId} {size : Nat} (hg : w.heap[g]? = some (.cells #[] e (0, 0))) (hB : B ≤ g) : w.ownsRow B e size (.slice (some ⟨g, 0, none⟩) 0 0) 0 [] :=
  ⟨by simp, .inr ⟨g, 0, #[], rfl, hB, hg, Nat.le_refl _, Nat.zero_le _, by simp, by simp⟩⟩
set_option maxHeartbeats 2000000 in
theorem clone_any (p : Option Addr) (c : Nat) (L : List En) (W : World) (h : EAt W (.slice p L.length c) L) (hn : L.length * 64 ≤ 140737488355328) : Calls Try.prog 42 #[.slice p L.length c] W fun r W' => ∃ q d, r = .returned (.slice q L.length d) ∧ OwnE W' W.heap.size (.slice q L.length d) L ∧ Below W.heap.size W W' := by
  cases p with
  | none =>
    have hz : L.length = 0 ∧ c = 0 := by
      rcases h.2 with ⟨e, hz⟩ | ⟨a, cap, e, _⟩
      · simp only [Value.slice.injEq] at e
        exact ⟨hz, e.2.2⟩
      · simp only [Value.slice.injEq] at e
        exact absurd e.1 (by simp)
    obtain ⟨hz, rfl⟩ := hz
    obtain rfl : L = [] := List.eq_nil_of_length_eq_zero hz
    clear h hn hz
    show Calls _ _ #[.slice none 0 0] _ _
    have hq : ∀ w : World, (binOp .eql 25 (.slice none 0 0) (.slice none 0 0)).run Try.prog w = .ok (.bool true) w := fun w => Lib.run_eql_slice_nil w 25 36 none 0 0 0 0 Try.underlying25
    go_enter Try.func42, Try.ntmps42
    go_wp2
    go_ret
    exact ⟨_, _, rfl, World.ownsRow_nil _ _ _ _, Below.refl _ _⟩
  | some a =>
    have hq : ∀ w : World, (binOp .eql 25 (.slice (some a) L.length c) (.slice none 0 0)).run Try.prog w = .ok (.bool false) w := fun w => Lib.run_eql_slice_nil w 25 36 (some a) L.length c 0 0 Try.underlying25
    obtain ⟨i, hi, hz, hs, hby⟩ := info36
    have hb := below1 W (.cells #[] 36)
    obtain ⟨q2, c2, w2, hrun, ho2, ht⟩ := app_row (ty := 25) Try.underlying25 hi hz hs hby rfl (by omega) (owns_empty (B := W.heap.size) (size := 13) (heap_alloc_new W (.cells #[] 36)) (Nat.le_refl _)) (h.below hb) (eC_one _) (by unfold maxLen; omega) (by omega) (by simp)
    rw [Nat.zero_add, List.nil_append] at ho2
    rw [Nat.zero_add] at hrun
    have HR := Lib.hid hrun
    have HO := Lib.hid (show OwnE w2 W.heap.size (.slice q2 L.length c2) L from ho2)
    have HB := Lib.hid (Touch.below (hb.mono (Nat.le_refl _)) ht (fun g hg => by simp [Value.ownBlock] at hg; omega) (by simp))
    clear hrun ho2 ht hi hz hs hby h hn hb
    go_enter Try.func42, Try.ntmps42
    go_wp2_with (first | (at_builtin; (refine wpList_append_run rfl (.tmp 5) (.tmp 6) 25 rfl _ _ _ rfl rfl _ HR.out ?_)) | fail)
    go_ret
    exact ⟨_, _, rfl, HO.out, HB.out⟩
end Go.Proofs.Ythlghmechldegaa
