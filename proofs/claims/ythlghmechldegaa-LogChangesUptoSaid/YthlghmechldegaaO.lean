/- The last place of a log, both sides. -/
import Derived.Test.YthlghmechldegaaN
namespace Go.Proofs.Ythlghmechldegaa
open Go.RowKit Go.Deep Go.Joins
set_option maxRecDepth 100000
/-- The last index and its term. -/
def lastV (l : Lg) (L : List En) : Int × Int := if h : 0 < L.length then (l.base + L.length, (L[L.length - 1]'(by omega)).term) else (l.base, l.bt)
theorem near_lbase {w : World} {b : Nat} {l : Lg} (k : LBox w b l) (w' : World) (hw : ∃ p : Near w, w' = p.wx) : (Instr.loadAt 22 (.pointer (some ⟨b, 0, none⟩))).run Try.prog w' = .ok (.int .u64 l.base) w' := by
  obtain ⟨p, rfl⟩ := hw
  exact (k.next p.near).base
theorem near_lbt {w : World} {b : Nat} {l : Lg} (k : LBox w b l) (w' : World) (hw : ∃ p : Near w, w' = p.wx) : (Instr.loadAt 22 (.pointer (some ⟨b, 1, none⟩))).run Try.prog w' = .ok (.int .u64 l.bt) w' := by
  obtain ⟨p, rfl⟩ := hw
  exact (k.next p.near).bt
theorem near_llist {w : World} {b : Nat} {l : Lg} (k : LBox w b l) (w' : World) (hw : ∃ p : Near w, w' = p.wx) : (Instr.loadAt 25 (.pointer (some ⟨b, 9, none⟩))).run Try.prog w' = .ok l.lv w' := by
  obtain ⟨p, rfl⟩ := hw
  exact (k.next p.near).list
set_option maxHeartbeats 2000000 in
theorem last_any (l : Lg) (L : List En) (W : World) (hl : EAt W l.lv L) (h0 : 0 ≤ l.base) (h1 : l.base ≤ 1152921504606846976) (hlen : L.length ≤ 1152921504606846976) : Calls Try.prog 11 #[lgV l] W fun r W' => r = .returned (.tuple #[.int .u64 (lastV l L).1, .int .u64 (lastV l L).2]) ∧ Below W.heap.size W W' := by
  obtain ⟨q, c, hq⟩ := hl.is
  obtain ⟨base, bt, s, lv⟩ := l
  dsimp only at hl hq h0 h1
  subst hq
  have HL := Lib.hid hl
  clear hl
  rcases Nat.eq_zero_or_pos L.length with hz | hz
  · obtain rfl : L = [] := List.eq_nil_of_length_eq_zero hz
    clear hz hlen HL
    show Calls _ _ _ _ fun r W' => r = .returned (.tuple #[.int .u64 base, .int .u64 bt]) ∧ _
    go_enter Try.func11, Try.ntmps11
    go_upto_region 1 with (fail)
    have X := Lib.hid (Lb.start W ⟨base, bt, s, .slice q ([] : List En).length c⟩)
    generalize W.alloc (lgO ⟨base, bt, s, .slice q ([] : List En).length c⟩) = w0 at *
    go_upto_region 3 with (first | (with_reducible refine wpList_load_by rfl rfl X.out.box.list rfl ?_) | fail)
    have hne : Nonempty (Near w0) := ⟨⟨w0, Below.refl _ _⟩⟩
    refine wp_region_near (by kernel_rfl) (by kernel_rfl) ?_
    repeat (first | (go_big_quiet_want; (with_reducible refine quiet_by _ (fun w hw => exec_load (t := 22) rfl (near_lbase X.out.box w hw) rfl) ?_); simp only [Act.put, List.setIfInBounds_toArray, List.set_cons_zero, List.set_cons_succ]; go_big_quiet_on) | (go_big_quiet_want; (with_reducible refine quiet_by _ (fun w hw => exec_load (t := 22) rfl (near_lbt X.out.box w hw) rfl) ?_); simp only [Act.put, List.setIfInBounds_toArray, List.set_cons_zero, List.set_cons_succ]; go_big_quiet_on) | go_big_quiet_step (first | fail | fail))
    refine wpQuiet_nil ?_
    rintro _ ⟨pn, rfl⟩
    have X1 := Lib.hid (X.out.next pn.near)
    generalize pn.wx = w1 at *
    go_wp2
    go_ret2
    exact ⟨rfl, X1.out.below⟩
  · obtain ⟨g, off, hqq, hc⟩ := ent_at HL.out hz
    subst hqq
    have hlt : L.length - 1 < L.length := by omega
    have HV := Lib.hid (show lastV ⟨base, bt, s, .slice (some ⟨g, off, none⟩) L.length c⟩ L = (base + L.length, (L[L.length - 1]).term) from by unfold lastV; rw [dif_pos hz])
    have HI := Lib.hid (show ∀ w : World, (Instr.indexAt 25 (.slice (some ⟨g, off, none⟩) L.length c) (.int .i64 ((L.length : Int) - 1))).run Try.prog w = .ok (.pointer (some ⟨g, off + (L.length - 1) * 13, none⟩)) w from fun w => by
      rw [show (L.length : Int) - 1 = ((L.length - 1 : Nat) : Int) from by omega]
      exact run_idx w g off _ c _ hlt)
    rw [HV.out]
    dsimp only
    clear HV
    have HC := Lib.hid (show ∀ w, Below W.heap.size W w → (Instr.loadAt 22 (.pointer (some ⟨g, off + (L.length - 1) * 13, none⟩))).run Try.prog w = .ok (.int .u64 (L[L.length - 1]).term) w from fun w hw => term_load w g _ _ (hc _ hlt w hw))
    clear hc
    generalize (L[L.length - 1]).term = t at *
    have hzn : ((L.length : Int) == 0) = false := by rw [beq_eq_false_iff_ne]; omega
    go_enter Try.func11, Try.ntmps11
    go_upto_region 1 with (fail)
    have X := Lib.hid (Lb.start W ⟨base, bt, s, .slice (some ⟨g, off, none⟩) L.length c⟩)
    generalize W.alloc (lgO ⟨base, bt, s, .slice (some ⟨g, off, none⟩) L.length c⟩) = w0 at *
    have HT := Lib.hid (show ∀ w', (∃ p : Near w0, w' = p.wx) → (Instr.loadAt 22 (.pointer (some ⟨g, off + (L.length - 1) * 13, none⟩))).run Try.prog w' = .ok (.int .u64 t) w' from fun w' ⟨p, hp⟩ => by subst hp; exact HC.out _ (below_then X.out.below (Nat.le_refl _) p.near))
    go_upto_region 4 with (first | (with_reducible refine wpList_load_by rfl rfl X.out.box.list rfl ?_) | fail)
    have hne : Nonempty (Near w0) := ⟨⟨w0, Below.refl _ _⟩⟩
    refine wp_region_near (by kernel_rfl) (by kernel_rfl) ?_
    repeat (first | (go_big_quiet_want; (with_reducible refine quiet_by _ (fun w hw => exec_load (t := 22) rfl (near_lbase X.out.box w hw) rfl) ?_); simp only [Act.put, List.setIfInBounds_toArray, List.set_cons_zero, List.set_cons_succ]; go_big_quiet_on) | (go_big_quiet_want; (with_reducible refine quiet_by _ (fun w hw => exec_load (t := 22) rfl (near_lbt X.out.box w hw) rfl) ?_); simp only [Act.put, List.setIfInBounds_toArray, List.set_cons_zero, List.set_cons_succ]; go_big_quiet_on) | (go_big_quiet_want; (with_reducible refine quiet_by _ (fun w hw => exec_load (t := 25) rfl (near_llist X.out.box w hw) rfl) ?_); simp only [Act.put, List.setIfInBounds_toArray, List.set_cons_zero, List.set_cons_succ]; go_big_quiet_on) | (go_big_quiet_want; (with_reducible refine quiet_by _ (fun w hw => exec_ix rfl rfl rfl (HI.out w)) ?_); simp only [Act.put, List.setIfInBounds_toArray, List.set_cons_zero, List.set_cons_succ]; go_big_quiet_on) | (go_big_quiet_want; (with_reducible refine quiet_by _ (fun w hw => exec_load (t := 22) rfl (HT.out w hw) rfl) ?_); simp only [Act.put, List.setIfInBounds_toArray, List.set_cons_zero, List.set_cons_succ]; go_big_quiet_on) | go_big_quiet_step (first | fail | fail))
    refine wpQuiet_nil ?_
    rintro _ ⟨pn, rfl⟩
    have X1 := Lib.hid (X.out.next pn.near)
    generalize pn.wx = w1 at *
    go_wp2
    go_ret2
    exact ⟨rfl, X1.out.below⟩
set_option maxHeartbeats 2000000 in
theorem rlast_any (l : Lg) (L : List En) (W : World) (hl : EAt W l.lv L) (h0 : 0 ≤ l.base) (h1 : l.base ≤ 1152921504606846976) (hlen : L.length ≤ 1152921504606846976) : Calls Try.prog 12 #[lgV l] W fun r W' => r = .returned (.tuple #[.int .u64 (lastV l L).1, .int .u64 (lastV l L).2]) ∧ Below W.heap.size W W' := by
  obtain ⟨q, c, hq⟩ := hl.is
  obtain ⟨base, bt, s, lv⟩ := l
  dsimp only at hl hq h0 h1
  subst hq
  have HL := Lib.hid hl
  clear hl
  rcases Nat.eq_zero_or_pos L.length with hz | hz
  · obtain rfl : L = [] := List.eq_nil_of_length_eq_zero hz
    clear hz hlen HL
    show Calls _ _ _ _ fun r W' => r = .returned (.tuple #[.int .u64 base, .int .u64 bt]) ∧ _
    go_enter Try.func12, Try.ntmps12
    go_upto_region 1 with (fail)
    have X := Lib.hid (Lb.start W ⟨base, bt, s, .slice q ([] : List En).length c⟩)
    generalize W.alloc (lgO ⟨base, bt, s, .slice q ([] : List En).length c⟩) = w0 at *
    go_upto_region 2 with (first | (with_reducible refine wpList_load_by rfl rfl X.out.box.list rfl ?_) | fail)
    have hne : Nonempty (Near w0) := ⟨⟨w0, Below.refl _ _⟩⟩
    refine wp_region_near (by kernel_rfl) (by kernel_rfl) ?_
    repeat (first | (go_big_quiet_want; (with_reducible refine quiet_by _ (fun w hw => exec_load (t := 22) rfl (near_lbase X.out.box w hw) rfl) ?_); simp only [Act.put, List.setIfInBounds_toArray, List.set_cons_zero, List.set_cons_succ]; go_big_quiet_on) | (go_big_quiet_want; (with_reducible refine quiet_by _ (fun w hw => exec_load (t := 22) rfl (near_lbt X.out.box w hw) rfl) ?_); simp only [Act.put, List.setIfInBounds_toArray, List.set_cons_zero, List.set_cons_succ]; go_big_quiet_on) | go_big_quiet_step (first | fail | fail))
    refine wpQuiet_nil ?_
    rintro _ ⟨pn, rfl⟩
    have X1 := Lib.hid (X.out.next pn.near)
    generalize pn.wx = w1 at *
    go_wp2
    go_ret2
    exact ⟨rfl, X1.out.below⟩
  · obtain ⟨g, off, hqq, hc⟩ := ent_at HL.out hz
    subst hqq
    have hlt : L.length - 1 < L.length := by omega
    have HV := Lib.hid (show lastV ⟨base, bt, s, .slice (some ⟨g, off, none⟩) L.length c⟩ L = (base + L.length, (L[L.length - 1]).term) from by unfold lastV; rw [dif_pos hz])
    have HI := Lib.hid (show ∀ w : World, (Instr.indexAt 25 (.slice (some ⟨g, off, none⟩) L.length c) (.int .i64 ((L.length : Int) - 1))).run Try.prog w = .ok (.pointer (some ⟨g, off + (L.length - 1) * 13, none⟩)) w from fun w => by
      rw [show (L.length : Int) - 1 = ((L.length - 1 : Nat) : Int) from by omega]
      exact run_idx w g off _ c _ hlt)
    rw [HV.out]
    dsimp only
    clear HV
    have HC := Lib.hid (show ∀ w, Below W.heap.size W w → (Instr.loadAt 22 (.pointer (some ⟨g, off + (L.length - 1) * 13, none⟩))).run Try.prog w = .ok (.int .u64 (L[L.length - 1]).term) w from fun w hw => term_load w g _ _ (hc _ hlt w hw))
    clear hc
    generalize (L[L.length - 1]).term = t at *
    have hzn : ((L.length : Int) == 0) = false := by rw [beq_eq_false_iff_ne]; omega
    go_enter Try.func12, Try.ntmps12
    go_upto_region 1 with (fail)
    have X := Lib.hid (Lb.start W ⟨base, bt, s, .slice (some ⟨g, off, none⟩) L.length c⟩)
    generalize W.alloc (lgO ⟨base, bt, s, .slice (some ⟨g, off, none⟩) L.length c⟩) = w0 at *
    have HT := Lib.hid (show ∀ w', (∃ p : Near w0, w' = p.wx) → (Instr.loadAt 22 (.pointer (some ⟨g, off + (L.length - 1) * 13, none⟩))).run Try.prog w' = .ok (.int .u64 t) w' from fun w' ⟨p, hp⟩ => by subst hp; exact HC.out _ (below_then X.out.below (Nat.le_refl _) p.near))
    go_upto_region 3 with (first | (with_reducible refine wpList_load_by rfl rfl X.out.box.list rfl ?_) | fail)
    have hne : Nonempty (Near w0) := ⟨⟨w0, Below.refl _ _⟩⟩
    refine wp_region_near (by kernel_rfl) (by kernel_rfl) ?_
    repeat (first | (go_big_quiet_want; (with_reducible refine quiet_by _ (fun w hw => exec_load (t := 22) rfl (near_lbase X.out.box w hw) rfl) ?_); simp only [Act.put, List.setIfInBounds_toArray, List.set_cons_zero, List.set_cons_succ]; go_big_quiet_on) | (go_big_quiet_want; (with_reducible refine quiet_by _ (fun w hw => exec_load (t := 22) rfl (near_lbt X.out.box w hw) rfl) ?_); simp only [Act.put, List.setIfInBounds_toArray, List.set_cons_zero, List.set_cons_succ]; go_big_quiet_on) | (go_big_quiet_want; (with_reducible refine quiet_by _ (fun w hw => exec_load (t := 25) rfl (near_llist X.out.box w hw) rfl) ?_); simp only [Act.put, List.setIfInBounds_toArray, List.set_cons_zero, List.set_cons_succ]; go_big_quiet_on) | (go_big_quiet_want; (with_reducible refine quiet_by _ (fun w hw => exec_ix rfl rfl rfl (HI.out w)) ?_); simp only [Act.put, List.setIfInBounds_toArray, List.set_cons_zero, List.set_cons_succ]; go_big_quiet_on) | (go_big_quiet_want; (with_reducible refine quiet_by _ (fun w hw => exec_load (t := 22) rfl (HT.out w hw) rfl) ?_); simp only [Act.put, List.setIfInBounds_toArray, List.set_cons_zero, List.set_cons_succ]; go_big_quiet_on) | go_big_quiet_step (first | fail | fail))
    refine wpQuiet_nil ?_
    rintro _ ⟨pn, rfl⟩
    have X1 := Lib.hid (X.out.next pn.near)
    generalize pn.wx = w1 at *
    go_wp2
    go_ret2
    exact ⟨rfl, X1.out.below⟩
end Go.Proofs.Ythlghmechldegaa
