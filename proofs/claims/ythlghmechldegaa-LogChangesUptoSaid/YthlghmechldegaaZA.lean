/- Copies of logs, both sides; the same log; Add of the reference. -/
import Derived.Test.YthlghmechldegaaYG
import Derived.Test.YthlghmechldegaaDX
namespace Go.Proofs.Ythlghmechldegaa
open Go.RowKit Go.Deep Go.Joins
set_option maxRecDepth 100000
/-- A copy of a log. -/
def Copied (W : World) (l : Lg) (L : List En) (r : Ending) (W' : World) : Prop := ∃ q c, r = .returned (lgV { l with lv := .slice q L.length c }) ∧ OwnE W' W.heap.size (.slice q L.length c) L ∧ Below W.heap.size W W'
theorem EAt.lok {w : World} {l : Lg} {L : List En} (h : EAt w l.lv L) : LOk l := by
  obtain ⟨p, c, e⟩ := h.is
  exact ⟨p, _, c, e⟩
set_option maxHeartbeats 2000000 in
theorem copy_any (l : Lg) (L : List En) (W : World) (hl : EAt W l.lv L) (hn : L.length * 64 ≤ 140737488355328) : Calls Try.prog 32 #[lgV l] W (Copied W l L) := by
  obtain ⟨p, d, hq⟩ := hl.is
  obtain ⟨base, bt, s, lv⟩ := l
  dsimp only at hl hq
  subst hq
  obtain ⟨N, hN⟩ : ∃ N, L.length = N := ⟨_, rfl⟩
  have CC := Lib.hid (show ∀ w, Below W.heap.size W w → Calls Try.prog 42 #[.slice p N d] w (fun r W' => ∃ q c, r = .returned (.slice q N c) ∧ World.ownsRow W' w.heap.size 36 13 (.slice q N c) N (eC L) ∧ Below w.heap.size w W') from fun w hw => by
    have h := clone_any p d L w (hl.below hw) hn
    unfold OwnE at h
    rwa [hN] at h)
  have HC := Lib.hid (show ∀ r W', (∃ q c, r = .returned (lgV ⟨base, bt, s, .slice q N c⟩) ∧ World.ownsRow W' W.heap.size 36 13 (.slice q N c) N (eC L) ∧ Below W.heap.size W W') → Copied W ⟨base, bt, s, .slice p L.length d⟩ L r W' from fun r W' ⟨q, c, h1, h2, h3⟩ => ⟨q, c, by rw [hN]; exact h1, by unfold OwnE; rw [hN]; exact h2, h3⟩)
  rw [hN] at HC ⊢
  clear hl hn hN
  go_enter Try.func32, Try.ntmps32
  go_upto_region 1 with (fail)
  have X := Lib.hid (show Lr W ((W.alloc (lgO ⟨base, bt, s, .slice p N d⟩)).alloc (Obj.cells zlgC 27)) ⟨base, bt, s, .slice p N d⟩ zeroLg from Lr.start W _ zeroLg)
  generalize (W.alloc (lgO ⟨base, bt, s, .slice p N d⟩)).alloc (Obj.cells zlgC 27) = w0 at *
  have CC := Lib.hid (CC.out w0 X.out.below)
  go_upto_region 2 with (first | (with_reducible refine wpList_load_by rfl rfl X.out.box.list rfl ?_) | (go_at_call 42; (with_reducible refine CC.out.mono ?_); rintro r wb ⟨q, c, rfl, ho, kk⟩; have HO := Lib.hid (owns_base ho X.out.res.lt); have X := Lib.hid (X.out.next kk); clear ho kk) | (with_reducible refine wpList_store_by rfl rfl (X.out.box.putList _ _ _) rfl rfl ?_) | fail)
  have X1 := Lib.hid (X.out.put ⟨base, bt, s, .slice q N c⟩)
  have HO1 := Lib.hid (show World.ownsRow (wb.setRow W.heap.size (lgC ⟨base, bt, s, .slice q N c⟩)) (W.heap.size + 2) 36 13 (.slice q N c) _ (eC L) from owns_same HO.out fun g hg => setRow_other _ _ _ _ (by have := (owns_lt HO.out hg).1; omega))
  clear X HO
  generalize (wb.setRow W.heap.size (lgC ⟨base, bt, s, .slice q N c⟩)) = w6 at *
  try simp only [put_none]
  have X2 := Lib.hid (X1.out.tell ⟨base, bt, s, .slice q N c⟩)
  have HF := Lib.hid (X1.out.res.full ⟨base, bt, s, .slice q N c⟩ ⟨_, _, _, rfl⟩)
  have HO2 := Lib.hid (show World.ownsRow (w6.setRow (W.heap.size + 1) (lgC ⟨base, bt, s, .slice q N c⟩)) (W.heap.size + 2) 36 13 (.slice q N c) _ (eC L) from owns_same HO1.out fun g hg => setRow_other _ _ _ _ (by have := (owns_lt HO1.out hg).1; omega))
  go_wp2_with (first | (with_reducible refine wpList_load_by rfl rfl X1.out.box.load rfl ?_) | (with_reducible refine wpList_store_by rfl rfl HF.out rfl rfl ?_) | fail)
  exact bodyPost_ret (v := lgV ⟨base, bt, s, .slice q N c⟩) (results_lg1 Try.results32 _ _ (W.heap.size + 1) _ rfl X2.out.res) rfl (HC.out _ _ ⟨q, c, rfl, owns_base HO2.out (by omega), X2.out.below⟩)
set_option maxHeartbeats 2000000 in
theorem rcopy_any (l : Lg) (L : List En) (W : World) (hl : EAt W l.lv L) (hn : L.length * 64 ≤ 140737488355328) : Calls Try.prog 24 #[lgV l] W (Copied W l L) := by
  obtain ⟨p, d, hq⟩ := hl.is
  obtain ⟨base, bt, s, lv⟩ := l
  dsimp only at hl hq
  subst hq
  obtain ⟨N, hN⟩ : ∃ N, L.length = N := ⟨_, rfl⟩
  have CC := Lib.hid (show ∀ w, Below W.heap.size W w → ∃ q c w2, (Builtin.append_ #[25, 25] 25 #[.slice (some ⟨w.heap.size, 0, none⟩) 0 0, .slice p N d]).run Try.prog (w.alloc (.cells #[] 36)) = .ok (.slice q N c) w2 ∧ World.ownsRow w2 w.heap.size 36 13 (.slice q N c) N (eC L) ∧ Below w.heap.size w w2 from fun w hw => by
    obtain ⟨i, hi, hz, hs, hby⟩ := info36
    have hb := below1 w (.cells #[] 36)
    obtain ⟨q2, c2, w2, hrun, ho2, ht⟩ := app_row (ty := 25) Try.underlying25 hi hz hs hby rfl (by omega) (owns_empty (B := w.heap.size) (size := 13) (heap_alloc_new w (.cells #[] 36)) (Nat.le_refl _)) ((hl.below hw).below hb) (eC_one _) (by unfold maxLen; omega) (by omega) (by simp)
    rw [Nat.zero_add, List.nil_append] at ho2
    rw [Nat.zero_add] at hrun
    rw [hN] at hrun ho2
    exact ⟨q2, c2, w2, hrun, ho2, Touch.below hb ht (fun g hg => by simp [Value.ownBlock] at hg; omega) (by simp)⟩)
  have HC := Lib.hid (show ∀ r W', (∃ q c, r = .returned (lgV ⟨base, bt, s, .slice q N c⟩) ∧ World.ownsRow W' W.heap.size 36 13 (.slice q N c) N (eC L) ∧ Below W.heap.size W W') → Copied W ⟨base, bt, s, .slice p L.length d⟩ L r W' from fun r W' ⟨q, c, h1, h2, h3⟩ => ⟨q, c, by rw [hN]; exact h1, by unfold OwnE; rw [hN]; exact h2, h3⟩)
  rw [hN] at HC ⊢
  clear hl hn hN
  go_enter Try.func24, Try.ntmps24
  go_upto_region 1 with (fail)
  have X := Lib.hid (show Lr W ((W.alloc (lgO ⟨base, bt, s, .slice p N d⟩)).alloc (Obj.cells zlgC 27)) ⟨base, bt, s, .slice p N d⟩ zeroLg from Lr.start W _ zeroLg)
  generalize (W.alloc (lgO ⟨base, bt, s, .slice p N d⟩)).alloc (Obj.cells zlgC 27) = w0 at *
  obtain ⟨q, c, wb, hrun, ho, kk⟩ := CC.out w0 X.out.below
  have HR := Lib.hid hrun
  have Y := Lib.hid (X.out.next (below1 w0 (.cells #[] 36)))
  have HO := Lib.hid (owns_base ho X.out.res.lt)
  have X2 := Lib.hid (X.out.next kk)
  clear hrun ho kk
  go_upto_region 2 with (first | (with_reducible refine wpList_load_by rfl rfl Y.out.box.list rfl ?_) | (at_builtin; (refine wpList_append_run rfl (.tmp 3) (.tmp 5) 25 rfl _ _ _ rfl rfl _ HR.out ?_)) | (with_reducible refine wpList_store_by rfl rfl (X2.out.box.putList _ _ _) rfl rfl ?_) | fail)
  have X := X2
  clear X2 Y
  have X1 := Lib.hid (X.out.put ⟨base, bt, s, .slice q N c⟩)
  have HO1 := Lib.hid (show World.ownsRow (wb.setRow W.heap.size (lgC ⟨base, bt, s, .slice q N c⟩)) (W.heap.size + 2) 36 13 (.slice q N c) _ (eC L) from owns_same HO.out fun g hg => setRow_other _ _ _ _ (by have := (owns_lt HO.out hg).1; omega))
  clear X HO
  generalize (wb.setRow W.heap.size (lgC ⟨base, bt, s, .slice q N c⟩)) = w6 at *
  try simp only [put_none]
  have X2 := Lib.hid (X1.out.tell ⟨base, bt, s, .slice q N c⟩)
  have HF := Lib.hid (X1.out.res.full ⟨base, bt, s, .slice q N c⟩ ⟨_, _, _, rfl⟩)
  have HO2 := Lib.hid (show World.ownsRow (w6.setRow (W.heap.size + 1) (lgC ⟨base, bt, s, .slice q N c⟩)) (W.heap.size + 2) 36 13 (.slice q N c) _ (eC L) from owns_same HO1.out fun g hg => setRow_other _ _ _ _ (by have := (owns_lt HO1.out hg).1; omega))
  go_wp2_with (first | (with_reducible refine wpList_load_by rfl rfl X1.out.box.load rfl ?_) | (with_reducible refine wpList_store_by rfl rfl HF.out rfl rfl ?_) | fail)
  exact bodyPost_ret (v := lgV ⟨base, bt, s, .slice q N c⟩) (results_lg1 Try.results24 _ _ (W.heap.size + 1) _ rfl X2.out.res) rfl (HC.out _ _ ⟨q, c, rfl, owns_base HO2.out (by omega), X2.out.below⟩)
set_option maxHeartbeats 2000000 in
theorem same_log (base bt : Int) (s : Nat → Bool) (p q : Option Addr) (c d : Nat) (L : List En) (W : World) (h1 : EAt W (.slice p L.length c) L) (h2 : EAt W (.slice q L.length d) L) : Calls Try.prog 27 #[lgV ⟨base, bt, s, .slice p L.length c⟩, lgV ⟨base, bt, s, .slice q L.length d⟩] W fun r W' => r = .returned (.bool true) ∧ Below W.heap.size W W' := by
  have CS := Lib.hid (fun w (hw : Below W.heap.size W w) => same_any p q c d L w (h1.below hw) (h2.below hw))
  have HQ := Lib.hid (show ∀ w : World, (Op.equalIn 10000 24 (setV s) (setV s)).run Try.prog w = .ok true w from fun w => (eq_set 9998 s s w).trans (by rw [show setEq s s = true from by simp [setEq]]))
  clear h1 h2
  generalize L.length = N at *
  go_enter Try.func27, Try.ntmps27
  go_upto_region 1 with (fail)
  have X := Lib.hid (Lr.start W ⟨base, bt, s, .slice p N c⟩ ⟨base, bt, s, .slice q N d⟩)
  generalize (W.alloc (lgO ⟨base, bt, s, .slice p N c⟩)).alloc (lgO ⟨base, bt, s, .slice q N d⟩) = w0 at *
  have CS := Lib.hid (CS.out w0 X.out.below)
  go_wp2_with (first | (with_reducible refine wpList_load_by rfl rfl X.out.box.base rfl ?_) | (with_reducible refine wpList_load_by rfl rfl X.out.res.base rfl ?_) | (with_reducible refine wpList_load_wanted rfl rfl X.out.box.bt rfl ?_) | (with_reducible refine wpList_load_wanted rfl rfl X.out.res.bt rfl ?_) | (with_reducible refine wpList_load_wanted rfl rfl X.out.box.set rfl ?_) | (with_reducible refine wpList_load_wanted rfl rfl X.out.res.set rfl ?_) | (with_reducible refine wpList_exec rfl (exec_eql _ rfl rfl rfl guard24 (HQ.out _)) ?_) | (with_reducible refine wpList_load_wanted rfl rfl X.out.box.list rfl ?_) | (with_reducible refine wpList_load_wanted rfl rfl X.out.res.list rfl ?_) | (go_at_call 21; (with_reducible refine CS.out.mono ?_); rintro r wb ⟨rfl, kk⟩; have HB := Lib.hid (below_then X.out.below (Nat.le_refl _) kk); clear kk) | fail)
  go_ret
  exact ⟨rfl, HB.out⟩
end Go.Proofs.Ythlghmechldegaa
