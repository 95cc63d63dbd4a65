/- Members, both sides: the walks. -/
import Derived.Test.YthlghmechldegaaYB
namespace Go.Proofs.Ythlghmechldegaa
open Go.RowKit Go.Deep Go.Joins
set_option maxRecDepth 100000
theorem near_lload {w : World} {b : Nat} {l : Lg} (k : LBox w b l) (w' : World) (hw : ∃ p : Near w, w' = p.wx) : (Instr.loadAt 27 (.pointer (some ⟨b, 0, none⟩))).run Try.prog w' = .ok (lgV l) w' := by
  obtain ⟨p, rfl⟩ := hw
  exact (k.next p.near).load
theorem put_none (a : Act) (v : Value) : a.put none v = a := rfl
theorem set_nw (w : World) (f : Nat → Bool) : (Instr.storeAt 24 (.pointer (some ⟨w.heap.size, 0, none⟩)) (setV f)).run Try.prog (w.alloc (.cells noC 24)) = .ok () (w.alloc (setO f)) :=
  run_storeAt_new w 24 _ (setC f) (by rw [size24, setC_size]) (by rw [setC_size]; rfl) (set_one f)
theorem set_new2 (W : World) (A B : Obj) (f : Nat → Bool) : (Instr.storeAt 24 (.pointer (some ⟨W.heap.size + 1 + 1, 0, none⟩)) (setV f)).run Try.prog (((W.alloc A).alloc B).alloc (.cells noC 24)) = .ok () (((W.alloc A).alloc B).alloc (setO f)) := by
  have h := set_nw ((W.alloc A).alloc B) f
  have e : ((W.alloc A).alloc B).heap.size = W.heap.size + 1 + 1 := by simp
  rw [e] at h
  exact h
/-- A log, a result and members in a function's own blocks. -/
structure Mm (W w : World) (l : Lg) (r f : Nat → Bool) : Prop where
  box : LBox w W.heap.size l
  res : SBox w (W.heap.size + 1) r
  m : SBox w (W.heap.size + 1 + 1) f
  below : Below W.heap.size W w
theorem Mm.start (W : World) (l : Lg) (r f : Nat → Bool) : Mm W (((W.alloc (lgO l)).alloc (setO r)).alloc (setO f)) l r f := by
  have e1 : (W.alloc (lgO l)).heap.size = W.heap.size + 1 := by simp
  have e2 : ((W.alloc (lgO l)).alloc (setO r)).heap.size = W.heap.size + 1 + 1 := by simp
  refine ⟨((LBox.new W l).next (below1 _ _)).next (below1 _ _), ?_, ?_, ((below1 W _).alloc (by simp) _).alloc (by simp; omega) _⟩
  · have := (SBox.new (W.alloc (lgO l)) r).alloc (setO f); rwa [e1] at this
  · have := SBox.new ((W.alloc (lgO l)).alloc (setO r)) f; rwa [e2] at this
theorem Mm.next {W w w' : World} {l : Lg} {r f : Nat → Bool} (k : Mm W w l r f) (j : Below w.heap.size w w') : Mm W w' l r f := ⟨k.box.next j, k.res.next j, k.m.next j, below_then k.below (Nat.le_refl _) j⟩
theorem Mm.put {W w : World} {l : Lg} {r f : Nat → Bool} (k : Mm W w l r f) (g : Nat → Bool) : Mm W (w.setRow (W.heap.size + 1 + 1) (setC g)) l r g := ⟨k.box.over (by omega) _, k.res.over (by omega) _, k.m.mine g, below_setRow k.below (by omega) _⟩
theorem Mm.tell {W w : World} {l : Lg} {r f : Nat → Bool} (k : Mm W w l r f) (g : Nat → Bool) : Mm W (w.setRow (W.heap.size + 1) (setC g)) l g f := ⟨k.box.over (by omega) _, k.res.mine g, k.m.over (by omega) _, below_setRow k.below (by omega) _⟩
theorem kind_load (w : World) (g o : Nat) (e : En) (h : ∀ j v, (enL e)[j]? = some v → w.cell? ⟨g, o + j, none⟩ = some v) : (Instr.loadAt 3 (.pointer (some ⟨g, o + 1, none⟩))).run Try.prog w = .ok (.int .i64 e.kind) w := by
  have hcell : w.cell? ⟨g, o + 1, none⟩ = some (.int .i64 e.kind) := h 1 _ rfl
  have hagg : (isAgg 3).run Try.prog w = .ok false w := by
    unfold isAgg
    rw [Sem.run_bind, run_underlying Try.underlying3 w]
    rfl
  simp [Instr.loadAt, Instr.sureAddr, loadVar, Sem.run_bind, Result.andThen, hagg, run_load, hcell]
theorem eset_load (w : World) (g o : Nat) (e : En) (h : ∀ j v, (enL e)[j]? = some v → w.cell? ⟨g, o + j, none⟩ = some v) : (Instr.loadAt 24 (.pointer (some ⟨g, o + 6, none⟩))).run Try.prog w = .ok (setV e.s) w := by
  have hl : (loadCells ⟨g, o + 6, none⟩ (setL e.s).length).run Try.prog w = .ok (setL e.s).toArray w :=
    run_loadCells_list (P := Try.prog) w ⟨g, o + 6, none⟩ (setL e.s) (fun j v hv => by
      rw [add_lit, Nat.add_assoc]
      refine h (6 + j) v ?_
      match j, hv with
      | 0, hv => exact hv
      | 1, hv => exact hv
      | 2, hv => exact hv
      | 3, hv => exact hv
      | 4, hv => exact hv
      | 5, hv => exact hv
      | 6, hv => exact hv
      | j + 7, hv => simp [setL] at hv)
  cases hq : Try.prog.info? 24 with
  | none => have := size24; simp [hq] at this
  | some i =>
    have hs : i.size = (setL e.s).length := by have := size24; show i.size = 7; simpa [hq] using this
    have hagg : (isAgg 24).run Try.prog w = .ok true w := by
      unfold isAgg
      rw [Sem.run_bind, run_underlying Try.underlying24 w]
      rfl
    simp [Instr.loadAt, Instr.sureAddr, loadVar, Sem.run_bind, hagg, sizeOf, typeInfo, hq, hs, hl, Result.andThen, setC]
theorem EAt.cap {w : World} {q : Option Addr} {c : Nat} {L : List En} (h : EAt w (.slice q L.length c) L) : L.length ≤ c ∧ c ≤ maxLen := by
  rcases h.2 with ⟨e, hz⟩ | ⟨a, cap, e, h1, h2, _⟩
  · simp only [Value.slice.injEq] at e
    exact ⟨by omega, by rw [e.2.2]; unfold maxLen; decide⟩
  · simp only [Value.slice.injEq] at e
    exact ⟨by omega, by omega⟩
set_option maxHeartbeats 4000000 in
theorem members_any (l : Lg) (L : List En) (i : Int) (W : World) (hl : EAt W l.lv L) (h0 : 0 ≤ l.base) (h1 : l.base ≤ 1152921504606846976) (hi0 : 0 ≤ i) (hi1 : i < 18446744073709551616) (hlen : L.length ≤ 1152921504606846976) : Calls Try.prog 17 #[lgV l, .int .u64 i] W fun r W' => r = .returned (setV (memV l L i)) ∧ Below W.heap.size W W' := by
  have CU := Lib.hid (fun w (hw : Below W.heap.size W w) => upto_any l L i w (hl.below hw) h0 h1 hi0 hi1 hlen)
  obtain ⟨q, c, hq⟩ := hl.is
  obtain ⟨base, bt, s, lv⟩ := l
  dsimp only at hl hq h0 h1
  subst hq
  have HL := Lib.hid hl
  obtain ⟨hc1, hc2⟩ := hl.cap
  unfold maxLen at hc2
  clear hl
  have hn := upN_le ⟨base, bt, s, .slice q L.length c⟩ L i
  unfold memV
  dsimp only
  generalize upN ⟨base, bt, s, .slice q L.length c⟩ L i = n at *
  clear hi0 hi1 h0 h1
  go_enter Try.func17, Try.ntmps17
  have HS0 := Lib.hid (show (Instr.loadAt 24 (.pointer (some ⟨W.heap.size, 2, none⟩))).run Try.prog ((W.alloc (lgO ⟨base, bt, s, .slice q L.length c⟩)).alloc (Obj.cells noC 24)) = .ok (setV s) _ from LBox.set (LBox.next (LBox.new W ⟨base, bt, s, .slice q L.length c⟩) (below1 _ _)))
  have HS1 := Lib.hid (show (Instr.storeAt 24 (.pointer (some ⟨W.heap.size + 1 + 1, 0, none⟩)) (setV s)).run Try.prog (((W.alloc (lgO ⟨base, bt, s, .slice q L.length c⟩)).alloc (Obj.cells noC 24)).alloc (Obj.cells noC 24)) = .ok () (((W.alloc (lgO ⟨base, bt, s, .slice q L.length c⟩)).alloc (Obj.cells noC 24)).alloc (setO s)) from set_new2 _ _ _ _)
  go_upto_region 2 with (first | (with_reducible refine wpList_load_by rfl rfl HS0.out rfl ?_) | (with_reducible refine wpList_store_by rfl rfl HS1.out rfl rfl ?_) | fail)
  clear HS0 HS1
  have X := Lib.hid (show Mm W (((W.alloc (lgO ⟨base, bt, s, .slice q L.length c⟩)).alloc (Obj.cells noC 24)).alloc (setO s)) ⟨base, bt, s, .slice q L.length c⟩ noF s from Mm.start W _ noF s)
  generalize ((W.alloc (lgO ⟨base, bt, s, .slice q L.length c⟩)).alloc (Obj.cells noC 24)).alloc (setO s) = w0 at *
  have hne : Nonempty (Near w0) := ⟨⟨w0, Below.refl _ _⟩⟩
  have CU := Lib.hid (fun (p : Near w0) => CU.out p.wx (below_then X.out.below (Nat.le_refl _) p.near))
  try simp only [put_none]
  refine wp_region_near (by kernel_rfl) (by kernel_rfl) ?_
  repeat (first | (go_big_quiet_want; (with_reducible refine quiet_by _ (fun w hw => exec_load (t := 25) rfl (near_llist X.out.box w hw) rfl) ?_); simp only [Act.put, List.setIfInBounds_toArray, List.set_cons_zero, List.set_cons_succ]; go_big_quiet_on) | (go_big_quiet_want; (with_reducible refine quiet_by _ (fun w hw => exec_load (t := 27) rfl (near_lload X.out.box w hw) rfl) ?_); simp only [Act.put, List.setIfInBounds_toArray, List.set_cons_zero, List.set_cons_succ]; go_big_quiet_on) | go_big_quiet_step (first | (go_at_call 41; exact near_call (CU.out _)) | fail))
  refine wpQuiet_nil ?_
  rintro _ ⟨pn, rfl⟩
  have X1 := Lib.hid (X.out.next pn.near)
  clear X hne CU
  have X := X1
  clear X1
  generalize pn.wx = w1 at *
  go_wp2
  go_loopw [17] (fun i wr => ∃ (k : Nat), k ≤ n ∧ i = .int .i64 k ∧ RowKit.Hid (Mm W wr ⟨base, bt, s, .slice q L.length c⟩ noF (memF s (L.take k)))) (fun i _ => n - (intOf i).toNat)
  case atStart => exact ⟨0, by omega, rfl, X⟩
  case round =>
    obtain ⟨k, hk, rfl, HX⟩ := hrel
    clear X
    have X := HX
    clear HX
    by_cases hlt : k < n
    · have q5 : decide ((k : Int) < n) = true := decide_eq_true (by omega)
      have hkL : k < L.length := by omega
      obtain ⟨g, off, hqq, hc⟩ := ent_at HL.out (by omega)
      subst hqq
      have hix : ∀ w : World, (Instr.indexAt 25 (.slice (some ⟨g, off, none⟩) n c) (.int .i64 (k : Int))).run Try.prog w = .ok (.pointer (some ⟨g, off + k * 13, none⟩)) w := fun w => run_idx w g off _ c k hlt
      have HE := Lib.hid (ent_load wr g _ _ (hc k hkL wr X.out.below))
      have HM := Lib.hid (memF_next s L k hkL)
      clear hc
      generalize L[k] = e at *
      generalize memF s (L.take k) = f at *
      go_upto_region 5 with (first | (with_reducible refine wpList_load_by rfl rfl HE.out rfl ?_) | (with_reducible refine wpList_store_by rfl rfl (ent_new _ _) rfl rfl ?_) | fail)
      have X2 := Lib.hid (X.out.next (below1 wr (enO e)))
      have E := Lib.hid (EBox.new wr e)
      clear X HE
      have X := X2
      clear X2
      generalize wr.heap.size = z at *
      generalize wr.alloc (enO e) = w5 at *
      by_cases hk2 : e.kind = 2
      · have q6 : (e.kind == 2) = true := by rw [beq_iff_eq]; exact hk2
        rw [if_pos hk2] at HM
        have X3 := Lib.hid (X.out.put e.s)
        rw [← HM.out] at X3
        go_wp2_with (first | (with_reducible refine wpList_load_by rfl rfl E.out.kind rfl ?_) | (with_reducible refine wpList_load_by rfl rfl E.out.set rfl ?_) | (with_reducible refine wpList_store_by rfl rfl (X.out.m.full _) rfl rfl ?_) | fail)
        go_round
        case rel => exact ⟨k + 1, by omega, rfl, by rw [← HM.out]; exact X3⟩
        case measure => simp [intOf]; omega
      · have q6 : (e.kind == 2) = false := by rw [beq_eq_false_iff_ne]; exact hk2
        rw [if_neg hk2] at HM
        rw [← HM.out] at X
        go_wp2_with (first | (with_reducible refine wpList_load_by rfl rfl E.out.kind rfl ?_) | fail)
        go_round
        case rel => exact ⟨k + 1, by omega, rfl, X⟩
        case measure => simp [intOf]; omega
    · obtain rfl : k = n := by omega
      have X2 := Lib.hid (X.out.tell (memF s (L.take k)))
      go_wp2_with (first | (with_reducible refine wpList_load_by rfl rfl X.out.m.load rfl ?_) | (with_reducible refine wpList_store_by rfl rfl (X.out.res.full _) rfl rfl ?_) | fail)
      exact bodyPost_ret (v := setV (memF s (L.take k))) (results_cell_row Try.results17 _ _ (W.heap.size + 1) 24 (setC _) (0, 0) _ rfl X2.out.res Try.underlying24 rfl (by rw [size24, setC_size])) rfl ⟨rfl, X2.out.below⟩
end Go.Proofs.Ythlghmechldegaa
