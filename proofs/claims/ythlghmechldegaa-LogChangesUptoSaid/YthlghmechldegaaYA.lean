/- The entry and the term at a place, both sides. -/
import Derived.Test.YthlghmechldegaaP
namespace Go.Proofs.Ythlghmechldegaa
open Go.RowKit Go.Deep Go.Joins
set_option maxRecDepth 100000
def zeroEn : En := ⟨0, 0, zeroIn, noF⟩
theorem zenC_eq : enC zeroEn = zenC := rfl
theorem EBox.full {w : World} {b : Nat} {e : En} (k : EBox w b e) (g : En) : (Instr.storeAt 36 (.pointer (some ⟨b, 0, none⟩)) (enV g)).run Try.prog w = .ok () (w.setRow b (enC g)) := by
  simp only [Instr.storeAt, Instr.sureAddr, Sem.run_bind, Sem.run_pure, Result.andThen]
  exact run_storeVar_row w b 36 36 _ (enC g) k (by rw [size36, enC_size]) (by rw [enC_size, enC_size]) (en_one g)
theorem EBox.zero {w : World} {b : Nat} {e : En} (k : EBox w b e) : (Instr.storeAt 36 (.pointer (some ⟨b, 0, none⟩)) (.agg zenC)).run Try.prog w = .ok () (w.setRow b (enC zeroEn)) := k.full zeroEn
theorem EBox.mine {w : World} {g : Nat} {e : En} (k : EBox w g e) (h : En) : EBox (w.setRow g (enC h)) g h := setRow_heap w g _ (enC h) 36 (0, 0) k
theorem EBox.result {w : World} {b : Nat} {e : En} (k : EBox w b e) : (loadVar 36 ⟨b, 0, none⟩).run Try.prog w = .ok (enV e) w :=
  run_loadVar_row w b 36 36 (enC e) (0, 0) _ k Try.underlying36 rfl (by rw [size36, enC_size])
theorem results_en {fn : Func} {p u : Tmp} (h : fn.results = #[.cell p 36, .tmp u]) (tmps : Array Value) (w : World) (g : Nat) (e : En) (v : Value) (hp : tmps.getD p undef = .pointer (some ⟨g, 0, none⟩)) (hg : EBox w g e) (hv : tmps.getD u undef = v) : (results fn tmps).run Try.prog w = .ok (.tuple #[enV e, v]) w := by
  have hp' : tmps[p]?.getD undef = .pointer (some ⟨g, 0, none⟩) := by simpa using hp
  have hv' : tmps[u]?.getD undef = v := by simpa using hv
  simp [results, h, hp', hv', asAddr, hg.result, Result.andThen]
/-- A log and an entry in a function's own blocks. -/
structure Le (W w : World) (l : Lg) (e : En) : Prop where
  box : LBox w W.heap.size l
  res : EBox w (W.heap.size + 1) e
  below : Below W.heap.size W w
theorem Le.start (W : World) (l : Lg) (e : En) : Le W ((W.alloc (lgO l)).alloc (enO e)) l e := by
  have e1 : (W.alloc (lgO l)).heap.size = W.heap.size + 1 := by simp
  refine ⟨(LBox.new W l).next (below1 _ _), ?_, ((Below.refl _ _).alloc (Nat.le_refl _) _).alloc (by simp) _⟩
  have := EBox.new (W.alloc (lgO l)) e; rwa [e1] at this
theorem Le.tell {W w : World} {l : Lg} {e : En} (k : Le W w l e) (g : En) : Le W (w.setRow (W.heap.size + 1) (enC g)) l g := ⟨k.box.over (by omega) _, k.res.mine g, below_setRow k.below (by omega) _⟩
/-- What At tells. -/
def atV (l : Lg) (L : List En) (i : Int) : En × Bool := if h : l.base < i ∧ i - l.base ≤ L.length then (L[(i - l.base - 1).toNat]'(by omega), true) else (zeroEn, false)
def termV (l : Lg) (L : List En) (i : Int) : Int × Bool := if i = l.base then (l.bt, true) else ((atV l L i).1.term, (atV l L i).2)
theorem run_idxu (w : World) (g off n c : Nat) (x : Int) (h0 : 0 ≤ x) (hx : x < n) : (Instr.indexAt 25 (.slice (some ⟨g, off, none⟩) n c) (.int .u64 x)).run Try.prog w = .ok (.pointer (some ⟨g, off + x.toNat * 13, none⟩)) w := by
  have hs : (sizeOf 36).run Try.prog w = .ok 13 w := by
    cases hq : Try.prog.info? 36 with
    | none => have := size36; simp [hq] at this
    | some i =>
      have h13 : i.size = 13 := by have := size36; simpa [hq] using this
      simp [sizeOf, typeInfo, Sem.run_bind, hq, h13, Result.andThen]
  obtain ⟨k, rfl⟩ := Int.eq_ofNat_of_zero_le h0
  have hk : k < n := by omega
  simp [Instr.indexAt, run_underlying Try.underlying25, asIntOf, hs, hk, Sem.run_bind, Result.andThen, add_lit]
set_option maxHeartbeats 2000000 in
theorem at_any (l : Lg) (L : List En) (i : Int) (W : World) (hl : EAt W l.lv L) (h0 : 0 ≤ l.base) (h1 : l.base ≤ 1152921504606846976) (hi0 : 0 ≤ i) (hi1 : i < 18446744073709551616) (hlen : L.length ≤ 1152921504606846976) : Calls Try.prog 13 #[lgV l, .int .u64 i] W fun r W' => r = .returned (.tuple #[enV (atV l L i).1, .bool (atV l L i).2]) ∧ Below W.heap.size W W' := by
  obtain ⟨q, c, hq⟩ := hl.is
  obtain ⟨base, bt, s, lv⟩ := l
  dsimp only at hl hq h0 h1
  subst hq
  have HL := Lib.hid hl
  clear hl
  obtain ⟨R, hR⟩ : ∃ R, atV ⟨base, bt, s, .slice q L.length c⟩ L i = R := ⟨_, rfl⟩
  rw [hR]
  have HR := Lib.hid hR
  clear hR
  go_enter Try.func13, Try.ntmps13
  go_upto_region 1 with (fail)
  have X := Lib.hid (show Le W ((W.alloc (lgO ⟨base, bt, s, .slice q L.length c⟩)).alloc (Obj.cells zenC 36)) ⟨base, bt, s, .slice q L.length c⟩ zeroEn from Le.start W _ zeroEn)
  generalize (W.alloc (lgO ⟨base, bt, s, .slice q L.length c⟩)).alloc (Obj.cells zenC 36) = w0 at *
  by_cases hb : i ≤ base
  · have q1 : decide (i ≤ base) = true := decide_eq_true hb
    have HV := Lib.hid (show R = (zeroEn, false) from by rw [← HR.out]; exact dif_neg (fun h => absurd h.1 (by simp; omega)))
    clear HL HR
    have X2 := Lib.hid (X.out.tell zeroEn)
    go_wp2_with (first | (with_reducible refine wpList_load_by rfl rfl X.out.box.base rfl ?_) | (with_reducible refine wpList_load_wanted rfl rfl X.out.box.base rfl ?_) | (with_reducible refine wpList_load_wanted rfl rfl X.out.box.list rfl ?_) | (with_reducible refine wpList_load_by rfl rfl X.out.box.list rfl ?_) | (with_reducible refine wpList_store_by rfl rfl X.out.res.zero rfl rfl ?_) | fail)
    exact bodyPost_ret (v := .tuple #[enV zeroEn, .bool false]) (results_en Try.results13 _ _ (W.heap.size + 1) _ _ rfl X2.out.res rfl) rfl ⟨by rw [HV.out], X2.out.below⟩
  · have q1 : decide (i ≤ base) = false := decide_eq_false hb
    by_cases hd : i - base ≤ L.length
    · have q2 : decide ((L.length : Int) < i - base) = false := decide_eq_false (by omega)
      have hpos : 0 < L.length := by omega
      obtain ⟨g, off, hqq, hc⟩ := ent_at HL.out hpos
      subst hqq
      have hlt : (i - base - 1).toNat < L.length := by omega
      have HV := Lib.hid (show R = (L[(i - base - 1).toNat], true) from by rw [← HR.out]; exact dif_pos (⟨by simp; omega, by simpa using hd⟩))
      have HI := Lib.hid (fun w : World => run_idxu w g off L.length c (i - base - 1) (by omega) (by omega))
      have hix : ∀ w : World, _ := HI.out
      have HE := Lib.hid (ent_load w0 g _ _ (hc _ hlt w0 X.out.below))
      clear HR hc HL
      generalize L[(i - base - 1).toNat] = e at *
      generalize (i - base - 1).toNat = d at *
      have X2 := Lib.hid (X.out.tell e)
      go_wp2_with (first | (with_reducible refine wpList_load_by rfl rfl X.out.box.base rfl ?_) | (with_reducible refine wpList_load_wanted rfl rfl X.out.box.base rfl ?_) | (with_reducible refine wpList_load_wanted rfl rfl X.out.box.list rfl ?_) | (with_reducible refine wpList_load_by rfl rfl X.out.box.list rfl ?_) | (with_reducible refine wpList_load_by rfl rfl HE.out rfl ?_) | (with_reducible refine wpList_store_by rfl rfl (X.out.res.full _) rfl rfl ?_) | fail)
      exact bodyPost_ret (v := .tuple #[enV e, .bool true]) (results_en Try.results13 _ _ (W.heap.size + 1) _ _ rfl X2.out.res rfl) rfl ⟨by rw [HV.out], X2.out.below⟩
    · have q2 : decide ((L.length : Int) < i - base) = true := decide_eq_true (by omega)
      have HV := Lib.hid (show R = (zeroEn, false) from by rw [← HR.out]; exact dif_neg (fun h => absurd h.2 (by simp; omega)))
      clear HL HR
      have X2 := Lib.hid (X.out.tell zeroEn)
      go_wp2_with (first | (with_reducible refine wpList_load_by rfl rfl X.out.box.base rfl ?_) | (with_reducible refine wpList_load_wanted rfl rfl X.out.box.base rfl ?_) | (with_reducible refine wpList_load_wanted rfl rfl X.out.box.list rfl ?_) | (with_reducible refine wpList_load_by rfl rfl X.out.box.list rfl ?_) | (with_reducible refine wpList_store_by rfl rfl X.out.res.zero rfl rfl ?_) | fail)
      exact bodyPost_ret (v := .tuple #[enV zeroEn, .bool false]) (results_en Try.results13 _ _ (W.heap.size + 1) _ _ rfl X2.out.res rfl) rfl ⟨by rw [HV.out], X2.out.below⟩
set_option maxHeartbeats 2000000 in
theorem rat_any (l : Lg) (L : List En) (i : Int) (W : World) (hl : EAt W l.lv L) (h0 : 0 ≤ l.base) (h1 : l.base ≤ 1152921504606846976) (hi0 : 0 ≤ i) (hi1 : i < 18446744073709551616) (hlen : L.length ≤ 1152921504606846976) : Calls Try.prog 14 #[lgV l, .int .u64 i] W fun r W' => r = .returned (.tuple #[enV (atV l L i).1, .bool (atV l L i).2]) ∧ Below W.heap.size W W' := by
  obtain ⟨q, c, hq⟩ := hl.is
  obtain ⟨base, bt, s, lv⟩ := l
  dsimp only at hl hq h0 h1
  subst hq
  have HL := Lib.hid hl
  clear hl
  obtain ⟨R, hR⟩ : ∃ R, atV ⟨base, bt, s, .slice q L.length c⟩ L i = R := ⟨_, rfl⟩
  rw [hR]
  have HR := Lib.hid hR
  clear hR
  go_enter Try.func14, Try.ntmps14
  go_upto_region 1 with (fail)
  have X := Lib.hid (show Le W ((W.alloc (lgO ⟨base, bt, s, .slice q L.length c⟩)).alloc (Obj.cells zenC 36)) ⟨base, bt, s, .slice q L.length c⟩ zeroEn from Le.start W _ zeroEn)
  generalize (W.alloc (lgO ⟨base, bt, s, .slice q L.length c⟩)).alloc (Obj.cells zenC 36) = w0 at *
  by_cases hb : i ≤ base
  · have q1 : decide (i ≤ base) = true := decide_eq_true hb
    have HV := Lib.hid (show R = (zeroEn, false) from by rw [← HR.out]; exact dif_neg (fun h => absurd h.1 (by simp; omega)))
    clear HL HR
    have X2 := Lib.hid (X.out.tell zeroEn)
    go_wp2_with (first | (with_reducible refine wpList_load_by rfl rfl X.out.box.base rfl ?_) | (with_reducible refine wpList_load_wanted rfl rfl X.out.box.base rfl ?_) | (with_reducible refine wpList_load_wanted rfl rfl X.out.box.list rfl ?_) | (with_reducible refine wpList_load_by rfl rfl X.out.box.list rfl ?_) | (with_reducible refine wpList_store_by rfl rfl X.out.res.zero rfl rfl ?_) | fail)
    exact bodyPost_ret (v := .tuple #[enV zeroEn, .bool false]) (results_en Try.results14 _ _ (W.heap.size + 1) _ _ rfl X2.out.res rfl) rfl ⟨by rw [HV.out], X2.out.below⟩
  · have q1 : decide (i ≤ base) = false := decide_eq_false hb
    by_cases hd : i - base ≤ L.length
    · have q2 : decide ((L.length : Int) < i - base) = false := decide_eq_false (by omega)
      have hpos : 0 < L.length := by omega
      obtain ⟨g, off, hqq, hc⟩ := ent_at HL.out hpos
      subst hqq
      have hlt : (i - base - 1).toNat < L.length := by omega
      have HV := Lib.hid (show R = (L[(i - base - 1).toNat], true) from by rw [← HR.out]; exact dif_pos (⟨by simp; omega, by simpa using hd⟩))
      have HI := Lib.hid (fun w : World => run_idxu w g off L.length c (i - base - 1) (by omega) (by omega))
      have hix : ∀ w : World, _ := HI.out
      have HE := Lib.hid (ent_load w0 g _ _ (hc _ hlt w0 X.out.below))
      clear HR hc HL
      generalize L[(i - base - 1).toNat] = e at *
      generalize (i - base - 1).toNat = d at *
      have X2 := Lib.hid (X.out.tell e)
      go_wp2_with (first | (with_reducible refine wpList_load_by rfl rfl X.out.box.base rfl ?_) | (with_reducible refine wpList_load_wanted rfl rfl X.out.box.base rfl ?_) | (with_reducible refine wpList_load_wanted rfl rfl X.out.box.list rfl ?_) | (with_reducible refine wpList_load_by rfl rfl X.out.box.list rfl ?_) | (with_reducible refine wpList_load_by rfl rfl HE.out rfl ?_) | (with_reducible refine wpList_store_by rfl rfl (X.out.res.full _) rfl rfl ?_) | fail)
      exact bodyPost_ret (v := .tuple #[enV e, .bool true]) (results_en Try.results14 _ _ (W.heap.size + 1) _ _ rfl X2.out.res rfl) rfl ⟨by rw [HV.out], X2.out.below⟩
    · have q2 : decide ((L.length : Int) < i - base) = true := decide_eq_true (by omega)
      have HV := Lib.hid (show R = (zeroEn, false) from by rw [← HR.out]; exact dif_neg (fun h => absurd h.2 (by simp; omega)))
      clear HL HR
      have X2 := Lib.hid (X.out.tell zeroEn)
      go_wp2_with (first | (with_reducible refine wpList_load_by rfl rfl X.out.box.base rfl ?_) | (with_reducible refine wpList_load_wanted rfl rfl X.out.box.base rfl ?_) | (with_reducible refine wpList_load_wanted rfl rfl X.out.box.list rfl ?_) | (with_reducible refine wpList_load_by rfl rfl X.out.box.list rfl ?_) | (with_reducible refine wpList_store_by rfl rfl X.out.res.zero rfl rfl ?_) | fail)
      exact bodyPost_ret (v := .tuple #[enV zeroEn, .bool false]) (results_en Try.results14 _ _ (W.heap.size + 1) _ _ rfl X2.out.res rfl) rfl ⟨by rw [HV.out], X2.out.below⟩
set_option maxHeartbeats 2000000 in
theorem termat_any (l : Lg) (L : List En) (i : Int) (W : World) (hl : EAt W l.lv L) (h0 : 0 ≤ l.base) (h1 : l.base ≤ 1152921504606846976) (hi0 : 0 ≤ i) (hi1 : i < 18446744073709551616) (hlen : L.length ≤ 1152921504606846976) : Calls Try.prog 15 #[lgV l, .int .u64 i] W fun r W' => r = .returned (.tuple #[.int .u64 (termV l L i).1, .bool (termV l L i).2]) ∧ Below W.heap.size W W' := by
  have CA := Lib.hid (fun w (hw : Below W.heap.size W w) => at_any l L i w (hl.below hw) h0 h1 hi0 hi1 hlen)
  unfold termV
  clear hl
  by_cases hb : i = l.base
  · have q1 : (i == l.base) = true := by rw [beq_iff_eq]; exact hb
    rw [if_pos hb]
    clear hb CA
    go_enter Try.func15, Try.ntmps15
    go_upto_region 1 with (fail)
    have X := Lib.hid (Lb.start W l)
    generalize W.alloc (lgO l) = w0 at *
    go_wp2_with (first | (with_reducible refine wpList_load_by rfl rfl X.out.box.base rfl ?_) | (with_reducible refine wpList_load_by rfl rfl X.out.box.bt rfl ?_) | fail)
    go_ret2
    exact ⟨rfl, X.out.below⟩
  · have q1 : (i == l.base) = false := by rw [beq_eq_false_iff_ne]; exact hb
    rw [if_neg hb]
    clear hb
    generalize (atV l L i).1 = e at *
    generalize (atV l L i).2 = b at *
    go_enter Try.func15, Try.ntmps15
    go_upto_region 1 with (fail)
    have X := Lib.hid (Lb.start W l)
    have HB := Lib.hid (below1 W (lgO l))
    generalize W.alloc (lgO l) = w0 at *
    have CA := Lib.hid (CA.out w0 HB.out)
    go_upto_region 4 with (first | (with_reducible refine wpList_load_by rfl rfl X.out.box.base rfl ?_) | (with_reducible refine wpList_load_by rfl rfl X.out.box.load rfl ?_) | (go_at_call 13; (with_reducible refine CA.out.mono ?_); rintro r wb ⟨rfl, kk⟩; have X := Lib.hid (X.out.next kk); clear kk) | (with_reducible refine wpList_store_by rfl rfl (ent_new _ _) rfl rfl ?_) | fail)
    have E := Lib.hid (EBox.new wb e)
    have X := Lib.hid (X.out.next (below1 wb (enO e)))
    generalize wb.heap.size = z at *
    generalize wb.alloc (enO e) = w5 at *
    go_wp2_with (first | (with_reducible refine wpList_load_by rfl rfl E.out.term rfl ?_) | fail)
    go_ret2
    exact ⟨rfl, X.out.below⟩
set_option maxHeartbeats 2000000 in
theorem rtermat_any (l : Lg) (L : List En) (i : Int) (W : World) (hl : EAt W l.lv L) (h0 : 0 ≤ l.base) (h1 : l.base ≤ 1152921504606846976) (hi0 : 0 ≤ i) (hi1 : i < 18446744073709551616) (hlen : L.length ≤ 1152921504606846976) : Calls Try.prog 16 #[lgV l, .int .u64 i] W fun r W' => r = .returned (.tuple #[.int .u64 (termV l L i).1, .bool (termV l L i).2]) ∧ Below W.heap.size W W' := by
  have CA := Lib.hid (fun w (hw : Below W.heap.size W w) => rat_any l L i w (hl.below hw) h0 h1 hi0 hi1 hlen)
  unfold termV
  clear hl
  by_cases hb : i = l.base
  · have q1 : (i == l.base) = true := by rw [beq_iff_eq]; exact hb
    rw [if_pos hb]
    clear hb CA
    go_enter Try.func16, Try.ntmps16
    go_upto_region 1 with (fail)
    have X := Lib.hid (Lb.start W l)
    generalize W.alloc (lgO l) = w0 at *
    go_wp2_with (first | (with_reducible refine wpList_load_by rfl rfl X.out.box.base rfl ?_) | (with_reducible refine wpList_load_by rfl rfl X.out.box.bt rfl ?_) | fail)
    go_ret2
    exact ⟨rfl, X.out.below⟩
  · have q1 : (i == l.base) = false := by rw [beq_eq_false_iff_ne]; exact hb
    rw [if_neg hb]
    clear hb
    generalize (atV l L i).1 = e at *
    generalize (atV l L i).2 = b at *
    go_enter Try.func16, Try.ntmps16
    go_upto_region 1 with (fail)
    have X := Lib.hid (Lb.start W l)
    have HB := Lib.hid (below1 W (lgO l))
    generalize W.alloc (lgO l) = w0 at *
    have CA := Lib.hid (CA.out w0 HB.out)
    go_upto_region 4 with (first | (with_reducible refine wpList_load_by rfl rfl X.out.box.base rfl ?_) | (with_reducible refine wpList_load_by rfl rfl X.out.box.load rfl ?_) | (go_at_call 14; (with_reducible refine CA.out.mono ?_); rintro r wb ⟨rfl, kk⟩; have X := Lib.hid (X.out.next kk); clear kk) | (with_reducible refine wpList_store_by rfl rfl (ent_new _ _) rfl rfl ?_) | fail)
    have E := Lib.hid (EBox.new wb e)
    have X := Lib.hid (X.out.next (below1 wb (enO e)))
    generalize wb.heap.size = z at *
    generalize wb.alloc (enO e) = w5 at *
    go_wp2_with (first | (with_reducible refine wpList_load_by rfl rfl E.out.term rfl ?_) | fail)
    go_ret2
    exact ⟨rfl, X.out.below⟩
end Go.Proofs.Ythlghmechldegaa
