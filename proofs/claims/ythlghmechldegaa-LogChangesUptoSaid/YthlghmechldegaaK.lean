/- Logs in memory; may a log be? Both sides. -/
import Derived.Test.YthlghmechldegaaJ
namespace Go.Proofs.Ythlghmechldegaa
open Go.RowKit Go.Deep Go.Joins
set_option maxRecDepth 100000
/-- A log, its list as the slice's value. -/
structure Lg where
  base : Int
  bt : Int
  s : Nat → Bool
  lv : Value
def lgL (l : Lg) : List Value := [.int .u64 l.base, .int .u64 l.bt, .bool (l.s 0), .bool (l.s 1), .bool (l.s 2), .bool (l.s 3), .bool (l.s 4), .bool (l.s 5), .bool (l.s 6), l.lv]
def lgC (l : Lg) : Array Value := (lgL l).toArray
abbrev lgV (l : Lg) : Value := .agg (lgC l)
abbrev lgO (l : Lg) : Obj := .cells (lgC l) 27
theorem lgC_size (l : Lg) : (lgC l).size = 10 := rfl
theorem lgC_at (l : Lg) (k : Nat) : (lgC l)[k]? = (lgL l)[k]? := by unfold lgC; rw [List.getElem?_toArray]
theorem size27 : (Try.prog.info? 27).map (·.size) = some 10 := by kernel_rfl
theorem size25 : (Try.prog.info? 25).map (·.size) = some 1 := by kernel_rfl
def LBox (w : World) (b : Nat) (l : Lg) : Prop := w.heap[b]? = some (lgO l)
theorem LBox.lt {w : World} {b : Nat} {l : Lg} (k : LBox w b l) : b < w.heap.size := (Array.getElem?_eq_some_iff.1 k).1
theorem LBox.next {w w' : World} {b : Nat} {l : Lg} (k : LBox w b l) (j : Below w.heap.size w w') : LBox w' b l := (j.block b k.lt).trans k
theorem LBox.new (w : World) (l : Lg) : LBox (w.alloc (lgO l)) w.heap.size l := heap_alloc_last w _
theorem LBox.over {w : World} {b g : Nat} {l : Lg} (k : LBox w b l) (hg : b ≠ g) (cs : Array Value) : LBox (w.setRow g cs) b l := (setRow_other w g b cs hg).trans k
theorem LBox.mine {w : World} {g : Nat} {l : Lg} (k : LBox w g l) (h : Lg) : LBox (w.setRow g (lgC h)) g h := setRow_heap w g _ (lgC h) 27 (0, 0) k
theorem LBox.base {w : World} {b : Nat} {l : Lg} (k : LBox w b l) : (Instr.loadAt 22 (.pointer (some ⟨b, 0, none⟩))).run Try.prog w = .ok (.int .u64 l.base) w :=
  run_load_cell w b 0 22 27 (lgC l) _ _ k Try.underlying22 rfl (lgC_at l 0)
theorem LBox.bt {w : World} {b : Nat} {l : Lg} (k : LBox w b l) : (Instr.loadAt 22 (.pointer (some ⟨b, 1, none⟩))).run Try.prog w = .ok (.int .u64 l.bt) w :=
  run_load_cell w b 1 22 27 (lgC l) _ _ k Try.underlying22 rfl (lgC_at l 1)
theorem LBox.list {w : World} {b : Nat} {l : Lg} (k : LBox w b l) : (Instr.loadAt 25 (.pointer (some ⟨b, 9, none⟩))).run Try.prog w = .ok l.lv w :=
  run_load_cell w b 9 25 27 (lgC l) _ _ k Try.underlying25 rfl (lgC_at l 9)
theorem LBox.set {w : World} {b : Nat} {l : Lg} (k : LBox w b l) : (Instr.loadAt 24 (.pointer (some ⟨b, 2, none⟩))).run Try.prog w = .ok (setV l.s) w :=
  run_load_rowAt w b 2 27 24 (lgC l) (setL l.s) _ k Try.underlying24 rfl (by rw [size24]; rfl) fun j v hv => by
    rw [lgC_at]
    match j, hv with
    | 0, hv => exact hv
    | 1, hv => exact hv
    | 2, hv => exact hv
    | 3, hv => exact hv
    | 4, hv => exact hv
    | 5, hv => exact hv
    | 6, hv => exact hv
    | j + 7, hv => simp [setL] at hv
theorem LBox.load {w : World} {b : Nat} {l : Lg} (k : LBox w b l) : (Instr.loadAt 27 (.pointer (some ⟨b, 0, none⟩))).run Try.prog w = .ok (lgV l) w := by
  simp only [Instr.loadAt, Instr.sureAddr, Sem.run_bind, Sem.run_pure, Result.andThen]
  exact run_loadVar_row w b 27 27 (lgC l) (0, 0) _ k Try.underlying27 rfl (by rw [size27, lgC_size])
/-- A log in the first block of a function's own. -/
structure Lb (W w : World) (l : Lg) : Prop where
  box : LBox w W.heap.size l
  below : Below W.heap.size W w
theorem Lb.start (W : World) (l : Lg) : Lb W (W.alloc (lgO l)) l := ⟨LBox.new W l, below1 W _⟩
theorem Lb.next {W w w' : World} {l : Lg} (k : Lb W w l) (j : Below w.heap.size w w') : Lb W w' l := ⟨k.box.next j, below_then k.below (Nat.le_trans (Nat.le_refl _) (Nat.le_refl _)) j⟩
/-- The entries may be, and their terms don't go down. -/
def listB (t : Int) : List En → Bool
  | [] => true
  | e :: r => entB e && (decide (t ≤ e.term) && listB e.term r)
def chkB (l : Lg) (L : List En) : Bool := decide (l.base ≤ 1099511627776) && (decide (l.bt ≤ 1099511627776) && (decide (1 ≤ cn l.s 7) && (decide (L.length ≤ 512) && listB l.bt L)))
def chkF (l : Lg) (L : List En) : Int := if chkB l L = true then 0 else 190
theorem chkF_yes (l : Lg) (L : List En) (h : chkB l L = true) : chkF l L = 0 := if_pos h
theorem chkF_no (l : Lg) (L : List En) (h : chkB l L = false) : chkF l L = 190 := if_neg (by rw [h]; simp)
theorem drop_one (L : List En) (k : Nat) (h : k < L.length) : L.drop k = L[k] :: L.drop (k + 1) := List.drop_eq_getElem_cons h
abbrev zenC : Array Value := #[.int .u64 0, .int .i64 0, .int .u64 0, .int .i64 0, .int .i64 0, .string ⟨#[]⟩, .bool false, .bool false, .bool false, .bool false, .bool false, .bool false, .bool false]
theorem en_one (e : En) : (enC e).all (·.oneCell') = true := by
  unfold enC enL
  simp [Value.oneCell']
theorem ent_new (w : World) (e : En) : (Instr.storeAt 36 (.pointer (some ⟨w.heap.size, 0, none⟩)) (enV e)).run Try.prog (w.alloc (.cells zenC 36)) = .ok () (w.alloc (enO e)) :=
  run_storeAt_new w 36 _ (enC e) (by rw [size36, enC_size]) (by rw [enC_size]; rfl) (en_one e)
theorem EBox.load {w : World} {b : Nat} {e : En} (k : EBox w b e) : (Instr.loadAt 36 (.pointer (some ⟨b, 0, none⟩))).run Try.prog w = .ok (enV e) w := by
  simp only [Instr.loadAt, Instr.sureAddr, Sem.run_bind, Sem.run_pure, Result.andThen]
  exact run_loadVar_row w b 36 36 (enC e) (0, 0) _ k Try.underlying36 rfl (by rw [size36, enC_size])
set_option maxHeartbeats 4000000 in
theorem check_any (l : Lg) (L : List En) (W : World) (hl : EAt W l.lv L) (hz : ∀ e ∈ L, e.i.data.size ≤ maxLen) : Calls Try.prog 9 #[lgV l] W fun r W' => r = .returned (.int .i64 (chkF l L)) ∧ Below W.heap.size W W' := by
  have hlen := hl.le
  obtain ⟨q, c, hq⟩ := hl.is
  obtain ⟨base, bt, s, lv⟩ := l
  dsimp only at hl hq
  subst hq
  have HL := Lib.hid hl
  have HZ := Lib.hid hz
  have C0 := Lib.hid (fun W' => count_any s W')
  have hcn := cn_max s 7
  obtain ⟨R, hR⟩ : ∃ R, chkF ⟨base, bt, s, .slice q L.length c⟩ L = R := ⟨_, rfl⟩
  rw [hR]
  have HR := Lib.hid hR
  clear hR hl hz
  go_enter Try.func9, Try.ntmps9
  go_upto_region 1 with (fail)
  have X := Lib.hid (Lb.start W ⟨base, bt, s, .slice q L.length c⟩)
  generalize W.alloc (lgO ⟨base, bt, s, .slice q L.length c⟩) = w0 at *
  by_cases h1 : base ≤ 1099511627776
  · have q1 : decide (1099511627776 < base) = false := decide_eq_false (by omega)
    by_cases h2 : bt ≤ 1099511627776
    · have q2 : decide (1099511627776 < bt) = false := decide_eq_false (by omega)
      by_cases h3 : 1 ≤ cn s 7
      · have q3 : ((cn s 7 : Int) == 0) = false := by rw [beq_eq_false_iff_ne]; omega
        by_cases h4 : L.length ≤ 512
        · have q4 : decide ((512 : Int) < L.length) = false := decide_eq_false (by omega)
          have HQ := Lib.hid (show chkB ⟨base, bt, s, .slice q L.length c⟩ L = listB bt L from by unfold chkB; simp [h1, h2, h3, h4])
          clear h1 h2 h3 hcn
          go_wp2_with (first | (with_reducible refine wpList_load_by rfl rfl X.out.box.base rfl ?_) | (with_reducible refine wpList_load_by rfl rfl X.out.box.bt rfl ?_) | (with_reducible refine wpList_load_wanted rfl rfl X.out.box.bt rfl ?_) | (with_reducible refine wpList_load_wanted rfl rfl X.out.box.set rfl ?_) | (with_reducible refine wpList_load_wanted rfl rfl X.out.box.list rfl ?_) | (with_reducible refine wpList_load_by rfl rfl X.out.box.list rfl ?_) | (go_at_call 33; (with_reducible refine (C0.out _).mono ?_); rintro r wb ⟨rfl, kk⟩; have X := Lib.hid (X.out.next kk); clear kk) | fail)
          go_loopw [3, 31] (fun t i wr => ∃ (k : Nat) (x : Int), k ≤ L.length ∧ t = .int .u64 x ∧ i = .int .i64 k ∧ RowKit.Hid (listB bt L = listB x (L.drop k)) ∧ RowKit.Hid (Lb W wr ⟨base, bt, s, .slice q L.length c⟩)) (fun _ i _ => L.length - (intOf i).toNat)
          case atStart => exact ⟨0, bt, by omega, rfl, rfl, Lib.hid rfl, X⟩
          case round =>
            obtain ⟨k, x, hk, rfl, rfl, HS, HX⟩ := hrel
            clear X
            have X := HX
            clear HX
            by_cases hlt : k < L.length
            · have q5 : decide ((k : Int) < L.length) = true := decide_eq_true (by omega)
              obtain ⟨g, off, hqq, hc⟩ := ent_at HL.out (by omega)
              subst hqq
              have HK := Lib.hid (show ∀ w, Below W.heap.size W w → (Instr.loadAt 36 (.pointer (some ⟨g, off + k * 13, none⟩))).run Try.prog w = .ok (enV L[k]) w ∧ (Instr.loadAt 22 (.pointer (some ⟨g, off + k * 13, none⟩))).run Try.prog w = .ok (.int .u64 L[k].term) w from fun w hw => ⟨ent_load w g _ _ (hc k hlt w hw), term_load w g _ _ (hc k hlt w hw)⟩)
              have hix : ∀ w : World, (Instr.indexAt 25 (.slice (some ⟨g, off, none⟩) L.length c) (.int .i64 (k : Int))).run Try.prog w = .ok (.pointer (some ⟨g, off + k * 13, none⟩)) w := fun w => run_idx w g off _ c k hlt
              have HE := Lib.hid (HK.out _ X.out.below).1
              have CE := Lib.hid (fun W' => entry_any L[k] (HZ.out _ (List.getElem_mem hlt)) W')
              have HD := Lib.hid (show listB x (L.drop k) = (entB L[k] && (decide (x ≤ L[k].term) && listB L[k].term (L.drop (k + 1)))) from by rw [drop_one L k hlt]; rfl)
              clear hc
              generalize L[k] = e at *
              go_upto_region 7 with (first | (with_reducible refine wpList_load_by rfl rfl X.out.box.base rfl ?_) | (with_reducible refine wpList_load_by rfl rfl X.out.box.bt rfl ?_) | (with_reducible refine wpList_load_wanted rfl rfl X.out.box.bt rfl ?_) | (with_reducible refine wpList_load_wanted rfl rfl X.out.box.set rfl ?_) | (with_reducible refine wpList_load_wanted rfl rfl X.out.box.list rfl ?_) | (with_reducible refine wpList_load_by rfl rfl X.out.box.list rfl ?_) | (with_reducible refine wpList_load_by rfl rfl HE.out rfl ?_) | (with_reducible refine wpList_store_by rfl rfl (ent_new _ _) rfl rfl ?_) | fail)
              have X2 := Lib.hid (X.out.next (below1 wr (enO e)))
              have E := Lib.hid (EBox.new wr e)
              clear X HE
              have X := X2
              clear X2
              generalize wr.heap.size = z at *
              generalize wr.alloc (enO e) = w5 at *
              rcases Bool.eq_false_or_eq_true (entB e) with he | he
              · rw [he] at CE HD
                by_cases hx : x ≤ e.term
                · have q6 : decide (e.term < x) = false := decide_eq_false (by omega)
                  have HD2 := Lib.hid (HD.out.trans (show (true && (decide (x ≤ e.term) && listB e.term (L.drop (k + 1)))) = listB e.term (L.drop (k + 1)) from by rw [decide_eq_true hx]; rfl))
                  clear HD hx
                  go_wp2_with (first | (with_reducible refine wpList_load_by rfl rfl X.out.box.base rfl ?_) | (with_reducible refine wpList_load_by rfl rfl X.out.box.bt rfl ?_) | (with_reducible refine wpList_load_wanted rfl rfl X.out.box.bt rfl ?_) | (with_reducible refine wpList_load_wanted rfl rfl X.out.box.set rfl ?_) | (with_reducible refine wpList_load_wanted rfl rfl X.out.box.list rfl ?_) | (with_reducible refine wpList_load_by rfl rfl X.out.box.list rfl ?_) | (with_reducible refine wpList_load_by rfl rfl HE.out rfl ?_) | (with_reducible refine wpList_load_by rfl rfl E.out.load rfl ?_) | (with_reducible refine wpList_load_by rfl rfl E.out.term rfl ?_) | (with_reducible refine wpList_load_wanted rfl rfl E.out.term rfl ?_) | (go_at_call 39; (with_reducible refine (CE.out _).mono ?_); rintro r wb ⟨rfl, kk⟩; have X := Lib.hid (X.out.next kk); have E := Lib.hid (E.out.next kk); clear kk) | fail)
                  go_round
                  case rel => exact ⟨k + 1, e.term, by omega, rfl, rfl, Lib.hid (HS.out.trans HD2.out), X⟩
                  case measure => simp [intOf]; omega
                · have q6 : decide (e.term < x) = true := decide_eq_true (by omega)
                  rw [decide_eq_false hx] at HD
                  go_wp2_with (first | (with_reducible refine wpList_load_by rfl rfl X.out.box.base rfl ?_) | (with_reducible refine wpList_load_by rfl rfl X.out.box.bt rfl ?_) | (with_reducible refine wpList_load_wanted rfl rfl X.out.box.bt rfl ?_) | (with_reducible refine wpList_load_wanted rfl rfl X.out.box.set rfl ?_) | (with_reducible refine wpList_load_wanted rfl rfl X.out.box.list rfl ?_) | (with_reducible refine wpList_load_by rfl rfl X.out.box.list rfl ?_) | (with_reducible refine wpList_load_by rfl rfl HE.out rfl ?_) | (with_reducible refine wpList_load_by rfl rfl E.out.load rfl ?_) | (with_reducible refine wpList_load_by rfl rfl E.out.term rfl ?_) | (with_reducible refine wpList_load_wanted rfl rfl E.out.term rfl ?_) | (go_at_call 39; (with_reducible refine (CE.out _).mono ?_); rintro r wb ⟨rfl, kk⟩; have X := Lib.hid (X.out.next kk); have E := Lib.hid (E.out.next kk); clear kk) | fail)
                  go_ret
                  exact ⟨ret_int ((chkF_no _ _ (HQ.out.trans (HS.out.trans HD.out))).symm.trans HR.out), X.out.below⟩
              · rw [he] at CE HD
                go_wp2_with (first | (with_reducible refine wpList_load_by rfl rfl X.out.box.base rfl ?_) | (with_reducible refine wpList_load_by rfl rfl X.out.box.bt rfl ?_) | (with_reducible refine wpList_load_wanted rfl rfl X.out.box.bt rfl ?_) | (with_reducible refine wpList_load_wanted rfl rfl X.out.box.set rfl ?_) | (with_reducible refine wpList_load_wanted rfl rfl X.out.box.list rfl ?_) | (with_reducible refine wpList_load_by rfl rfl X.out.box.list rfl ?_) | (with_reducible refine wpList_load_by rfl rfl HE.out rfl ?_) | (with_reducible refine wpList_load_by rfl rfl E.out.load rfl ?_) | (with_reducible refine wpList_load_by rfl rfl E.out.term rfl ?_) | (with_reducible refine wpList_load_wanted rfl rfl E.out.term rfl ?_) | (go_at_call 39; (with_reducible refine (CE.out _).mono ?_); rintro r wb ⟨rfl, kk⟩; have X := Lib.hid (X.out.next kk); have E := Lib.hid (E.out.next kk); clear kk) | fail)
                go_ret
                exact ⟨ret_int ((chkF_no _ _ (HQ.out.trans (HS.out.trans HD.out))).symm.trans HR.out), X.out.below⟩
            · obtain rfl : k = L.length := by omega
              have HY := Lib.hid (show listB bt L = true from by rw [HS.out, List.drop_length]; rfl)
              go_wp2_with (first | (with_reducible refine wpList_load_by rfl rfl X.out.box.base rfl ?_) | (with_reducible refine wpList_load_by rfl rfl X.out.box.bt rfl ?_) | (with_reducible refine wpList_load_wanted rfl rfl X.out.box.bt rfl ?_) | (with_reducible refine wpList_load_wanted rfl rfl X.out.box.set rfl ?_) | (with_reducible refine wpList_load_wanted rfl rfl X.out.box.list rfl ?_) | (with_reducible refine wpList_load_by rfl rfl X.out.box.list rfl ?_) | fail)
              go_ret
              exact ⟨ret_int ((chkF_yes _ _ (HQ.out.trans HY.out)).symm.trans HR.out), X.out.below⟩
        · have q4 : decide ((512 : Int) < L.length) = true := decide_eq_true (by omega)
          go_wp2_with (first | (with_reducible refine wpList_load_by rfl rfl X.out.box.base rfl ?_) | (with_reducible refine wpList_load_by rfl rfl X.out.box.bt rfl ?_) | (with_reducible refine wpList_load_wanted rfl rfl X.out.box.bt rfl ?_) | (with_reducible refine wpList_load_wanted rfl rfl X.out.box.set rfl ?_) | (with_reducible refine wpList_load_wanted rfl rfl X.out.box.list rfl ?_) | (with_reducible refine wpList_load_by rfl rfl X.out.box.list rfl ?_) | (go_at_call 33; (with_reducible refine (C0.out _).mono ?_); rintro r wb ⟨rfl, kk⟩; have X := Lib.hid (X.out.next kk); clear kk) | fail)
          go_ret
          exact ⟨ret_int ((chkF_no _ _ (by unfold chkB; simp [show ¬ L.length ≤ 512 by omega])).symm.trans HR.out), X.out.below⟩
      · have q3 : ((cn s 7 : Int) == 0) = true := by rw [beq_iff_eq]; omega
        go_wp2_with (first | (with_reducible refine wpList_load_by rfl rfl X.out.box.base rfl ?_) | (with_reducible refine wpList_load_by rfl rfl X.out.box.bt rfl ?_) | (with_reducible refine wpList_load_wanted rfl rfl X.out.box.bt rfl ?_) | (with_reducible refine wpList_load_wanted rfl rfl X.out.box.set rfl ?_) | (with_reducible refine wpList_load_wanted rfl rfl X.out.box.list rfl ?_) | (with_reducible refine wpList_load_by rfl rfl X.out.box.list rfl ?_) | (go_at_call 33; (with_reducible refine (C0.out _).mono ?_); rintro r wb ⟨rfl, kk⟩; have X := Lib.hid (X.out.next kk); clear kk) | fail)
        go_ret
        exact ⟨ret_int ((chkF_no _ _ (by unfold chkB; simp [show ¬ 1 ≤ cn s 7 by omega])).symm.trans HR.out), X.out.below⟩
    · have q2 : decide (1099511627776 < bt) = true := decide_eq_true (by omega)
      go_wp2_with (first | (with_reducible refine wpList_load_by rfl rfl X.out.box.base rfl ?_) | (with_reducible refine wpList_load_by rfl rfl X.out.box.bt rfl ?_) | (with_reducible refine wpList_load_wanted rfl rfl X.out.box.bt rfl ?_) | (with_reducible refine wpList_load_wanted rfl rfl X.out.box.set rfl ?_) | (with_reducible refine wpList_load_wanted rfl rfl X.out.box.list rfl ?_) | (with_reducible refine wpList_load_by rfl rfl X.out.box.list rfl ?_) | (go_at_call 33; (with_reducible refine (C0.out _).mono ?_); rintro r wb ⟨rfl, kk⟩; have X := Lib.hid (X.out.next kk); clear kk) | fail)
      go_ret
      exact ⟨ret_int ((chkF_no _ _ (by unfold chkB; simp [show ¬ bt ≤ 1099511627776 by omega])).symm.trans HR.out), X.out.below⟩
  · have q1 : decide (1099511627776 < base) = true := decide_eq_true (by omega)
    go_wp2_with (first | (with_reducible refine wpList_load_by rfl rfl X.out.box.base rfl ?_) | (with_reducible refine wpList_load_by rfl rfl X.out.box.bt rfl ?_) | (with_reducible refine wpList_load_wanted rfl rfl X.out.box.bt rfl ?_) | (with_reducible refine wpList_load_wanted rfl rfl X.out.box.set rfl ?_) | (with_reducible refine wpList_load_wanted rfl rfl X.out.box.list rfl ?_) | (with_reducible refine wpList_load_by rfl rfl X.out.box.list rfl ?_) | (go_at_call 33; (with_reducible refine (C0.out _).mono ?_); rintro r wb ⟨rfl, kk⟩; have X := Lib.hid (X.out.next kk); clear kk) | fail)
    go_ret
    exact ⟨ret_int ((chkF_no _ _ (by unfold chkB; simp [show ¬ base ≤ 1099511627776 by omega])).symm.trans HR.out), X.out.below⟩
set_option maxHeartbeats 4000000 in
theorem rcheck_any (l : Lg) (L : List En) (W : World) (hl : EAt W l.lv L) (hz : ∀ e ∈ L, e.i.data.size ≤ maxLen) : Calls Try.prog 10 #[lgV l] W fun r W' => r = .returned (.int .i64 (chkF l L)) ∧ Below W.heap.size W W' := by
  have hlen := hl.le
  obtain ⟨q, c, hq⟩ := hl.is
  obtain ⟨base, bt, s, lv⟩ := l
  dsimp only at hl hq
  subst hq
  have HL := Lib.hid hl
  have HZ := Lib.hid hz
  have C0 := Lib.hid (fun W' => rcount_any s W')
  have hcn := cn_max s 7
  obtain ⟨R, hR⟩ : ∃ R, chkF ⟨base, bt, s, .slice q L.length c⟩ L = R := ⟨_, rfl⟩
  rw [hR]
  have HR := Lib.hid hR
  clear hR hl hz
  go_enter Try.func10, Try.ntmps10
  go_upto_region 1 with (fail)
  have X := Lib.hid (Lb.start W ⟨base, bt, s, .slice q L.length c⟩)
  generalize W.alloc (lgO ⟨base, bt, s, .slice q L.length c⟩) = w0 at *
  by_cases h1 : base ≤ 1099511627776
  · have q1 : decide (1099511627776 < base) = false := decide_eq_false (by omega)
    by_cases h2 : bt ≤ 1099511627776
    · have q2 : decide (1099511627776 < bt) = false := decide_eq_false (by omega)
      by_cases h3 : 1 ≤ cn s 7
      · have q3 : decide ((cn s 7 : Int) < 1) = false := decide_eq_false (by omega)
        by_cases h4 : L.length ≤ 512
        · have q4 : decide ((512 : Int) < L.length) = false := decide_eq_false (by omega)
          have HQ := Lib.hid (show chkB ⟨base, bt, s, .slice q L.length c⟩ L = listB bt L from by unfold chkB; simp [h1, h2, h3, h4])
          clear h1 h2 h3 hcn
          go_wp2_with (first | (with_reducible refine wpList_load_by rfl rfl X.out.box.base rfl ?_) | (with_reducible refine wpList_load_by rfl rfl X.out.box.bt rfl ?_) | (with_reducible refine wpList_load_wanted rfl rfl X.out.box.bt rfl ?_) | (with_reducible refine wpList_load_wanted rfl rfl X.out.box.set rfl ?_) | (with_reducible refine wpList_load_wanted rfl rfl X.out.box.list rfl ?_) | (with_reducible refine wpList_load_by rfl rfl X.out.box.list rfl ?_) | (go_at_call 34; (with_reducible refine (C0.out _).mono ?_); rintro r wb ⟨rfl, kk⟩; have X := Lib.hid (X.out.next kk); clear kk) | fail)
          go_loopw [3, 4] (fun t i wr => ∃ (k : Nat) (x : Int), k ≤ L.length ∧ t = .int .u64 x ∧ i = .int .i64 k ∧ RowKit.Hid (listB bt L = listB x (L.drop k)) ∧ RowKit.Hid (Lb W wr ⟨base, bt, s, .slice q L.length c⟩)) (fun _ i _ => L.length - (intOf i).toNat)
          case atStart => exact ⟨0, bt, by omega, rfl, rfl, Lib.hid rfl, X⟩
          case round =>
            obtain ⟨k, x, hk, rfl, rfl, HS, HX⟩ := hrel
            clear X
            have X := HX
            clear HX
            by_cases hlt : k < L.length
            · have q5 : decide ((k : Int) < L.length) = true := decide_eq_true (by omega)
              obtain ⟨g, off, hqq, hc⟩ := ent_at HL.out (by omega)
              subst hqq
              have HK := Lib.hid (show ∀ w, Below W.heap.size W w → (Instr.loadAt 36 (.pointer (some ⟨g, off + k * 13, none⟩))).run Try.prog w = .ok (enV L[k]) w ∧ (Instr.loadAt 22 (.pointer (some ⟨g, off + k * 13, none⟩))).run Try.prog w = .ok (.int .u64 L[k].term) w from fun w hw => ⟨ent_load w g _ _ (hc k hlt w hw), term_load w g _ _ (hc k hlt w hw)⟩)
              have hix : ∀ w : World, (Instr.indexAt 25 (.slice (some ⟨g, off, none⟩) L.length c) (.int .i64 (k : Int))).run Try.prog w = .ok (.pointer (some ⟨g, off + k * 13, none⟩)) w := fun w => run_idx w g off _ c k hlt
              have HE := Lib.hid (HK.out _ X.out.below).1
              have CE := Lib.hid (fun W' => rentry_any L[k] (HZ.out _ (List.getElem_mem hlt)) W')
              have HD := Lib.hid (show listB x (L.drop k) = (entB L[k] && (decide (x ≤ L[k].term) && listB L[k].term (L.drop (k + 1)))) from by rw [drop_one L k hlt]; rfl)
              clear hc
              generalize L[k] = e at *
              rcases Bool.eq_false_or_eq_true (entB e) with he | he
              · rw [he] at CE HD
                by_cases hx : x ≤ e.term
                · have q6 : decide (e.term < x) = false := decide_eq_false (by omega)
                  have HD2 := Lib.hid (HD.out.trans (show (true && (decide (x ≤ e.term) && listB e.term (L.drop (k + 1)))) = listB e.term (L.drop (k + 1)) from by rw [decide_eq_true hx]; rfl))
                  clear HD hx
                  go_wp2_with (first | (with_reducible refine wpList_load_by rfl rfl X.out.box.base rfl ?_) | (with_reducible refine wpList_load_by rfl rfl X.out.box.bt rfl ?_) | (with_reducible refine wpList_load_wanted rfl rfl X.out.box.bt rfl ?_) | (with_reducible refine wpList_load_wanted rfl rfl X.out.box.set rfl ?_) | (with_reducible refine wpList_load_wanted rfl rfl X.out.box.list rfl ?_) | (with_reducible refine wpList_load_by rfl rfl X.out.box.list rfl ?_) | (with_reducible refine wpList_load_by rfl rfl HE.out rfl ?_) | (with_reducible refine wpList_load_by rfl rfl HT.out rfl ?_) | (with_reducible refine wpList_load_wanted rfl rfl HT.out rfl ?_) | (go_at_call 40; (with_reducible refine (CE.out _).mono ?_); rintro r wb ⟨rfl, kk⟩; have X := Lib.hid (X.out.next kk); have HT := Lib.hid (HK.out _ X.out.below).2; clear kk) | fail)
                  go_round
                  case rel => exact ⟨k + 1, e.term, by omega, rfl, rfl, Lib.hid (HS.out.trans HD2.out), X⟩
                  case measure => simp [intOf]; omega
                · have q6 : decide (e.term < x) = true := decide_eq_true (by omega)
                  rw [decide_eq_false hx] at HD
                  go_wp2_with (first | (with_reducible refine wpList_load_by rfl rfl X.out.box.base rfl ?_) | (with_reducible refine wpList_load_by rfl rfl X.out.box.bt rfl ?_) | (with_reducible refine wpList_load_wanted rfl rfl X.out.box.bt rfl ?_) | (with_reducible refine wpList_load_wanted rfl rfl X.out.box.set rfl ?_) | (with_reducible refine wpList_load_wanted rfl rfl X.out.box.list rfl ?_) | (with_reducible refine wpList_load_by rfl rfl X.out.box.list rfl ?_) | (with_reducible refine wpList_load_by rfl rfl HE.out rfl ?_) | (with_reducible refine wpList_load_by rfl rfl HT.out rfl ?_) | (with_reducible refine wpList_load_wanted rfl rfl HT.out rfl ?_) | (go_at_call 40; (with_reducible refine (CE.out _).mono ?_); rintro r wb ⟨rfl, kk⟩; have X := Lib.hid (X.out.next kk); have HT := Lib.hid (HK.out _ X.out.below).2; clear kk) | fail)
                  go_ret
                  exact ⟨ret_int ((chkF_no _ _ (HQ.out.trans (HS.out.trans HD.out))).symm.trans HR.out), X.out.below⟩
              · rw [he] at CE HD
                go_wp2_with (first | (with_reducible refine wpList_load_by rfl rfl X.out.box.base rfl ?_) | (with_reducible refine wpList_load_by rfl rfl X.out.box.bt rfl ?_) | (with_reducible refine wpList_load_wanted rfl rfl X.out.box.bt rfl ?_) | (with_reducible refine wpList_load_wanted rfl rfl X.out.box.set rfl ?_) | (with_reducible refine wpList_load_wanted rfl rfl X.out.box.list rfl ?_) | (with_reducible refine wpList_load_by rfl rfl X.out.box.list rfl ?_) | (with_reducible refine wpList_load_by rfl rfl HE.out rfl ?_) | (with_reducible refine wpList_load_by rfl rfl HT.out rfl ?_) | (with_reducible refine wpList_load_wanted rfl rfl HT.out rfl ?_) | (go_at_call 40; (with_reducible refine (CE.out _).mono ?_); rintro r wb ⟨rfl, kk⟩; have X := Lib.hid (X.out.next kk); have HT := Lib.hid (HK.out _ X.out.below).2; clear kk) | fail)
                go_ret
                exact ⟨ret_int ((chkF_no _ _ (HQ.out.trans (HS.out.trans HD.out))).symm.trans HR.out), X.out.below⟩
            · obtain rfl : k = L.length := by omega
              have HY := Lib.hid (show listB bt L = true from by rw [HS.out, List.drop_length]; rfl)
              go_wp2_with (first | (with_reducible refine wpList_load_by rfl rfl X.out.box.base rfl ?_) | (with_reducible refine wpList_load_by rfl rfl X.out.box.bt rfl ?_) | (with_reducible refine wpList_load_wanted rfl rfl X.out.box.bt rfl ?_) | (with_reducible refine wpList_load_wanted rfl rfl X.out.box.set rfl ?_) | (with_reducible refine wpList_load_wanted rfl rfl X.out.box.list rfl ?_) | (with_reducible refine wpList_load_by rfl rfl X.out.box.list rfl ?_) | fail)
              go_ret
              exact ⟨ret_int ((chkF_yes _ _ (HQ.out.trans HY.out)).symm.trans HR.out), X.out.below⟩
        · have q4 : decide ((512 : Int) < L.length) = true := decide_eq_true (by omega)
          go_wp2_with (first | (with_reducible refine wpList_load_by rfl rfl X.out.box.base rfl ?_) | (with_reducible refine wpList_load_by rfl rfl X.out.box.bt rfl ?_) | (with_reducible refine wpList_load_wanted rfl rfl X.out.box.bt rfl ?_) | (with_reducible refine wpList_load_wanted rfl rfl X.out.box.set rfl ?_) | (with_reducible refine wpList_load_wanted rfl rfl X.out.box.list rfl ?_) | (with_reducible refine wpList_load_by rfl rfl X.out.box.list rfl ?_) | (go_at_call 34; (with_reducible refine (C0.out _).mono ?_); rintro r wb ⟨rfl, kk⟩; have X := Lib.hid (X.out.next kk); clear kk) | fail)
          go_ret
          exact ⟨ret_int ((chkF_no _ _ (by unfold chkB; simp [show ¬ L.length ≤ 512 by omega])).symm.trans HR.out), X.out.below⟩
      · have q3 : decide ((cn s 7 : Int) < 1) = true := decide_eq_true (by omega)
        go_wp2_with (first | (with_reducible refine wpList_load_by rfl rfl X.out.box.base rfl ?_) | (with_reducible refine wpList_load_by rfl rfl X.out.box.bt rfl ?_) | (with_reducible refine wpList_load_wanted rfl rfl X.out.box.bt rfl ?_) | (with_reducible refine wpList_load_wanted rfl rfl X.out.box.set rfl ?_) | (with_reducible refine wpList_load_wanted rfl rfl X.out.box.list rfl ?_) | (with_reducible refine wpList_load_by rfl rfl X.out.box.list rfl ?_) | (go_at_call 34; (with_reducible refine (C0.out _).mono ?_); rintro r wb ⟨rfl, kk⟩; have X := Lib.hid (X.out.next kk); clear kk) | fail)
        go_ret
        exact ⟨ret_int ((chkF_no _ _ (by unfold chkB; simp [show ¬ 1 ≤ cn s 7 by omega])).symm.trans HR.out), X.out.below⟩
    · have q2 : decide (1099511627776 < bt) = true := decide_eq_true (by omega)
      go_wp2_with (first | (with_reducible refine wpList_load_by rfl rfl X.out.box.base rfl ?_) | (with_reducible refine wpList_load_by rfl rfl X.out.box.bt rfl ?_) | (with_reducible refine wpList_load_wanted rfl rfl X.out.box.bt rfl ?_) | (with_reducible refine wpList_load_wanted rfl rfl X.out.box.set rfl ?_) | (with_reducible refine wpList_load_wanted rfl rfl X.out.box.list rfl ?_) | (with_reducible refine wpList_load_by rfl rfl X.out.box.list rfl ?_) | (go_at_call 34; (with_reducible refine (C0.out _).mono ?_); rintro r wb ⟨rfl, kk⟩; have X := Lib.hid (X.out.next kk); clear kk) | fail)
      go_ret
      exact ⟨ret_int ((chkF_no _ _ (by unfold chkB; simp [show ¬ bt ≤ 1099511627776 by omega])).symm.trans HR.out), X.out.below⟩
  · have q1 : decide (1099511627776 < base) = true := decide_eq_true (by omega)
    go_wp2_with (first | (with_reducible refine wpList_load_by rfl rfl X.out.box.base rfl ?_) | (with_reducible refine wpList_load_by rfl rfl X.out.box.bt rfl ?_) | (with_reducible refine wpList_load_wanted rfl rfl X.out.box.bt rfl ?_) | (with_reducible refine wpList_load_wanted rfl rfl X.out.box.set rfl ?_) | (with_reducible refine wpList_load_wanted rfl rfl X.out.box.list rfl ?_) | (with_reducible refine wpList_load_by rfl rfl X.out.box.list rfl ?_) | (go_at_call 34; (with_reducible refine (C0.out _).mono ?_); rintro r wb ⟨rfl, kk⟩; have X := Lib.hid (X.out.next kk); clear kk) | fail)
    go_ret
    exact ⟨ret_int ((chkF_no _ _ (by unfold chkB; simp [show ¬ base ≤ 1099511627776 by omega])).symm.trans HR.out), X.out.below⟩
end Go.Proofs.Ythlghmechldegaa
