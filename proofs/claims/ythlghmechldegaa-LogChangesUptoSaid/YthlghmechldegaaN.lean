/- Add of the program. -/
import Derived.Test.YthlghmechldegaaM
namespace Go.Proofs.Ythlghmechldegaa
open Go.RowKit Go.Deep Go.Joins
set_option maxRecDepth 100000
def zeroLg : Lg := ⟨0, 0, noF, .slice none 0 0⟩
abbrev zlgC : Array Value := #[.int .u64 0, .int .u64 0, .bool false, .bool false, .bool false, .bool false, .bool false, .bool false, .bool false, .slice none 0 0]
theorem zlgC_eq : lgC zeroLg = zlgC := rfl
theorem LBox.putList {w : World} {b : Nat} {l : Lg} (k : LBox w b l) (q : Option Addr) (n c : Nat) : (Instr.storeAt 25 (.pointer (some ⟨b, 9, none⟩)) (.slice q n c)).run Try.prog w = .ok () (w.setRow b (lgC { l with lv := .slice q n c })) := by
  have h := run_store_cell (P := Try.prog) w b 9 25 27 (lgC l) (.slice q n c) k size25 (by rw [lgC_size]; omega) rfl rfl
  rw [h]
  congr 1
/-- All cells of a log are single ones. -/
def LOk (l : Lg) : Prop := ∃ q n c, l.lv = .slice q n c
theorem lg_one (l : Lg) (h : LOk l) : (lgC l).all (·.oneCell') = true := by
  obtain ⟨q, n, c, e⟩ := h
  unfold lgC lgL
  rw [e]
  simp [Value.oneCell']
theorem LBox.full {w : World} {b : Nat} {l : Lg} (k : LBox w b l) (g : Lg) (h : LOk g) : (Instr.storeAt 27 (.pointer (some ⟨b, 0, none⟩)) (lgV g)).run Try.prog w = .ok () (w.setRow b (lgC g)) := by
  simp only [Instr.storeAt, Instr.sureAddr, Sem.run_bind, Sem.run_pure, Result.andThen]
  exact run_storeVar_row w b 27 27 _ (lgC g) k (by rw [size27, lgC_size]) (by rw [lgC_size, lgC_size]) (lg_one g h)
theorem LBox.zero {w : World} {b : Nat} {l : Lg} (k : LBox w b l) : (Instr.storeAt 27 (.pointer (some ⟨b, 0, none⟩)) (.agg zlgC)).run Try.prog w = .ok () (w.setRow b (lgC zeroLg)) := k.full zeroLg ⟨_, _, _, rfl⟩
/-- A log and a result in two blocks of a function's own. -/
structure Lr (W w : World) (l r : Lg) : Prop where
  box : LBox w W.heap.size l
  res : LBox w (W.heap.size + 1) r
  below : Below W.heap.size W w
theorem Lr.start (W : World) (l r : Lg) : Lr W ((W.alloc (lgO l)).alloc (lgO r)) l r := by
  have e1 : (W.alloc (lgO l)).heap.size = W.heap.size + 1 := by simp
  refine ⟨(LBox.new W l).next (below1 _ _), ?_, ((Below.refl _ _).alloc (Nat.le_refl _) _).alloc (by simp) _⟩
  have := LBox.new (W.alloc (lgO l)) r; rwa [e1] at this
theorem Lr.next {W w w' : World} {l r : Lg} (k : Lr W w l r) (j : Below w.heap.size w w') : Lr W w' l r := ⟨k.box.next j, k.res.next j, below_then k.below (Nat.le_refl _) j⟩
theorem Lr.put {W w : World} {l r : Lg} (k : Lr W w l r) (g : Lg) : Lr W (w.setRow W.heap.size (lgC g)) g r := ⟨k.box.mine g, k.res.over (by omega) _, below_setRow k.below (Nat.le_refl _) _⟩
theorem Lr.tell {W w : World} {l r : Lg} (k : Lr W w l r) (g : Lg) : Lr W (w.setRow (W.heap.size + 1) (lgC g)) l g := ⟨k.box.over (by omega) _, k.res.mine g, below_setRow k.below (by omega) _⟩
theorem results_lg1 {fn : Func} {p : Tmp} (h : fn.results = #[.cell p 27]) (tmps : Array Value) (w : World) (g : Nat) (l : Lg) (hp : tmps.getD p undef = .pointer (some ⟨g, 0, none⟩)) (hg : LBox w g l) : (results fn tmps).run Try.prog w = .ok (lgV l) w :=
  results_cell_row h tmps w g 27 (lgC l) (0, 0) _ hp hg Try.underlying27 rfl (by rw [size27, lgC_size])
theorem LBox.result {w : World} {b : Nat} {l : Lg} (k : LBox w b l) : (loadVar 27 ⟨b, 0, none⟩).run Try.prog w = .ok (lgV l) w :=
  run_loadVar_row w b 27 27 (lgC l) (0, 0) _ k Try.underlying27 rfl (by rw [size27, lgC_size])
theorem results_lg {fn : Func} {p u : Tmp} (h : fn.results = #[.cell p 27, .tmp u]) (tmps : Array Value) (w : World) (g : Nat) (l : Lg) (v : Value) (hp : tmps.getD p undef = .pointer (some ⟨g, 0, none⟩)) (hg : LBox w g l) (hv : tmps.getD u undef = v) : (results fn tmps).run Try.prog w = .ok (.tuple #[lgV l, v]) w := by
  have hp' : tmps[p]?.getD undef = .pointer (some ⟨g, 0, none⟩) := by simpa using hp
  have hv' : tmps[u]?.getD undef = v := by simpa using hv
  simp [results, h, hp', hv', asAddr, hg.result, Result.andThen]
/-- What Add tells. -/
def addE (l : Lg) (L E : List En) : Int := if 512 < L.length + E.length then 4 else chkF l (L ++ E)
/-- What Add leaves. -/
def AddR (W W' : World) (l r : Lg) (M : List En) (x : Int) : Prop := (x = 0 ∧ (∃ v, r = { l with lv := v } ∧ OwnE W' W.heap.size v M)) ∨ (x ≠ 0 ∧ r = zeroLg)
theorem chk_lv (base bt : Int) (s : Nat → Bool) (v u : Value) (L : List En) : chkF ⟨base, bt, s, v⟩ L = chkF ⟨base, bt, s, u⟩ L := rfl
set_option maxHeartbeats 4000000 in
theorem add_any (l : Lg) (L E : List En) (q : Option Addr) (c : Nat) (W : World) (hl : EAt W l.lv L) (he : EAt W (.slice q E.length c) E) (hz : ∀ e ∈ L, e.i.data.size ≤ maxLen) (hz2 : ∀ e ∈ E, e.i.data.size ≤ maxLen) (hs : L.length + E.length ≤ 9223372036854775807) :
    Calls Try.prog 25 #[lgV l, .slice q E.length c] W fun r W' => ∃ r', r = .returned (.tuple #[lgV r', .int .i64 (addE l L E)]) ∧ AddR W W' l r' (L ++ E) (addE l L E) ∧ Below W.heap.size W W' := by
  obtain ⟨p, d, hq⟩ := hl.is
  obtain ⟨base, bt, s, lv⟩ := l
  dsimp only at hl hq
  subst hq
  have HL := Lib.hid hl
  have HE := Lib.hid he
  have HZ := Lib.hid (show ∀ e ∈ L ++ E, e.i.data.size ≤ maxLen from fun e h => (List.mem_append.1 h).elim (hz e) (hz2 e))
  have HLEN := Lib.hid (show (L ++ E).length = L.length + E.length from List.length_append)
  clear hl he hz hz2
  obtain ⟨R, hR⟩ : ∃ R, addE ⟨base, bt, s, .slice p L.length d⟩ L E = R := ⟨_, rfl⟩
  rw [hR]
  have HR := Lib.hid hR
  clear hR
  obtain ⟨N, hN⟩ : ∃ N, L.length + E.length = N := ⟨_, rfl⟩
  have HN := Lib.hid hN
  go_enter Try.func25, Try.ntmps25
  go_upto_region 1 with (fail)
  have X := Lib.hid (show Lr W ((W.alloc (lgO ⟨base, bt, s, .slice p L.length d⟩)).alloc (Obj.cells zlgC 27)) ⟨base, bt, s, .slice p L.length d⟩ zeroLg from Lr.start W _ zeroLg)
  generalize (W.alloc (lgO ⟨base, bt, s, .slice p L.length d⟩)).alloc (Obj.cells zlgC 27) = w0 at *
  by_cases h5 : 512 < N
  · have q5 : decide ((512 : Int) < (L.length : Int) + (E.length : Int)) = true := decide_eq_true (by omega)
    have HE4 := Lib.hid (show addE ⟨base, bt, s, .slice p L.length d⟩ L E = 4 from if_pos (by omega))
    have X2 := Lib.hid (X.out.tell zeroLg)
    go_wp2_with (first | (with_reducible refine wpList_load_by rfl rfl X.out.box.list rfl ?_) | (with_reducible refine wpList_store_by rfl rfl X.out.res.zero rfl rfl ?_) | fail)
    exact bodyPost_ret (v := .tuple #[lgV zeroLg, .int .i64 4]) (results_lg Try.results25 _ _ (W.heap.size + 1) _ _ rfl X2.out.res rfl) rfl ⟨zeroLg, by rw [← HR.out, HE4.out], .inr ⟨by rw [← HR.out, HE4.out]; decide, rfl⟩, X2.out.below⟩
  · have q5 : decide ((512 : Int) < (L.length : Int) + (E.length : Int)) = false := decide_eq_false (by omega)
    have HE4 := Lib.hid (show addE ⟨base, bt, s, .slice p L.length d⟩ L E = chkF ⟨base, bt, s, .slice p L.length d⟩ (L ++ E) from if_neg (by omega))
    go_upto_region 3 with (first | (with_reducible refine wpList_load_by rfl rfl X.out.box.list rfl ?_) | fail)
    have hb3 := below1 w0 (.cells #[.slice p L.length d, .slice q E.length c] 25)
    have HB3 := Lib.hid hb3
    have CC := Lib.hid (show Calls Try.prog 43 #[.slice (some ⟨w0.heap.size, 0, none⟩) 2 2] (w0.alloc (.cells #[.slice p L.length d, .slice q E.length c] 25)) (fun r W' => ∃ q0 c0, r = .returned (.slice q0 N c0) ∧ W'.ownsRow (W.heap.size + 2) 36 13 (.slice q0 N c0) N (eC (L ++ E)) ∧ Below (w0.alloc (.cells #[.slice p L.length d, .slice q E.length c] 25)).heap.size (w0.alloc (.cells #[.slice p L.length d, .slice q E.length c] 25)) W') from
      (concat_any w0.heap.size p q d c L E (w0.alloc (.cells #[.slice p L.length d, .slice q E.length c] 25)) (heap_alloc_new _ _) ((HL.out.below X.out.below).below hb3) ((HE.out.below X.out.below).below hb3) (by omega)).mono fun r W' ⟨q0, c0, h1, h2, h3⟩ => by
        unfold OwnE at h2
        rw [HLEN.out, hN] at h1 h2
        exact ⟨q0, c0, h1, owns_base h2 (by have := X.out.res.lt; simp; omega), h3⟩)
    go_upto_region 4 with (first | (with_reducible refine wpList_load_by rfl rfl X.out.box.list rfl ?_) | (go_at_call 43; (with_reducible refine CC.out.mono ?_); rintro r wb ⟨q0, c0, rfl, ho, kk⟩; have HO := Lib.hid ho; have X := Lib.hid ((X.out.next HB3.out).next kk); clear ho kk) | (with_reducible refine wpList_store_by rfl rfl (X.out.box.putList _ _ _) rfl rfl ?_) | fail)
    have X1 := Lib.hid (X.out.put ⟨base, bt, s, .slice q0 N c0⟩)
    have HO2 := Lib.hid (show World.ownsRow (wb.setRow W.heap.size (lgC ⟨base, bt, s, .slice q0 N c0⟩)) (W.heap.size + 2) 36 13 (.slice q0 N c0) N (eC (L ++ E)) from owns_same HO.out fun g hg => setRow_other _ _ _ _ (by have := (owns_lt HO.out hg).1; omega))
    clear X
    generalize (wb.setRow W.heap.size (lgC ⟨base, bt, s, .slice q0 N c0⟩)) = w6 at *
    have CK := Lib.hid (show ∀ w, Below w6.heap.size w6 w → Calls Try.prog 9 #[lgV ⟨base, bt, s, .slice q0 N c0⟩] w fun r W' => r = .returned (.int .i64 R) ∧ Below w.heap.size w W' from fun w hw => by
      have h := check_any ⟨base, bt, s, .slice q0 N c0⟩ (L ++ E) w (by
        have := (show World.ownsRow w _ 36 13 (.slice q0 N c0) N (eC (L ++ E)) from owns_below HO2.out hw)
        show Reads w (.slice q0 N c0) 13 (L ++ E).length _
        rw [HLEN.out, hN]
        exact reads_of_owns this) HZ.out
      rwa [chk_lv base bt s _ (.slice p L.length d), ← HE4.out, HR.out] at h)
    have hRR : R = 0 ∨ R = 190 := by
      have := HR.out
      rw [HE4.out] at this
      unfold chkF at this
      split at this <;> omega
    clear HB3 CC HO
    rcases hRR with rfl | rfl
    · have X := X1
      go_upto_region 7 with (first | (with_reducible refine wpList_load_by rfl rfl X.out.box.load rfl ?_) | (go_at_call 9; (with_reducible refine (CK.out _ (Below.refl _ _)).mono ?_); rintro r wc ⟨rfl, kk⟩; have X := Lib.hid (X.out.next kk); have HO3 := Lib.hid (owns_below HO2.out kk); clear kk) | fail)
      have X5 := Lib.hid (X.out.tell ⟨base, bt, s, .slice q0 N c0⟩)
      have HF := Lib.hid (X.out.res.full ⟨base, bt, s, .slice q0 N c0⟩ ⟨_, _, _, rfl⟩)
      have HO4 := Lib.hid (show World.ownsRow (wc.setRow (W.heap.size + 1) (lgC ⟨base, bt, s, .slice q0 N c0⟩)) (W.heap.size + 2) 36 13 (.slice q0 N c0) N (eC (L ++ E)) from owns_same HO3.out fun g hg => setRow_other _ _ _ _ (by have := (owns_lt HO3.out hg).1; omega))
      go_wp2_with (first | (with_reducible refine wpList_load_by rfl rfl X.out.box.load rfl ?_) | (with_reducible refine wpList_store_by rfl rfl HF.out rfl rfl ?_) | fail)
      exact bodyPost_ret (v := .tuple #[lgV ⟨base, bt, s, .slice q0 N c0⟩, .int .i64 0]) (results_lg Try.results25 _ _ (W.heap.size + 1) _ _ rfl X5.out.res rfl) rfl ⟨_, rfl, .inl ⟨rfl, .slice q0 N c0, rfl, by
        show World.ownsRow _ _ 36 13 _ (L ++ E).length _
        rw [HLEN.out, hN]
        exact owns_base HO4.out (by omega)⟩, X5.out.below⟩
    · have X := X1
      go_upto_region 6 with (first | (with_reducible refine wpList_load_by rfl rfl X.out.box.load rfl ?_) | (go_at_call 9; (with_reducible refine (CK.out _ (Below.refl _ _)).mono ?_); rintro r wc ⟨rfl, kk⟩; have X := Lib.hid (X.out.next kk); clear kk) | fail)
      have X5 := Lib.hid (X.out.tell zeroLg)
      go_wp2_with (first | (with_reducible refine wpList_store_by rfl rfl X.out.res.zero rfl rfl ?_) | fail)
      exact bodyPost_ret (v := .tuple #[lgV zeroLg, .int .i64 190]) (results_lg Try.results25 _ _ (W.heap.size + 1) _ _ rfl X5.out.res rfl) rfl ⟨_, rfl, .inr ⟨by decide, rfl⟩, X5.out.below⟩
end Go.Proofs.Ythlghmechldegaa
