/- LogChanges' walk. -/
import Derived.Test.YthlghmechldegaaZK
import Derived.Test.YthlghmechldegaaYH
namespace Go.Proofs.Ythlghmechldegaa
open Go.RowKit Go.Deep Go.Joins
set_option maxRecDepth 100000
/-- The entry behind the list. -/
def e77 : En := ⟨77, 0, zeroIn, noF⟩
theorem build_77 (w : World) : (Instr.build 36 #[(0, .int .u64 77)]).run Try.prog w = .ok (enV e77) w := by
  kernel_rfl
theorem exec_build1 {ρ : Operand → Value} {o : Oper} {t : TypeId} {x0 : Operand} {v0 r : Value} {w : World} (ho : o.op = .build t #[(0, x0)]) (hrun : (Instr.build t #[(0, v0)]).run Try.prog w = .ok r w) (h0 : ρ x0 = v0) : (execOp ρ o).run Try.prog w = .ok (.value r) w := by
  unfold execOp
  simp [ho, h0, hrun, Result.andThen]
/-- The log, and another in a block of its own. -/
structure Lc (W w : World) (z : Nat) (l r : Lg) : Prop where
  box : LBox w W.heap.size l
  cur : LBox w z r
  far : W.heap.size < z
  below : Below W.heap.size W w
theorem Lc.next {W w w' : World} {z : Nat} {l r : Lg} (k : Lc W w z l r) (j : Below w.heap.size w w') : Lc W w' z l r := ⟨k.box.next j, k.cur.next j, k.far, below_then k.below (Nat.le_refl _) j⟩
theorem slice_cap {q : Option Addr} {k c n : Nat} (kd : IntKind) (hn : n ≤ c) (w : World) : (Instr.sliceAt 25 (.slice q k c) none (some (.int kd (n : Int))) none).run Try.prog w = .ok (.slice q n c) w := by
  have hu : Try.prog.underlying 25 = some (.slice (Try.prog.elem 25)) := by rw [elem25]; exact Try.underlying25
  rw [run_sliceAt_slice w 25 _ _ _ _ hu, run_slice_h w 25 q k c hu kd n (by omega) (by omega), elem25, size_of36]
  simp only [Result.andThen, sliced, Int.toNat_natCast, Nat.zero_mul, Nat.sub_zero]
  have e : (if c = 0 then q else q.map (·.add 0)) = q := by
    split
    · rfl
    · cases q with
      | none => rfl
      | some a => simp [Addr.add]
  rw [e]
theorem chkB_far (l : Lg) (L : List En) (h : 1099511627776 < l.base) : chkB l L = false := by
  unfold chkB
  rw [decide_eq_false (show ¬ l.base ≤ 1099511627776 by omega)]
  rfl
theorem copy_calls {f : FuncId} {args : Array Value} {w : World} {l : Lg} {L : List En} (h : Calls Try.prog f args w (Copied w l L)) : Calls Try.prog f args w fun e w' => ∃ v, e = .returned v ∧ (∃ q c, v = lgV { l with lv := .slice q L.length c } ∧ OwnE w' w.heap.size (.slice q L.length c) L ∧ Below w.heap.size w w') :=
  h.mono fun _ _ ⟨q, c, h1, h2, h3⟩ => ⟨_, h1, q, c, rfl, h2, h3⟩
/-- The log, its copy, and what two changes tell. -/
structure Lx4 (V W w : World) (z x y : Nat) (l r a b : Lg) : Prop where
  box : LBox w W.heap.size l
  cur : LBox w z r
  fa : LBox w x a
  fb : LBox w y b
  f1 : W.heap.size < z
  f2 : z < x
  f3 : x < y
  f4 : V.heap.size ≤ x
  below : Below W.heap.size W w
  b6 : Below V.heap.size V w
theorem Lx4.next {V W w w' : World} {z x y : Nat} {l r a b : Lg} (k : Lx4 V W w z x y l r a b) (j : Below w.heap.size w w') : Lx4 V W w' z x y l r a b :=
  ⟨k.box.next j, k.cur.next j, k.fa.next j, k.fb.next j, k.f1, k.f2, k.f3, k.f4, below_then k.below (Nat.le_refl _) j, below_then k.b6 (Nat.le_refl _) j⟩
theorem Lx4.putA {V W w : World} {z x y : Nat} {l r a b : Lg} (k : Lx4 V W w z x y l r a b) (g : Lg) : Lx4 V W (w.setRow x (lgC g)) z x y l r g b := by
  have f1 := k.f1
  have f2 := k.f2
  have f3 := k.f3
  have f4 := k.f4
  exact ⟨k.box.over (by omega) _, k.cur.over (by omega) _, k.fa.mine _, k.fb.over (by omega) _, f1, f2, f3, f4, below_setRow k.below (by omega) _, below_setRow k.b6 (by omega) _⟩
theorem Lx4.putB {V W w : World} {z x y : Nat} {l r a b : Lg} (k : Lx4 V W w z x y l r a b) (g : Lg) : Lx4 V W (w.setRow y (lgC g)) z x y l r a g := by
  have f1 := k.f1
  have f2 := k.f2
  have f3 := k.f3
  have f4 := k.f4
  exact ⟨k.box.over (by omega) _, k.cur.over (by omega) _, k.fa.over (by omega) _, k.fb.mine _, f1, f2, f3, f4, below_setRow k.below (by omega) _, below_setRow k.b6 (by omega) _⟩
set_option maxHeartbeats 8000000 in
theorem changes_walk (l : Lg) (L E : List En) (prev pt : Int) (q : Option Addr) (c : Nat) (W : World) (hl : EAt W l.lv L) (he : EAt W (.slice q E.length c) E) (hz : ∀ e ∈ L, e.i.data.size ≤ maxLen) (hz2 : ∀ e ∈ E, e.i.data.size ≤ maxLen) (h0 : 0 ≤ l.base) (hi0 : 0 ≤ prev) (hi1 : prev < 18446744073709551616) (hlim : (L.length + 600) * 64 ≤ 140737488355328) (hs : L.length + E.length ≤ 9223372036854775807) : Calls Try.prog 4 #[lgV l, .int .u64 prev, .int .u64 pt, .slice q E.length c] W fun r W' => r = .returned (.bool true) ∧ Below W.heap.size W W' := by
  have HL := Lib.hid hl
  have HE := Lib.hid he
  have C8 := Lib.hid (fun W' => awake_any W')
  by_cases h1 : l.base ≤ 1152921504606846976
  · have CY := Lib.hid (fun w (hw : Below W.heap.size W w) => rcopy_any l L w (HL.out.below hw) (by omega))
    obtain ⟨p, d, hq⟩ := hl.is
    obtain ⟨base, bt, s, lv⟩ := l
    dsimp only at hl hq h0 h1 HL
    subst hq
    have q1 : decide (1152921504606846976 < base) = false := decide_eq_false (by omega)
    go_enter Try.func4, Try.ntmps4
    go_upto_region 1 with (fail)
    have X := Lib.hid (Lb.start W ⟨base, bt, s, .slice p L.length d⟩)
    generalize W.alloc (lgO ⟨base, bt, s, .slice p L.length d⟩) = w0 at *
    go_upto_region 6 with (first | (with_reducible refine wpList_load_by rfl rfl X.out.box.base rfl ?_) | (with_reducible refine wpList_load_by rfl rfl X.out.box.load rfl ?_) | (go_at_call 8; (with_reducible refine (C8.out _).mono ?_); rintro r wa ⟨rfl, kk⟩; have X := Lib.hid (X.out.next kk); clear kk) | (go_at_call 24; (with_reducible refine (CY.out _ X.out.below).mono ?_); rintro r wb ⟨q0, c0, rfl, ho, kk⟩; have HF := Lib.hid (fun w => lg_new w ⟨base, bt, s, .slice q0 L.length c0⟩ ⟨_, _, _, rfl⟩); have HO := Lib.hid (show World.ownsRow wb (W.heap.size + 1) 36 13 (.slice q0 L.length c0) L.length (eC L) from owns_base ho (by have := X.out.box.lt; omega)); have X := Lib.hid (X.out.next kk); clear ho kk) | (with_reducible refine wpList_store_by rfl rfl (HF.out _) rfl rfl ?_) | fail)
    have HO := Lib.hid (owns_below HO.out (below1 wb (lgO ⟨base, bt, s, .slice q0 L.length c0⟩)))
    have X := Lib.hid (Lc.mk (X.out.next (below1 wb (lgO ⟨base, bt, s, .slice q0 L.length c0⟩))).box (LBox.new wb ⟨base, bt, s, .slice q0 L.length c0⟩) X.out.box.lt (X.out.next (below1 wb (lgO ⟨base, bt, s, .slice q0 L.length c0⟩))).below)
    generalize wb.heap.size = z at *
    generalize wb.alloc (lgO ⟨base, bt, s, .slice q0 L.length c0⟩) = w3 at *
    clear HF CY C8
    try simp only [put_none]
    refine drK (fun w => LBox w W.heap.size ⟨base, bt, s, .slice p L.length d⟩ ∧ LBox w z ⟨base, bt, s, .slice q0 L.length c0⟩) 10 fun w4 hzz => ?_
    have X := Lib.hid (X.out.next hzz)
    have HO := Lib.hid (owns_below HO.out hzz)
    clear hzz
    have hS := And.intro X.out.box X.out.cur
    refine tkK 0 hS ?_
    refine tlK 1 hS (fun w hw => hw.2.list) ?_
    refine tkK 2 hS ?_ (hy := .inl ⟨by kernel_rfl, fun w _ => exec_build1 rfl (build_77 w) rfl⟩)
    refine tkK 5 hS ?_
    refine tlK 6 hS (fun w hw => hw.1.list) ?_
    refine tkK 7 hS ?_
    have HG := Lib.hid (heap_alloc_new w4 (.cells (enC e77) 36))
    have X6 := Lib.hid (X.out.next (below1 w4 (.cells (enC e77) 36)))
    have HO := Lib.hid (owns_below HO.out (below1 w4 (.cells (enC e77) 36)))
    refine oneK 3 (opVal 3 (exec_be _ rfl rfl) ⟨fun _ => And.intro X6.out.box X6.out.cur, ?_⟩)
    have X := X6
    clear X6
    generalize w4.heap.size = y2 at *
    generalize w4.alloc (.cells (enC e77) 36) = w5 at *
    have hcap := owns_cap HO.out
    obtain ⟨q2, c2, w9, hrun, ho2, ht⟩ := app_ent HO.out HG.out (by have := X.out.far; have := X.out.cur.lt; omega) (by omega)
    have HTB := Lib.hid (show ∀ g, (Value.slice q0 L.length c0).ownBlock = some g → W.heap.size < g from fun g hg => (owns_lt HO.out hg).1)
    have HNZ := Lib.hid (show ∀ g, (Value.slice q0 L.length c0).ownBlock = some g → g ≠ z from fun g hg e => own_not HO.out X.out.cur (by rw [hg, e]))
    have HB9 := Lib.hid (show LBox w9 W.heap.size ⟨base, bt, s, .slice p L.length d⟩ from (ht.block _ X.out.box.lt (fun h => by have := HTB.out _ h.symm; omega)).trans X.out.box)
    have HC9 := Lib.hid (show LBox w9 z ⟨base, bt, s, .slice q0 L.length c0⟩ from (ht.block _ X.out.cur.lt (fun h => HNZ.out _ h.symm rfl)).trans X.out.cur)
    have HW9 := Lib.hid (show Below W.heap.size W w9 from Touch.below X.out.below ht (fun g hg => by have := HTB.out _ hg.symm; omega) X.out.below.size)
    refine oneK 4 (opVal 4 (exec_app (v := .slice q0 L.length c0) (u := .slice (some ⟨y2, 0, none⟩) 1 1) rfl hrun rfl rfl) ⟨fun _ => And.intro HB9.out HC9.out, ?_⟩)
    have hS := And.intro HB9.out HC9.out
    have HO2 := Lib.hid ho2
    have hc2 := owns_cap ho2
    clear hrun ho2 ht hcap
    refine tkK 8 hS ?_ (hy := .inl ⟨by kernel_rfl, fun w _ => exec_shi rfl (slice_hi .i64 (Nat.le_succ L.length) hc2 w) rfl rfl⟩)
    refine tkK 9 hS ?_
    refine hsK (HC9.out.putList q2 L.length c2) fun wy hw => ?_
    subst hw
    refine doneK ?_ (by kernel_rfl) _
    have far := X.out.far
    have HO3 := Lib.hid (owns_same HO2.out (w' := w9.setRow z (lgC ⟨base, bt, s, .slice q2 L.length c2⟩)) fun g hg => setRow_other _ _ _ _ fun e => own_not HO2.out HC9.out (by rw [hg, e]))
    have X := Lib.hid (show Lc W (w9.setRow z (lgC ⟨base, bt, s, .slice q2 L.length c2⟩)) z ⟨base, bt, s, .slice p L.length d⟩ ⟨base, bt, s, .slice q2 L.length c2⟩ from ⟨HB9.out.over (by omega) _, HC9.out.mine _, far, below_setRow HW9.out (by omega) _⟩)
    have R2 := Lib.hid (show EAt (w9.setRow z (lgC ⟨base, bt, s, .slice q2 L.length c2⟩)) (.slice q2 (L ++ [e77]).length c2) (L ++ [e77]) from by
      rw [show (L ++ [e77]).length = L.length + 1 from by simp]
      show Reads _ (.slice q2 (L.length + 1) c2) 13 (L ++ [e77]).length _
      rw [show (L ++ [e77]).length = L.length + 1 from by simp]
      exact reads_of_owns HO3.out)
    have R1 := Lib.hid (show EAt (w9.setRow z (lgC ⟨base, bt, s, .slice q2 L.length c2⟩)) (.slice q2 L.length c2) L from by
      have h := owns_take HO3.out (Nat.le_succ L.length)
      rw [List.take_left] at h
      exact reads_of_owns h)
    clear HO HO2 HO3 HTB HNZ HB9 HC9 HW9 HG far
    generalize w9.setRow z (lgC ⟨base, bt, s, .slice q2 L.length c2⟩) = w6 at *
    have HSC := Lib.hid (show ∀ w, Below w6.heap.size w6 w → Below W.heap.size W w from fun w hw => below_then X.out.below (Nat.le_refl _) hw)
    have CA := Lib.hid (show ∀ w, Below w6.heap.size w6 w → Calls Try.prog 25 #[lgV ⟨base, bt, s, .slice q2 L.length c2⟩, .slice q E.length c] w fun r W' => ∃ a, r = Ending.returned (.tuple #[lgV a, .int .i64 (addE ⟨base, bt, s, .slice none 0 0⟩ L E)]) ∧ Iso W' w.heap.size (hd (addE ⟨base, bt, s, .slice none 0 0⟩ L E == 0) ⟨base, bt, s, .slice none 0 0⟩) (if addE ⟨base, bt, s, .slice none 0 0⟩ L E = 0 then L ++ E else []) a ∧ Below w.heap.size w W' from fun w hw => (add_any ⟨base, bt, s, .slice q2 L.length c2⟩ L E q c w (R1.out.below hw) (HE.out.below (HSC.out w hw)) hz hz2 hs).mono fun r W' ⟨a, h1, h2, h3⟩ => ⟨a, h1, h2.iso, h3⟩)
    have CB := Lib.hid (show ∀ w, Below w6.heap.size w6 w → Calls Try.prog 26 #[lgV ⟨base, bt, s, .slice p L.length d⟩, .slice q E.length c] w fun r W' => ∃ a, r = Ending.returned (.tuple #[lgV a, .int .i64 (addE ⟨base, bt, s, .slice none 0 0⟩ L E)]) ∧ Iso W' w.heap.size (hd (addE ⟨base, bt, s, .slice none 0 0⟩ L E == 0) ⟨base, bt, s, .slice none 0 0⟩) (if addE ⟨base, bt, s, .slice none 0 0⟩ L E = 0 then L ++ E else []) a ∧ Below w.heap.size w W' from fun w hw => (radd_any ⟨base, bt, s, .slice p L.length d⟩ L E q c w (HL.out.below (HSC.out w hw)) (HE.out.below (HSC.out w hw)) hz hz2 (by omega) hs).mono fun r W' ⟨a, h1, h2, h3⟩ => ⟨a, h1, h2.iso, h3⟩)
    have CC := Lib.hid (show ∀ w, Below w6.heap.size w6 w → Calls Try.prog 28 #[lgV ⟨base, bt, s, .slice q2 L.length c2⟩, .int .u64 prev, .int .u64 pt, .slice q E.length c] w fun r W' => ∃ a, r = Ending.returned (.tuple #[lgV a, .int .u64 (if acB ⟨base, bt, s, .slice none 0 0⟩ L prev pt E = true then prev + E.length else 0), .bool (acB ⟨base, bt, s, .slice none 0 0⟩ L prev pt E)]) ∧ Iso W' w.heap.size (hd (acB ⟨base, bt, s, .slice none 0 0⟩ L prev pt E) ⟨base, bt, s, .slice none 0 0⟩) (if acB ⟨base, bt, s, .slice none 0 0⟩ L prev pt E = true then accN base L prev E E.length else []) a ∧ Below w.heap.size w W' from fun w hw => (accept_any ⟨base, bt, s, .slice q2 L.length c2⟩ L E prev pt q c w (R1.out.below hw) (HE.out.below (HSC.out w hw)) hz hz2 h0 h1 hi0 hi1 hlim).mono fun r W' ⟨a, h1, h2, h3⟩ => ⟨a, h1, h2.iso, h3⟩)
    have CD := Lib.hid (show ∀ w, Below w6.heap.size w6 w → Calls Try.prog 29 #[lgV ⟨base, bt, s, .slice p L.length d⟩, .int .u64 prev, .int .u64 pt, .slice q E.length c] w fun r W' => ∃ a, r = Ending.returned (.tuple #[lgV a, .int .u64 (if acB ⟨base, bt, s, .slice none 0 0⟩ L prev pt E = true then prev + E.length else 0), .bool (acB ⟨base, bt, s, .slice none 0 0⟩ L prev pt E)]) ∧ Iso W' w.heap.size (hd (acB ⟨base, bt, s, .slice none 0 0⟩ L prev pt E) ⟨base, bt, s, .slice none 0 0⟩) (if acB ⟨base, bt, s, .slice none 0 0⟩ L prev pt E = true then accN base L prev E E.length else []) a ∧ Below w.heap.size w W' from fun w hw => (raccept_any ⟨base, bt, s, .slice p L.length d⟩ L E prev pt q c w (HL.out.below (HSC.out w hw)) (HE.out.below (HSC.out w hw)) hz hz2 h0 h1 hi0 hi1 hlim).mono fun r W' ⟨a, h1, h2, h3⟩ => ⟨a, h1, h2.iso, h3⟩)
    have CE := Lib.hid (show ∀ w, Below w6.heap.size w6 w → Calls Try.prog 30 #[lgV ⟨base, bt, s, .slice q2 L.length c2⟩, .int .u64 prev] w fun r W' => ∃ a, r = Ending.returned (.tuple #[lgV a, .int .i64 (shE ⟨base, bt, s, .slice none 0 0⟩ L prev)]) ∧ Iso W' w.heap.size (hd (shE ⟨base, bt, s, .slice none 0 0⟩ L prev == 0) (shL ⟨base, bt, s, .slice none 0 0⟩ L prev)) (if shE ⟨base, bt, s, .slice none 0 0⟩ L prev = 0 then L.drop (upN ⟨base, bt, s, .slice none 0 0⟩ L prev) else []) a ∧ Below w.heap.size w W' from fun w hw => (short_any ⟨base, bt, s, .slice q2 L.length c2⟩ L prev w (R1.out.below hw) h0 h1 hi0 hi1 (by omega) (by omega)).mono fun r W' ⟨a, h1, h2, h3⟩ => ⟨a, h1, h2.iso, h3⟩)
    have CF := Lib.hid (show ∀ w, Below w6.heap.size w6 w → Calls Try.prog 31 #[lgV ⟨base, bt, s, .slice p L.length d⟩, .int .u64 prev] w fun r W' => ∃ a, r = Ending.returned (.tuple #[lgV a, .int .i64 (shE ⟨base, bt, s, .slice none 0 0⟩ L prev)]) ∧ Iso W' w.heap.size (hd (shE ⟨base, bt, s, .slice none 0 0⟩ L prev == 0) (shL ⟨base, bt, s, .slice none 0 0⟩ L prev)) (if shE ⟨base, bt, s, .slice none 0 0⟩ L prev = 0 then L.drop (upN ⟨base, bt, s, .slice none 0 0⟩ L prev) else []) a ∧ Below w.heap.size w W' from fun w hw => (rshort_any ⟨base, bt, s, .slice p L.length d⟩ L prev w (HL.out.below (HSC.out w hw)) h0 h1 hi0 hi1 (by omega) (by omega)).mono fun r W' ⟨a, h1, h2, h3⟩ => ⟨a, h1, h2.iso, h3⟩)
    generalize hd (addE ⟨base, bt, s, .slice none 0 0⟩ L E == 0) ⟨base, bt, s, .slice none 0 0⟩ = G1 at CA CB
    generalize (if addE ⟨base, bt, s, .slice none 0 0⟩ L E = 0 then L ++ E else []) = M1 at CA CB
    generalize addE ⟨base, bt, s, .slice none 0 0⟩ L E = x1 at CA CB
    generalize (if acB ⟨base, bt, s, .slice none 0 0⟩ L prev pt E = true then prev + E.length else 0) = n2 at CC CD
    generalize hd (acB ⟨base, bt, s, .slice none 0 0⟩ L prev pt E) ⟨base, bt, s, .slice none 0 0⟩ = G2 at CC CD
    generalize (if acB ⟨base, bt, s, .slice none 0 0⟩ L prev pt E = true then accN base L prev E E.length else []) = M2 at CC CD
    generalize acB ⟨base, bt, s, .slice none 0 0⟩ L prev pt E = x2 at CC CD
    generalize hd (shE ⟨base, bt, s, .slice none 0 0⟩ L prev == 0) (shL ⟨base, bt, s, .slice none 0 0⟩ L prev) = G3 at CE CF
    generalize (if shE ⟨base, bt, s, .slice none 0 0⟩ L prev = 0 then L.drop (upN ⟨base, bt, s, .slice none 0 0⟩ L prev) else []) = M3 at CE CF
    generalize shE ⟨base, bt, s, .slice none 0 0⟩ L prev = x3 at CE CF
    have HLM := Lib.hid hlim
    clear hz hz2 hi0 hi1 hlim hs he HSC
    have hc3 : L.length + 1 ≤ c2 := hc2
    clear hc2
    have B6 := Lib.hid (Below.refl w6.heap.size w6)
    have hzz : z < w6.heap.size := X.out.cur.lt
    go_upto_region 8 with (first | (with_reducible refine wpList_load_by rfl rfl X.out.cur.load rfl ?_) | (go_at_call 25; (with_reducible refine (CA.out _ B6.out).mono ?_); rintro r wb ⟨a1, rfl, ia, kk⟩; have HF := Lib.hid (fun w => lg_new w a1 ia.is.lok); have X := Lib.hid (X.out.next kk); have B6 := Lib.hid (below_then B6.out (Nat.le_refl _) kk); have IA := Lib.hid ia; clear kk ia) | (with_reducible refine wpList_store_by rfl rfl (HF.out _) rfl rfl ?_) | fail)
    have X := Lib.hid (X.out.next (below1 wb (lgO a1)))
    have B7 := Lib.hid (below_then B6.out (Nat.le_refl _) (below1 wb (lgO a1)))
    have IA := Lib.hid (IA.out.below (below1 wb (lgO a1)))
    have A := Lib.hid (LBox.new wb a1)
    have hx : w6.heap.size ≤ wb.heap.size := B6.out.size
    clear HF CA B6
    generalize wb.heap.size = x at *
    generalize wb.alloc (lgO a1) = w7 at *
    go_upto_region 9 with (first | (with_reducible refine wpList_load_by rfl rfl X.out.box.load rfl ?_) | (go_at_call 26; (with_reducible refine (CB.out _ B7.out).mono ?_); rintro r wb ⟨b1, rfl, ib, kk⟩; have HF := Lib.hid (fun w => lg_new w b1 ib.is.lok); have X := Lib.hid (X.out.next kk); have IA := Lib.hid (IA.out.below kk); have A := Lib.hid (A.out.next kk); have B8 := Lib.hid (below_then B7.out (Nat.le_refl _) kk); have IB := Lib.hid ib; clear kk ib) | (with_reducible refine wpList_store_by rfl rfl (HF.out _) rfl rfl ?_) | fail)
    have Y := Lib.hid (Lx4.mk (X.out.next (below1 wb (lgO b1))).box (X.out.next (below1 wb (lgO b1))).cur (A.out.next (below1 wb (lgO b1))) (LBox.new wb b1) X.out.far (by omega) A.out.lt hx (X.out.next (below1 wb (lgO b1))).below (below_then B8.out (Nat.le_refl _) (below1 wb (lgO b1))) : Lx4 w6 W (wb.alloc (lgO b1)) z x wb.heap.size ⟨base, bt, s, .slice p L.length d⟩ ⟨base, bt, s, .slice q2 L.length c2⟩ a1 b1)
    have IA := Lib.hid (IA.out.below (below1 wb (lgO b1))).is
    have IB := Lib.hid (IB.out.below (below1 wb (lgO b1))).is
    clear HF CB B7 B8 A X
    generalize wb.heap.size = y at *
    generalize wb.alloc (lgO b1) = w8 at *
    have q9 : (x1 != x1) = false := by simp
    go_upto_region 11 with (first | (with_reducible refine wpList_load_by rfl rfl Y.out.fa.load rfl ?_) | (with_reducible refine wpList_load_by rfl rfl Y.out.fb.load rfl ?_) | (go_at_call 27; (with_reducible refine (same_is IA.out IB.out).mono ?_); rintro r wc ⟨rfl, kk⟩; have Y := Lib.hid (Y.out.next kk); clear kk) | fail)
    clear q9
    go_upto_region 12 with (first | (with_reducible refine wpList_load_by rfl rfl Y.out.cur.load rfl ?_) | (go_at_call 28; have hlt := Y.out.fb.lt; (with_reducible refine (CC.out _ Y.out.b6).mono ?_); rintro r wd ⟨a2, rfl, ia, kk⟩; obtain ⟨B, hB, ia2⟩ : ∃ B, y < B ∧ Iso wd B G2 M2 a2 := ⟨_, hlt, ia⟩; clear hlt ia; have Y := Lib.hid (Y.out.next kk); have HF := Lib.hid (Y.out.fa.full a2 ia2.is.lok); have IA := Lib.hid (ia2.over (x := x) (by have := Y.out.f3; omega) (lgC a2)); clear kk ia2) | (with_reducible refine wpList_store_by rfl rfl HF.out rfl rfl ?_) | fail)
    have Y := Lib.hid (Y.out.putA a2)
    clear HF CC
    generalize wd.setRow x (lgC a2) = w20 at *
    go_upto_region 13 with (first | (with_reducible refine wpList_load_by rfl rfl Y.out.box.load rfl ?_) | (go_at_call 29; have hlt := Y.out.fb.lt; (with_reducible refine (CD.out _ Y.out.b6).mono ?_); rintro r we ⟨b2, rfl, ib, kk⟩; have IB := Lib.hid (ib.over hlt (lgC b2)).is; have IA := Lib.hid ((IA.out.below kk).over hB (lgC b2)).is; have Y := Lib.hid (Y.out.next kk); have HF := Lib.hid (Y.out.fb.full b2 ib.is.lok); clear kk ib hlt) | (with_reducible refine wpList_store_by rfl rfl HF.out rfl rfl ?_) | fail)
    have Y := Lib.hid (Y.out.putB b2)
    clear HF CD hB
    generalize we.setRow y (lgC b2) = w21 at *
    have q9 : (n2 != n2) = false := by simp
    have q10 : (x2 != x2) = false := by simp
    go_upto_region 15 with (first | (with_reducible refine wpList_load_by rfl rfl Y.out.fa.load rfl ?_) | (with_reducible refine wpList_load_by rfl rfl Y.out.fb.load rfl ?_) | (go_at_call 27; (with_reducible refine (same_is IA.out IB.out).mono ?_); rintro r wc ⟨rfl, kk⟩; have Y := Lib.hid (Y.out.next kk); clear kk) | fail)
    clear q9 q10 IA IB
    go_upto_region 16 with (first | (with_reducible refine wpList_load_by rfl rfl Y.out.cur.load rfl ?_) | (go_at_call 30; have hlt := Y.out.fb.lt; (with_reducible refine (CE.out _ Y.out.b6).mono ?_); rintro r wd ⟨a2, rfl, ia, kk⟩; obtain ⟨B, hB, ia2⟩ : ∃ B, y < B ∧ Iso wd B G3 M3 a2 := ⟨_, hlt, ia⟩; clear hlt ia; have Y := Lib.hid (Y.out.next kk); have HF := Lib.hid (Y.out.fa.full a2 ia2.is.lok); have IA := Lib.hid (ia2.over (x := x) (by have := Y.out.f3; omega) (lgC a2)); clear kk ia2) | (with_reducible refine wpList_store_by rfl rfl HF.out rfl rfl ?_) | fail)
    have Y := Lib.hid (Y.out.putA a2)
    clear HF CE
    generalize wd.setRow x (lgC a2) = w30 at *
    go_upto_region 17 with (first | (with_reducible refine wpList_load_by rfl rfl Y.out.box.load rfl ?_) | (go_at_call 31; have hlt := Y.out.fb.lt; (with_reducible refine (CF.out _ Y.out.b6).mono ?_); rintro r we ⟨b2, rfl, ib, kk⟩; have IB := Lib.hid (ib.over hlt (lgC b2)).is; have IA := Lib.hid ((IA.out.below kk).over hB (lgC b2)).is; have Y := Lib.hid (Y.out.next kk); have HF := Lib.hid (Y.out.fb.full b2 ib.is.lok); clear kk ib hlt) | (with_reducible refine wpList_store_by rfl rfl HF.out rfl rfl ?_) | fail)
    have Y := Lib.hid (Y.out.putB b2)
    clear HF CF hB
    generalize we.setRow y (lgC b2) = w31 at *
    obtain ⟨g, off, hqq, hc⟩ := ent_at R2.out (by simp)
    subst hqq
    have H77 := Lib.hid (show ∀ w, Below w6.heap.size w6 w → (Instr.loadAt 22 (.pointer (some ⟨g, off + L.length * 13, none⟩))).run Try.prog w = .ok (.int .u64 77) w from fun w hw => term_load w g _ e77 (by
      have h := hc L.length (by simp) w hw
      simpa using h))
    have HSL := Lib.hid (show ∀ w : World, (Instr.sliceAt 25 (.slice (some ⟨g, off, none⟩) L.length c2) none (some (.int .i64 (IntKind.i64.wrap (L.length + 1)))) none).run Try.prog w = .ok (.slice (some ⟨g, off, none⟩) (L.length + 1) c2) w from fun w => by
      have e1 : IntKind.i64.wrap ((L.length : Int) + 1) = ((L.length + 1 : Nat) : Int) := by have := HLM.out; rw [IntKind.wrap_i64]; omega
      rw [e1]
      exact slice_cap .i64 hc3 w)
    have HIX := Lib.hid (show ∀ w : World, (Instr.indexAt 25 (.slice (some ⟨g, off, none⟩) (L.length + 1) c2) (.int .i64 (L.length : Int))).run Try.prog w = .ok (.pointer (some ⟨g, off + L.length * 13, none⟩)) w from fun w => run_idx w g off _ c2 L.length (by omega))
    refine dr (fun w => Lx4 w6 W w z x y ⟨base, bt, s, .slice p L.length d⟩ ⟨base, bt, s, .slice (some ⟨g, off, none⟩) L.length c2⟩ a2 b2) fun w11 hzz => ?_
    have hS := Y.out.next hzz
    have IA := Lib.hid (IA.out.below hzz)
    have IB := Lib.hid (IB.out.below hzz)
    clear hzz Y hc R2
    refine tl 0 hS (fun w hw => hw.fa.load) ?_
    refine tl 1 hS (fun w hw => hw.fb.load) ?_
    refine hc 2 (true_calls (same_is IA.out IB.out)) fun v wv hr => ?_
    obtain ⟨rfl, kv⟩ := hr
    refine ⟨hS.next kv, fun hS => ?_⟩
    clear kv IA IB
    refine tk 3 hS ?_
    refine tk 4 hS ?_
    refine tk 5 hS ?_
    refine tk 6 hS ?_
    refine tk 7 hS ?_
    refine tk 8 hS ?_
    refine tl 9 hS (fun w hw => hw.cur.load) ?_
    refine tl 10 hS (fun w hw => hw.box.load) ?_
    refine hc 11 (true_calls (same_log base bt s _ _ _ _ L _ (R1.out.below hS.b6) (HL.out.below hS.below))) fun v wv hr => ?_
    obtain ⟨rfl, kv⟩ := hr
    refine ⟨hS.next kv, fun hS => ?_⟩
    clear kv
    refine tk 12 hS ?_
    refine tk 13 hS ?_
    refine tk 14 hS ?_
    refine tl 15 hS (fun w hw => hw.cur.list) ?_
    refine tk 16 hS ?_
    refine tl 17 hS (fun w hw => hw.box.list) ?_
    refine tk 21 hS ?_
    refine tl 22 hS (fun w hw => hw.box.list) ?_
    refine tk 18 hS ?_
    refine tk 23 hS ?_
    refine tk 19 hS ?_
    refine tk 20 hS ?_ (hy := .inl ⟨by kernel_rfl, fun w _ => exec_shi rfl (HSL.out w) rfl rfl⟩)
    refine tk 24 hS ?_ (hy := .inl ⟨by kernel_rfl, fun w _ => exec_ix rfl rfl rfl (HIX.out w)⟩)
    refine tk 25 hS ?_
    refine tl 26 hS (fun w hw => H77.out w hw.b6) ?_
    refine tk 27 hS ?_
    refine tk 28 hS ?_
    refine tk 29 hS ?_
    refine tl 30 hS (fun w hw => hw.cur.load) ?_
    refine tl 32 hS (fun w hw => hw.box.load) ?_
    refine hc 31 (copy_calls (copy_any ⟨base, bt, s, .slice (some ⟨g, off, none⟩) L.length c2⟩ L _ (R1.out.below hS.b6) (by have := HLM.out; omega))) fun v wv hr => ?_
    obtain ⟨q5, c5, rfl, ho, kv⟩ := hr
    refine ⟨hS.next kv, fun hS => ?_⟩
    have R5 := Lib.hid (reads_of_owns ho)
    clear kv ho
    refine hc 33 (true_calls (same_log base bt s _ _ _ _ L _ R5.out (HL.out.below hS.below))) fun v wv hr => ?_
    obtain ⟨rfl, kv⟩ := hr
    refine ⟨hS.next kv, fun hS => ?_⟩
    clear kv
    refine tk 34 hS ?_
    refine tk 35 hS ?_
    refine wpAnyH_done (by kernel_rfl) ?_ _
    go_wp2
    go_ret
    exact ⟨rfl, hS.below⟩
  · have q1 : decide (1152921504606846976 < l.base) = true := decide_eq_true (by omega)
    have CK := Lib.hid (fun w (hw : Below W.heap.size W w) => check_any l L w (HL.out.below hw) hz)
    have HK := Lib.hid (show chkF l L = 190 from chkF_no _ _ (chkB_far l L (by omega)))
    rw [HK.out] at CK
    go_enter Try.func4, Try.ntmps4
    go_upto_region 1 with (fail)
    have X := Lib.hid (Lb.start W l)
    generalize W.alloc (lgO l) = w0 at *
    go_wp2_with (first | (with_reducible refine wpList_load_by rfl rfl X.out.box.base rfl ?_) | (with_reducible refine wpList_load_by rfl rfl X.out.box.load rfl ?_) | (go_at_call 8; (with_reducible refine (C8.out _).mono ?_); rintro r wa ⟨rfl, kk⟩; have X := Lib.hid (X.out.next kk); clear kk) | (go_at_call 9; (with_reducible refine (CK.out _ X.out.below).mono ?_); rintro r wb ⟨rfl, kk⟩; have X := Lib.hid (X.out.next kk); clear kk) | fail)
    go_ret
    exact ⟨rfl, X.out.below⟩
end Go.Proofs.Ythlghmechldegaa
