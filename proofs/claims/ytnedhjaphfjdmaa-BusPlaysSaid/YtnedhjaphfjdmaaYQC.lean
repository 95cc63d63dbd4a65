/- Store of the reference, of a whole machine. -/
import Derived.Test.YtnedhjaphfjdmaaYQB
import Derived.Test.YtnedhjaphfjdmaaYQA
import Derived.Test.YtnedhjaphfjdmaaYQL
import Derived.Test.YtnedhjaphfjdmaaYQQ
import Derived.Test.YtnedhjaphfjdmaaYRD
namespace Go.Proofs.Ytnedhjaphfjdmaa
open Go.RowKit Go.Deep Go.Joins
theorem MS.not {w : World} {B z g t : Nat} {m : Mc} {p : Pt} {cs : Array Value} (h : MS w B z m p) (k : w.heap[g]? = some (.cells cs t (0, 0))) (ht : 5 ≠ t ∧ 22 ≠ t ∧ 62 ≠ t ∧ 9 ≠ t) (hk : Ow m z g) : g = z := by
  rcases hk with hk | hk | hk | hk | hk
  · exact hk
  · exact absurd hk.symm (not_at h.d k ht.1)
  · exact absurd hk.symm (not_at h.mm k ht.2.1)
  · exact absurd hk.symm (not_at h.o k ht.2.2.1)
  · have hb := h.fr.blk
    revert hk hb
    cases m.b.fp with
    | none => intro hk; cases hk
    | some a =>
      intro hk hb
      simp only [Value.ownBlock, Option.some.injEq] at hk
      obtain ⟨h1, cur, h2⟩ := hb a _ _ rfl
      rw [← hk, k] at h2
      simp only [Option.some.injEq, Obj.cells.injEq] at h2
      exact absurd h2.2.1.symm ht.2.2.2
/-- What an effect of the reference has left, in variables. -/
structure Acting (W w : World) (B z x y : Nat) (m : Mc) (p : Pt) (k : Int) (es : ByteArray) (r : Acts) (q : Option Addr) (c : Nat) (p2 : Option Addr) (c2 : Nat) (q2 : Option Addr) (d2 : Nat) : Prop where
  ms : MS w B z m p
  bx : Box w x (r.b.at q r.F.length c)
  ey : w.heap[y]? = some (.cells (ramC (.slice p2 r.D.length c2) (.slice q2 r.M.length d2) m.E) 39 (0, 0))
  ee : EBox w (x + 1) k es
  f : FT w W.heap.size (.slice q r.F.length c) r.F
  d : OwnD w W.heap.size (.slice p2 r.D.length c2) r.D
  mm : OwnM w W.heap.size (.slice q2 r.M.length d2) r.M
  t : Touch W w (fun k => k = x)
theorem ms_mk {W w : World} {B z : Nat} {m r : Mc} {p : Pt} {q : Option Addr} {c : Nat} {dv mv ov : Value} {F : List ByteArray} {D : List UInt8} {M : List Int} {O : List Rec} (K : MS W B z m p) (hB : B ≤ W.heap.size) (hb : MBox w z { r with b := r.b.at q F.length c, dv := dv, mv := mv, ov := ov }) (f : FT w W.heap.size (.slice q F.length c) F) (d : OwnD w W.heap.size dv D) (mm : OwnM w W.heap.size mv M) (o : w.ownsRow B 62 3 ov O.length (oC O)) (ho : ∀ g, ov.ownBlock = some g → Ow m z g ∨ W.heap.size ≤ g) (t : Touch W w (fun k => k = z)) : MS w B z { r with b := r.b.at q F.length c, dv := dv, mv := mv, ov := ov } ⟨F, D, M, O⟩ ∧ Touch W w (Ow m z) ∧ ∀ k, Ow { r with b := r.b.at q F.length c, dv := dv, mv := mv, ov := ov } z k → Ow m z k ∨ W.heap.size ≤ k := by
  refine ⟨⟨hb, K.big, f.base hB, owns_base d hB, owns_base mm hB, o⟩, t.mono fun k _ hk => .inl hk, fun k hk => ?_⟩
  rcases hk with hk | hk | hk | hk | hk
  · exact .inl (.inl hk)
  · exact .inr (owns_lt d hk.symm).1
  · exact .inr (owns_lt mm hk.symm).1
  · exact ho k hk.symm
  · cases q with
    | none => cases hk
    | some a =>
      obtain rfl : k = a.block := Option.some.inj hk
      exact .inr (f.blk a _ _ rfl).1
/-- The block of a variable turned. -/
theorem MS.over {w : World} {B z x : Nat} {m : Mc} {p : Pt} {cs : Array Value} (h : MS w B z m p) (k : w.heap[x]? = some (.cells cs 35 (0, 0))) (hx : x ≠ z) (cs' : Array Value) : MS (w.setRow x cs') B z m p :=
  h.keep fun g hg => setRow_other w x g cs' fun e => hx (by subst e; exact h.not k (by decide) hg)
theorem Touch.set2 {W w : World} {S : Nat → Prop} {x : Nat} (h : Touch W w S) (hx : S x ∨ W.heap.size ≤ x) (cs : Array Value) : Touch W (w.setRow x cs) S := h.setRow hx cs
set_option maxRecDepth 100000 in
set_option maxHeartbeats 4000000 in
theorem rst_any (z B : Nat) (m : Mc) (p : Pt) (t s v : Int) (W : World) (K : MS W B z m p) (hB : B ≤ W.heap.size) (ok : POk m p) (he : Pc.U32 m.b.pl.e0 ∧ Pc.U32 m.b.pl.e1) (hO : (p.O.length + 1) * 32 ≤ 140737488355328) (ht : 0 ≤ t ∧ t ≤ 18446744073709551615) (hv : 0 ≤ v ∧ v ≤ 18446744073709551615) : Calls Try.prog 31 #[.pointer (some ⟨z, 0, none⟩), .int .u64 t, .int .i64 s, .int .u64 v] W fun e W' =>
    e = .returned (.bool (stM m p t s v).2.2) ∧ Did W W' B z m (stM m p t s v).1 (stM m p t s v).2.1 := by
  have X := Lib.hid (Mem.start W)
  have HK := Lib.hid K
  have HO := Lib.hid ok
  have HB := Lib.hid (And.intro hB hO)
  by_cases h0 : okB s = false
  · unfold stM
    simp only [if_pos h0]
    have hne : s ≠ 1 ∧ s ≠ 2 ∧ s ≠ 4 ∧ s ≠ 8 := by unfold okB at h0; simpa [not_or, and_assoc] using h0
    have e1 : (s != 1) = true := bne_iff_ne.2 hne.1
    have e2 : (s != 2) = true := bne_iff_ne.2 hne.2.1
    have e4 : (s != 4) = true := bne_iff_ne.2 hne.2.2.1
    have e8 : (s != 8) = true := bne_iff_ne.2 hne.2.2.2
    clear K hB ok hO ht hv h0 he hne
    go_enter Try.func31, Try.ntmps31
    go_wp2_with fail
    go_ret
    exact ⟨rfl, Did.none HK.out X.out.below⟩
  · have h0' : okB s = true := by simpa using h0
    have hs : s = 1 ∨ s = 2 ∨ s = 4 ∨ s = 8 := by unfold okB at h0'; simpa [or_assoc] using h0'
    unfold stM
    simp only [if_neg h0]
    have e1 : ((v.toNat : Nat) : Int) = v := by omega
    have e2 : ((s.toNat : Nat) : Int) = s := by omega
    have C1 : RowKit.Hid (∀ w, Calls Try.prog 50 #[.int .u64 v, .int .i64 s] w fun e w' => e = .returned (.string (bytesN v.toNat s.toNat)) ∧ Below w.heap.size w w') := Lib.hid fun w => by
      have k := rbytes_any v.toNat s.toNat w (by omega) (by omega)
      rwa [e1, e2] at k
    have hz : (bytesN v.toNat s.toNat).size ≤ 9223372036854775807 := by rw [bytesN_size _ _ (by omega)]; omega
    have hne : (bytesN v.toNat s.toNat).size ≠ 0 := by rw [bytesN_size _ _ (by omega)]; omega
    generalize bytesN v.toNat s.toNat = x at C1 hz hne ⊢
    have C2 := Lib.hid (fun W' (h : Below W.heap.size W W') => rput_any z 73 B m.dv m.mv m.E t p.D p.M x W' (K.next h).box.ram (K.next h).d (K.next h).mm ht.1 ht.2 hz)
    have HN := Lib.hid hne
    have HS := Lib.hid hs
    have HT := Lib.hid (And.intro he ht)
    by_cases h1 : putB p.D.length t x = true
    · simp only [if_pos h1]
      have HP := Lib.hid h1
      clear K hB ok hO ht hv h0 h0' hs e1 e2 hz hne h1 he
      go_enter Try.func31, Try.ntmps31
      go_upto_region 1 with (fail)
      go_cut [31] (fun v wx => v = .bool false ∧ wx = W)
      case first =>
        rcases HS.out with rfl | rfl | rfl | rfl
        all_goals
          go_wp2_with fail
          go_meet
          exact ⟨rfl, rfl⟩
      case rest =>
        obtain ⟨rfl, hw⟩ := hcut
        subst hw
        go_upto_region 3 with (fail)
        refine dr (fun _ => True) fun wz hzz => ?_
        have X := Lib.hid (X.out.next hzz)
        clear hzz
        have hS := trivial
        refine tk 0 hS ?_
        refine tk 1 hS ?_
        refine tk 2 hS ?_
        refine tk 3 hS ?_
        refine tk 4 hS ?_
        refine tk 5 hS ?_
        refine hc 6 (calls_told (C1.out _)) ?_
        rintro v' wb ⟨rfl, kk⟩
        have X := Lib.hid (X.out.next kk)
        refine ⟨trivial, fun hS => ?_⟩
        clear kk
        simp only [puts]
        refine hc 7 (calls_puts (C2.out _ X.out.below)) ?_
        rintro v' wd ⟨rfl, kk⟩
        rw [HP.out]
        have hat := Lib.hid (Did.put (HK.out.next X.out.below) kk)
        have ht := Lib.hid (touch_of_below X.out.below (Ow m z))
        refine ⟨trivial, fun hS => ?_⟩
        clear kk
        simp only [puts]
        refine wpAnyH_done (by kernel_rfl) ?_ _
        go_wp2_with fail
        go_ret
        exact ⟨rfl, hat.out.before ht.out⟩
    · simp only [if_neg h1]
      have hF : putB p.D.length t x = false := by simpa using h1
      have HP := Lib.hid hF
      have HV := Lib.hid hv
      generalize hR : (if ofB t = true then
    if (Pc.stF m.b.pl t s v).2 = true then ({ m with b := { m.b with pl := (Pc.stF m.b.pl t s v).1 } }, p, true) else (m, p, false)
  else if (stF m.b p.F t s v).2.2.2.2 = true then
    if (stF m.b p.F t s v).2.2.1 = 0 then ({ m with b := (stF m.b p.F t s v).1 }, { p with F := (stF m.b p.F t s v).2.1 }, true)
    else ((acM { m with b := (stF m.b p.F t s v).1 } { p with F := (stF m.b p.F t s v).2.1 } (stF m.b p.F t s v).2.2.1 (stF m.b p.F t s v).2.2.2.1).1, (acM { m with b := (stF m.b p.F t s v).1 } { p with F := (stF m.b p.F t s v).2.1 } (stF m.b p.F t s v).2.2.1 (stF m.b p.F t s v).2.2.2.1).2, true)
  else (m, p, false) : Mc × Pt × Bool) = R
      have HR := Lib.hid hR
      clear K hB ok hO ht hv h0 h0' hs e1 e2 hz hne h1 hF hR he
      go_enter Try.func31, Try.ntmps31
      go_upto_region 1 with (fail)
      go_cut [31] (fun v wx => v = .bool false ∧ wx = W)
      case first =>
        rcases HS.out with rfl | rfl | rfl | rfl
        all_goals
          go_wp2_with fail
          go_meet
          exact ⟨rfl, rfl⟩
      case rest =>
        obtain ⟨rfl, hw⟩ := hcut
        subst hw
        go_upto_region 3 with (fail)
        refine dr (fun _ => True) fun wz hzz => ?_
        have X := Lib.hid (X.out.next hzz)
        clear hzz
        have hS := trivial
        refine tk 0 hS ?_
        refine tk 1 hS ?_
        refine tk 2 hS ?_
        refine tk 3 hS ?_
        refine tk 4 hS ?_
        refine tk 5 hS ?_
        refine hc 6 (calls_told (C1.out _)) ?_
        rintro v' wb ⟨rfl, kk⟩
        have X := Lib.hid (X.out.next kk)
        refine ⟨trivial, fun hS => ?_⟩
        clear kk
        simp only [puts]
        refine hc 7 (calls_puts (C2.out _ X.out.below)) ?_
        rintro v' wd ⟨rfl, kk⟩
        rw [HP.out]
        have hat := (HK.out.next X.out.below).put (put_none HP.out kk)
        have HT2 := Lib.hid ((touch_of_below X.out.below (Ow m z)).trans hat.2)
        have HQ := Lib.hid hat.1
        have HB2 := Lib.hid (Nat.le_trans HB.out.1 HT2.out.size)
        refine ⟨trivial, fun hS => ?_⟩
        clear kk hat X hS
        have X := Lib.hid (Mem.start wd)
        simp only [puts]
        refine wpAnyH_done (by kernel_rfl) ?_ _
        clear C1 C2
        have hR := HR.out
        clear HR
        go_upto_region 5 with (fail)
        go_cut [45] (fun v wx => v = .bool (ofB t) ∧ wx = wd)
        case first =>
          by_cases k1 : 201326592 ≤ t
          · have g1 : decide (201326592 ≤ t) = true := decide_eq_true k1
            by_cases k2 : t < 205520896
            · have g2 : decide (t < 205520896) = true := decide_eq_true k2
              clear hR
              go_wp2_with fail
              go_meet
              exact ⟨by unfold ofB; rw [g1, g2]; rfl, rfl⟩
            · have g2 : decide (t < 205520896) = false := decide_eq_false k2
              clear hR
              go_wp2_with fail
              go_meet
              exact ⟨by unfold ofB; rw [g1, g2]; rfl, rfl⟩
          · have g1 : decide (201326592 ≤ t) = false := decide_eq_false k1
            clear hR
            go_wp2_with fail
            go_meet
            exact ⟨by unfold ofB; rw [g1]; rfl, rfl⟩
        case rest =>
          obtain ⟨rfl, hw⟩ := hcut
          have hw := hw.symm
          subst hw
          by_cases h2 : ofB t = true
          · rw [h2]
            rw [if_pos h2] at hR
            have C3 := Lib.hid (fun W' => Pc.rstore_any m.b.pl t s v HT.out.1.1 HT.out.1.2 (by have := HT.out.2; omega) W')
            generalize Pc.stF m.b.pl t s v = S at C3 hR
            obtain ⟨pq, g⟩ := S
            dsimp only at C3 hR
            clear h2
            have HR := Lib.hid hR
            clear hR
            go_upto_region 7 with (first | (with_reducible refine wpList_load_by rfl rfl (MBox.load_pl HQ.out.box) rfl ?_) | (go_at_call 51; (with_reducible refine (C3.out _).mono ?_); rintro e we ⟨rfl, kk⟩; have X := Lib.hid (X.out.next kk); clear kk) | (with_reducible refine wpList_store_by rfl rfl (pl_store pq X.out.newP.g0 rfl) rfl rfl ?_) | fail)
            have X := Lib.hid (X.out.newP.p0 (cs' := plC pq) rfl)
            generalize we.heap.size = gp at X ⊢
            generalize (we.alloc plZO).setRow gp (plC pq) = wf at X ⊢
            have hR := HR.out
            cases g
            · simp only [Bool.false_eq_true, if_false] at hR
              subst hR
              go_wp2_with fail
              go_ret
              exact ⟨rfl, Did.before (Did.none HQ.out X.out.below) HT2.out⟩
            · simp only [if_true] at hR
              subst hR
              have hS := HQ.out.box.next X.out.below
              go_wp2_with (first | (with_reducible refine wpList_load_by rfl rfl (pl_load X.out.g0) rfl ?_) | (with_reducible refine wpList_store_by rfl rfl (MBox.store_pl hS pq) rfl rfl ?_) | fail)
              go_ret
              exact ⟨rfl, (Did.board (b := { m.b with pl := pq }) HQ.out ⟨rfl, rfl, rfl⟩ ⟨_, X.out.below, rfl⟩).before HT2.out⟩
          · have h3 : ofB t = false := by simpa using h2
            rw [h3]
            rw [if_neg h2] at hR
            have C3 := Lib.hid (fun W' (h : Below wd.heap.size wd W') => rdstore_any m.b p.F t s v W' ((HQ.out.next h).fr.rd) HO.out.fl HV.out)
            have HI := Lib.hid (stF_inv m.b p.F t s v HV.out HO.out.bd)
            generalize stF m.b p.F t s v = S at C3 hR HI
            obtain ⟨b', F', k, es, g⟩ := S
            dsimp only at C3 hR HI
            clear h2 h3
            have HR := Lib.hid hR
            clear hR
            go_upto_region 11 with (first | (with_reducible refine wpList_load_by rfl rfl (MBox.load_b (HQ.out.next X.out.below).box) rfl ?_) | (go_at_call 52; (with_reducible refine (C3.out _ X.out.below).mono ?_); rintro e wb ⟨q, c, rfl, ho', kk⟩; have X := Lib.hid ((X.out.next kk).addrow ho' X.out.below.size (by decide)); clear kk ho') | (with_reducible refine wpList_store_by rfl rfl (store_box _ _ _ (b'.at q F'.length c) X.out.newZE.g1 (bdC_size _)) rfl rfl ?_) | (with_reducible refine wpList_store_by rfl rfl (eff_store (X.out.newZE.p1 (cs' := bdC (b'.at q F'.length c)) rfl).g0 k es) rfl rfl ?_) | fail)
            have X := Lib.hid ((X.out.newZE.p1 (cs' := bdC (b'.at q F'.length c)) rfl).p0 (cs' := #[.int .i64 k, .string es]) rfl)
            generalize wb.heap.size = x at X ⊢
            generalize hwf : ((((wb.alloc zeroO).alloc effO).setRow x (bdC (b'.at q F'.length c))).setRow (x + 1) #[.int .i64 k, .string es]) = wf at X ⊢
            clear hwf C3
            cases g
            · have hR := HR.out
              simp only [Bool.false_eq_true, if_false] at hR
              clear HR HI
              subst hR
              go_wp2_with fail
              go_ret
              exact ⟨rfl, Did.before (Did.none HQ.out X.out.below) HT2.out⟩
            · have hR := HR.out
              simp only [if_true] at hR
              have HR2 := Lib.hid hR
              clear HR hR
              have HS2 := Lib.hid (HQ.out.next X.out.below)
              go_upto_region 14 with (first | (with_reducible refine wpList_load_by rfl rfl (Box.load X.out.b1) rfl ?_) | (with_reducible refine wpList_store_by rfl rfl (MBox.store_b HS2.out.box (b'.at q F'.length c)) rfl rfl ?_) | fail)
              have HF := Lib.hid (Did.frames (b := b') HQ.out HB2.out X.out.below X.out.r0 rfl)
              have HM' := Lib.hid (HQ.out.frames (b := b') HB2.out X.out.below X.out.r0 rfl)
              have hbig : wd.heap.size ≤ x := X.out.big (x, bdC (b'.at q F'.length c), 35) (by simp)
              have ZX : RowKit.Hid (x ≠ z) := Lib.hid (by have h2 := HQ.out.box.lt; omega)
              have zx : x + 1 ≠ z := by have h2 := HQ.out.box.lt; omega
              have HE := Lib.hid (EBox.over X.out.g0 zx (mcC { m with b := b'.at q F'.length c }))
              have B1 := Lib.hid (X.out.b1.over ZX.out (mcC { m with b := b'.at q F'.length c }))
              have HBG := Lib.hid hbig
              generalize hwg : wf.setRow z (mcC { m with b := b'.at q F'.length c }) = wg at HF HM' HE B1 ⊢
              have HI2 := Lib.hid (HI.out rfl)
              clear X HS2 zx hwg HI hbig
              have m_k : wg.cell? ⟨x + 1, 0, none⟩ = some (.int .i64 k) := cell_of_row _ _ 0 _ 80 (0, 0) HE.out
              have hR := HR2.out
              clear HR2
              by_cases hk : k = 0
              · rw [if_pos hk] at hR
                subst hk
                subst hR
                go_wp2_with fail
                go_ret
                exact ⟨rfl, HF.out.before HT2.out⟩
              · rw [if_neg hk] at hR
                have e1 : (k == 0) = false := beq_eq_false_iff_ne.2 hk
                subst hR
                have hok : POk { m with b := b'.at q F'.length c } { p with F := F' } := by
                  obtain ⟨i1, i2, i3⟩ := HI2.out
                  subst i3
                  exact ⟨⟨i1.addr, i1.nicA, i1.sector⟩, (show Pc.U32 b'.pl.c by rw [i2]; exact HO.out.c), HO.out.fz, HO.out.fl, HO.out.dl, HO.out.ml⟩
                go_upto_region 16 with (fail)
                clear m_k e1 hk
                have HM := Lib.hid HM'.out.1
                obtain ⟨pv1, cv1, hdv⟩ := owns_shape HM.out.d
                obtain ⟨qv1, dv1, hmv⟩ := owns_shape HM.out.mm
                have HV := Lib.hid (And.intro (show m.dv = _ from hdv) (And.intro (show m.mv = _ from hmv) trivial))
                have C4 : RowKit.Hid (∀ W', Below wg.heap.size wg W' → Calls Try.prog 53 #[bdV (b'.at q F'.length c), .agg (ramC (.slice pv1 p.D.length cv1) (.slice qv1 p.M.length dv1) m.E), .agg #[.int .i64 k, .string es]] W' (Acted W' m.E (actF b' F' m.E p.D p.M k es))) := Lib.hid fun W' h => by
                  have c := ract_any (b'.at q F'.length c) F' pv1 qv1 cv1 dv1 m.E k es p.D p.M W' ((HM.out.next h).fr.rd) hok.fl hok.fz (HV.out.1 ▸ (HM.out.next h).d.at) (HV.out.2.1 ▸ (HM.out.next h).mm.at) hok.dl hok.ml hok.bd
                  rw [actF_at] at c
                  exact c
                have S0 := Lib.hid (fun w (h : Below wg.heap.size wg w) => (And.intro (HM.out.box.next h) (EBox.next HE.out h) : MBox w z { m with b := b'.at q F'.length c } ∧ EBox w (x + 1) k es))
                have L3 : RowKit.Hid (∀ w, (MBox w z { m with b := b'.at q F'.length c } ∧ EBox w (x + 1) k es) → (Instr.loadAt 35 (.pointer (some ⟨z, 52, none⟩))).run Try.prog w = .ok (bdV (b'.at q F'.length c)) w) := Lib.hid fun w hw => MBox.load_b hw.1
                have L7 : RowKit.Hid (∀ w, (MBox w z { m with b := b'.at q F'.length c } ∧ EBox w (x + 1) k es) → (Instr.loadAt 39 (.pointer (some ⟨z, 73, none⟩))).run Try.prog w = .ok (.agg (ramC (.slice pv1 p.D.length cv1) (.slice qv1 p.M.length dv1) m.E)) w) := Lib.hid fun w hw => by
                  have k := MBox.load_ram hw.1
                  dsimp only at k
                  rw [HV.out.1, HV.out.2.1] at k
                  exact k
                clear hdv hmv hok
                generalize hr : actF b' F' m.E p.D p.M k es = r at C4
                have HACT := Lib.hid hr
                clear hr
                go_cut [14, 15, 16] (fun s4 s5 s6 wx => ∃ y q5 c5 p2 c2 q2 d2, s4 = .pointer (some ⟨y, 0, none⟩) ∧ s5 = .string r.s ∧ s6 = .bool r.ok ∧ RowKit.Hid (Acting wg wx B z x y { m with b := b'.at q F'.length c } { p with F := F' } k es r q5 c5 p2 c2 q2 d2))
                case first =>
                  have Z := Lib.hid (Mem.start wg)
                  refine dr (fun w => MBox w z { m with b := b'.at q F'.length c } ∧ EBox w (x + 1) k es) fun wz hzz => ?_
                  have Z := Lib.hid (Z.out.next hzz)
                  clear hzz
                  have hS := S0.out _ Z.out.below
                  refine tk 0 hS ?_
                  refine tk 1 hS ?_
                  refine tk 2 hS ?_
                  refine tl 3 hS L3.out ?_
                  refine tk 4 hS ?_
                  refine tk 5 hS ?_
                  refine tk 6 hS ?_
                  refine tl 7 hS L7.out ?_
                  refine tl 8 hS (fun w hw => EBox.load hw.2) ?_
                  refine two 9 15 (cc 9 (calls_acted (C4.out _ Z.out.below)) ?_ (al 15 (S0.out _ Z.out.newR.below) ?_ AllReadyH.nil))
                  rintro v' wn ⟨q5, c5, p2, c2, q2, d2, rfl, hf, hd, hm, kk⟩
                  have XB := Z.out.below.size
                  have Z := Lib.hid (((Z.out.next kk).addrow hd XB (by decide)).addrow hm XB (by decide))
                  have Y := Lib.hid (hf.base XB)
                  refine ⟨S0.out _ Z.out.below, fun hS => ?_⟩
                  clear kk hf hd hm XB
                  simp only [puts]
                  refine tk 10 hS ?_
                  refine tk 11 hS ?_
                  refine tk 12 hS ?_
                  refine tk 13 hS ?_
                  refine tk 14 hS ?_
                  refine ho 15 (S0.out _ Z.out.newR.below) ?_
                  have Z := Lib.hid Z.out.newR
                  have Y := Lib.hid (Y.out.below (below1 wn ramZO))
                  generalize wn.heap.size = y at Z ⊢
                  generalize wn.alloc ramZO = wn at Z Y ⊢
                  have hS := S0.out _ Z.out.below
                  rotate_left
                  have Z := Lib.hid Z.out.newR
                  generalize wz.heap.size = y at Z ⊢
                  generalize wz.alloc ramZO = wn at Z ⊢
                  have hS := S0.out _ Z.out.below
                  refine hc 9 (calls_acted (C4.out _ Z.out.below)) ?_
                  rintro v' wn ⟨q5, c5, p2, c2, q2, d2, rfl, hf, hd, hm, kk⟩
                  have XB := Z.out.below.size
                  have Z := Lib.hid (((Z.out.next kk).addrow hd XB (by decide)).addrow hm XB (by decide))
                  have Y := Lib.hid (hf.base XB)
                  refine ⟨S0.out _ Z.out.below, fun hS => ?_⟩
                  clear kk hf hd hm XB
                  simp only [puts]
                  refine tk 10 hS ?_
                  refine tk 11 hS ?_
                  refine tk 12 hS ?_
                  refine tk 13 hS ?_
                  refine tk 14 hS ?_
                  rotate_left
                  all_goals
                    refine hs 16 (store_box _ _ _ (r.b.at q5 r.F.length c5) (B1.out.next Z.out.below) (bdC_size _)) fun wy hw => ?_
                    have hg : wn.heap[y]? = some (.cells ramZC 39 (0, 0)) := Z.out.g0
                    have hyx : y ≠ x := by have h1 : wg.heap.size ≤ y := Z.out.big _ (List.mem_cons_self ..); have h2 := B1.out.lt; omega
                    have hyz : y ≠ z := by have h1 : wg.heap.size ≤ y := Z.out.big _ (List.mem_cons_self ..); have h2 := HM.out.box.lt; omega
                    have hye : y ≠ x + 1 := by have h1 : wg.heap.size ≤ y := Z.out.big _ (List.mem_cons_self ..); have h2 := (Array.getElem?_eq_some_iff.1 HE.out).1; omega
                    have k0 := HM.out.next Z.out.below
                    have b0 := B1.out.next Z.out.below
                    have e0 := EBox.next HE.out Z.out.below
                    have k1 := k0.over b0 ZX.out (bdC (r.b.at q5 r.F.length c5))
                    have e1 : EBox (wn.setRow x (bdC (r.b.at q5 r.F.length c5))) (x + 1) k es := EBox.over e0 (by omega) _
                    have y1 : (wn.setRow x (bdC (r.b.at q5 r.F.length c5))).heap[y]? = some (.cells ramZC 39 (0, 0)) := (setRow_other _ _ _ _ hyx).trans hg
                    have x1 : Box (wn.setRow x (bdC (r.b.at q5 r.F.length c5))) x (r.b.at q5 r.F.length c5) := b0.put rfl
                    have f1 := Y.out.over b0 (by decide) (bdC (r.b.at q5 r.F.length c5))
                    have d1 := owns_over Z.out.r1 b0 (by decide) (bdC (r.b.at q5 r.F.length c5))
                    have m1 := owns_over Z.out.r0 b0 (by decide) (bdC (r.b.at q5 r.F.length c5))
                    have t1 : Touch wg (wn.setRow x (bdC (r.b.at q5 r.F.length c5))) (fun k => k = x) := (touch_of_below Z.out.below (fun k => k = x)).setRow (.inl rfl) _
                    rw [← hw] at k1 e1 y1 x1 f1 d1 m1 t1
                    refine ⟨⟨k1.box, e1⟩, fun hS => ?_⟩
                    refine hs 17 (ram_store y1 rfl) fun wv hv => ?_
                    have k2 : MS wv B z { m with b := b'.at q F'.length c } { p with F := F' } := by rw [hv]; exact k1.keep fun g hgo => setRow_other _ _ _ _ fun e => hyz (k1.not y1 (by decide) (e ▸ hgo))
                    have A9 : RowKit.Hid (Acting wg wv B z x y { m with b := b'.at q F'.length c } { p with F := F' } k es r q5 c5 p2 c2 q2 d2) := Lib.hid ⟨k2, by rw [hv]; exact x1.over (Ne.symm hyx) _, by rw [hv]; exact setRow_heap wy y ramZC _ 39 (0, 0) y1, by rw [hv]; exact EBox.over e1 (Ne.symm hye) _, by rw [hv]; exact f1.over y1 (by decide) _, by rw [hv]; exact owns_over d1 y1 (by decide) _, by rw [hv]; exact owns_over m1 y1 (by decide) _, by rw [hv]; exact t1.setRow (.inr (Z.out.big _ (List.mem_cons_self ..))) _⟩
                    refine ⟨⟨A9.out.ms.box, A9.out.ee⟩, fun hS => ?_⟩
                    clear k0 b0 e0 k1 e1 y1 x1 f1 d1 m1 t1 hw hv k2 hg hyx hyz hye
                    refine tk 18 hS ?_
                    refine tk 19 hS ?_
                    refine wpAnyH_done (by kernel_rfl) ?_ _
                    go_wp2_with fail
                    go_meet
                    exact ⟨y, q5, c5, p2, c2, q2, d2, rfl, rfl, rfl, A9⟩
                case rest =>
                  obtain ⟨y, q5, c5, p2, c2, q2, d2, rfl, rfl, rfl, A⟩ := hcut
                  clear C4 S0 L3 L7 ZX HE B1 HF HI2
                  have zx : x ≠ z := by have h2 := HQ.out.box.lt; have h3 := HBG.out; omega
                  have zy : y ≠ z := by
                    intro e
                    have h1 := A.out.ey
                    rw [e, A.out.ms.box] at h1
                    simp only [Option.some.injEq, Obj.cells.injEq] at h1
                    exact absurd h1.2.1 (by decide)
                  go_upto_region 17 with (fail)
                  go_cut [] (fun wx => RowKit.Hid (MBox wx z { m with b := r.b.at q5 r.F.length c5, dv := .slice p2 r.D.length c2, mv := .slice q2 r.M.length d2 }) ∧ RowKit.Hid (EBox wx (x + 1) k es) ∧ RowKit.Hid (FT wx wd.heap.size (.slice q5 r.F.length c5) r.F) ∧ RowKit.Hid (OwnD wx wd.heap.size (.slice p2 r.D.length c2) r.D) ∧ RowKit.Hid (OwnM wx wd.heap.size (.slice q2 r.M.length d2) r.M) ∧ RowKit.Hid (wx.ownsRow B 62 3 m.ov p.O.length (oC p.O)) ∧ RowKit.Hid (Touch wd wx (Ow m z)))
                  case first =>
                    have wgd : wd.heap.size ≤ wg.heap.size := HM'.out.2.1.size
                    have ga := A.out
                    have zee : x + 1 ≠ z := by have h2 := HQ.out.box.lt; have h3 := HBG.out; omega
                    refine dr (fun w => Box w x (r.b.at q5 r.F.length c5) ∧ w.heap[y]? = some (.cells (ramC (.slice p2 r.D.length c2) (.slice q2 r.M.length d2) m.E) 39 (0, 0))) fun wz hzz => ?_
                    have hS : Box wz x (r.b.at q5 r.F.length c5) ∧ wz.heap[y]? = some (.cells (ramC (.slice p2 r.D.length c2) (.slice q2 r.M.length d2) m.E) 39 (0, 0)) := ⟨ga.bx.next hzz, (hzz.block _ (Array.getElem?_eq_some_iff.1 ga.ey).1).trans ga.ey⟩
                    have K0 := ga.ms.next hzz
                    refine tk 0 hS ?_
                    refine tk 1 hS ?_
                    refine tl 2 hS (fun w hw => Box.load hw.1) ?_
                    refine tl 3 hS (fun w hw => ram_load hw.2) ?_
                    refine tk 4 hS ?_
                    refine tk 5 hS ?_
                    refine hs 6 (MBox.store_b K0.box (r.b.at q5 r.F.length c5)) fun wy hw => ?_
                    have hS2 : Box wy x (r.b.at q5 r.F.length c5) ∧ wy.heap[y]? = some (.cells (ramC (.slice p2 r.D.length c2) (.slice q2 r.M.length d2) m.E) 39 (0, 0)) := by subst hw; exact ⟨hS.1.over zx _, (setRow_other _ _ _ _ zy).trans hS.2⟩
                    have K2 := K0.box.put hw
                    refine ⟨hS2, fun hS => ?_⟩
                    refine tk 7 hS ?_
                    refine tk 8 hS ?_
                    refine hs 9 (MBox.store_ram K2 p2 q2 r.D.length c2 r.M.length d2 m.E) fun wv hv => ?_
                    have hS3 : Box wv x (r.b.at q5 r.F.length c5) ∧ wv.heap[y]? = some (.cells (ramC (.slice p2 r.D.length c2) (.slice q2 r.M.length d2) m.E) 39 (0, 0)) := by subst hv; exact ⟨hS2.1.over zx _, (setRow_other _ _ _ _ zy).trans hS2.2⟩
                    have K3 := K2.put hv
                    refine ⟨hS3, fun hS => wpAnyH_done (by kernel_rfl) ?_ _⟩
                    go_wp2_with fail
                    go_meet
                    subst hw
                    have ho := K0.o
                    subst hv
                    refine ⟨Lib.hid K3, Lib.hid ?_, Lib.hid ?_, Lib.hid ?_, Lib.hid ?_, Lib.hid ?_, Lib.hid ?_⟩
                    · exact EBox.over (EBox.over (EBox.next ga.ee hzz) zee _) zee _
                    · exact (((ga.f.below hzz).base wgd).over K0.box (by decide) _).over K2 (by decide) _
                    · exact owns_over (owns_over (owns_base (owns_below ga.d hzz) wgd) K0.box (by decide) _) K2 (by decide) _
                    · exact owns_over (owns_over (owns_base (owns_below ga.mm hzz) wgd) K0.box (by decide) _) K2 (by decide) _
                    · exact owns_over (owns_over ho K0.box (by decide) _) K2 (by decide) _
                    · exact ((((HM'.out.2.1.trans' ga.t (fun a _ e => absurd e (by have := HBG.out; omega))).trans (touch_of_below hzz (Ow m z)))).setRow (.inl (.inl rfl)) _).setRow (.inl (.inl rfl)) _
                  case rest =>
                    obtain ⟨K2, E2, F2, D2, M2, O2, T2⟩ := hcut
                    clear A HM HM' zx zy
                    have hms : MS wc B z { ({ m with b := r.b } : Mc) with b := r.b.at q5 r.F.length c5, dv := .slice p2 r.D.length c2, mv := .slice q2 r.M.length d2, ov := m.ov } ⟨r.F, r.D, r.M, p.O⟩ := ⟨K2.out, HQ.out.big, F2.out.base HB2.out, owns_base D2.out HB2.out, owns_base M2.out HB2.out, O2.out⟩
                    have how : ∀ a, Ow { ({ m with b := r.b } : Mc) with b := r.b.at q5 r.F.length c5, dv := .slice p2 r.D.length c2, mv := .slice q2 r.M.length d2, ov := m.ov } z a → Ow m z a ∨ wd.heap.size ≤ a := fun a ha => by
                      rcases ha with hk | hk | hk | hk | hk
                      · exact .inl (.inl hk)
                      · exact .inr (owns_lt D2.out hk.symm).1
                      · exact .inr (owns_lt M2.out hk.symm).1
                      · exact .inl (.inr (.inr (.inr (.inl hk))))
                      · have hf := F2.out.blk
                        cases q5 with
                        | none => cases hk
                        | some a5 =>
                          obtain rfl : a = a5.block := Option.some.inj hk
                          exact .inr (hf a5 _ _ rfl).1
                    have HMS := Lib.hid hms
                    have HOW := Lib.hid how
                    have hs2 : wd.heap.size ≤ wc.heap.size := T2.out.size
                    have hacm : acM { m with b := b' } { p with F := F' } k es = (if r.ok = true then (({ m with b := r.b, nxt := IntKind.u64.wrap (m.nxt + 1) }, ⟨r.F, r.D, r.M, p.O ++ [(m.nxt, if k = 1 then 1 else 2, r.s)]⟩) : Mc × Pt) else ({ m with b := r.b }, ⟨r.F, r.D, r.M, p.O⟩)) := by
                      unfold acM
                      have e := HACT.out
                      dsimp only
                      rw [e]
                    have HAC := Lib.hid hacm
                    have HS2 := Lib.hid hs2
                    clear hms how hacm hs2 HACT
                    rcases Bool.eq_false_or_eq_true r.ok with hok | hok
                    · have HK1 := Lib.hid hok
                      obtain ⟨d, HD⟩ : ∃ d : Int, RowKit.Hid ((if k = 1 then 1 else 2) = d) := ⟨_, Lib.hid rfl⟩
                      have C5 := Lib.hid (emit_any z B _ _ d r.s wc HMS.out (Nat.le_trans HB2.out HS2.out) (show (p.O.length + 1) * 32 ≤ 140737488355328 from HB.out.2))
                      have m_k : wc.cell? ⟨x + 1, 0, none⟩ = some (.int .i64 k) := cell_of_row _ _ 0 _ 80 (0, 0) E2.out
                      rw [hok]
                      clear hok
                      have HFIN : RowKit.Hid (∀ w', Did wc w' B z { ({ m with b := r.b } : Mc) with b := r.b.at q5 r.F.length c5, dv := .slice p2 r.D.length c2, mv := .slice q2 r.M.length d2, ov := m.ov } { ({ m with b := r.b } : Mc) with b := r.b.at q5 r.F.length c5, dv := .slice p2 r.D.length c2, mv := .slice q2 r.M.length d2, ov := m.ov, nxt := IntKind.u64.wrap (m.nxt + 1) } ⟨r.F, r.D, r.M, p.O ++ [(m.nxt, d, r.s)]⟩ → Did wd w' B z m (acM { m with b := b' } { p with F := F' } k es).1 (acM { m with b := b' } { p with F := F' } k es).2) := Lib.hid fun w' h => by
                        rw [HAC.out, if_pos HK1.out, HD.out]
                        exact Did.more (p1 := ⟨r.F, r.D, r.M, p.O⟩) T2.out HOW.out h fun _ _ _ _ _ _ => rfl
                      rcases Classical.em (k = 1) with hk | hk
                      · subst hk
                        obtain rfl : (1 : Int) = d := HD.out
                        go_wp2_with (first | (go_at_call 54; (with_reducible refine C5.out.mono ?_); rintro e wh ⟨rfl, kk⟩; have HC := Lib.hid kk; clear kk) | fail)
                        go_ret
                        exact ⟨rfl, (HFIN.out _ HC.out).before HT2.out⟩
                      · have e1 : (k == 1) = false := beq_eq_false_iff_ne.2 hk
                        obtain rfl : (2 : Int) = d := by have h := HD.out; rwa [if_neg hk] at h
                        clear hk
                        go_wp2_with (first | (go_at_call 54; (with_reducible refine C5.out.mono ?_); rintro e wh ⟨rfl, kk⟩; have HC := Lib.hid kk; clear kk) | fail)
                        go_ret
                        exact ⟨rfl, (HFIN.out _ HC.out).before HT2.out⟩
                    · have HK1 := Lib.hid hok
                      rw [hok]
                      clear hok
                      go_wp2_with fail
                      go_ret
                      refine ⟨rfl, Did.before ?_ HT2.out⟩
                      show Did wd wc B z m (acM { m with b := b' } { p with F := F' } k es).1 (acM { m with b := b' } { p with F := F' } k es).2
                      rw [HAC.out, if_neg (by rw [HK1.out]; decide)]
                      exact ⟨q5, c5, _, _, _, HMS.out, T2.out, HOW.out⟩

end Go.Proofs.Ytnedhjaphfjdmaa
