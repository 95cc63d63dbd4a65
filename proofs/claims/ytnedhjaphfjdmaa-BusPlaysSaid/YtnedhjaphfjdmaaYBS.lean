/- The state of a machine; Load of the bus. -/
import Derived.Test.YtnedhjaphfjdmaaYBL
import Derived.Test.YtnedhjaphfjdmaaYRY
import Derived.Test.YtnedhjaphfjdmaaYDL
import Derived.Test.YtnedhjaphfjdmaaYDAB
namespace Go.Proofs.Ytnedhjaphfjdmaa
open Go.RowKit Go.Deep Go.Joins
/-- The parts of a machine that lie elsewhere: frames, bytes, marks, records. -/
structure Pt where
  F : List ByteArray
  D : List UInt8
  M : List Int
  O : List Rec
/-- The blocks that are a machine's own: its own one, and those that its parts lie in. -/
def Ow (m : Mc) (z k : Nat) : Prop := k = z ∨ some k = m.dv.ownBlock ∨ some k = m.mv.ownBlock ∨ some k = m.ov.ownBlock ∨ some k = (Value.slice m.b.fp m.b.fn m.b.fc).ownBlock
/-- A machine in memory of one's own, from block B on. -/
structure MS (w : World) (B z : Nat) (m : Mc) (p : Pt) : Prop where
  box : MBox w z m
  big : B ≤ z
  fr : FT w B (.slice m.b.fp m.b.fn m.b.fc) p.F
  d : OwnD w B m.dv p.D
  mm : OwnM w B m.mv p.M
  o : w.ownsRow B 62 3 m.ov p.O.length (oC p.O)
theorem MS.one {w : World} {B z : Nat} {m : Mc} {p : Pt} (h : MS w B z m p) : Mc1 m := ⟨one_t h.d, one_t h.mm, one_t h.o⟩
theorem MS.len {w : World} {B z : Nat} {m : Mc} {p : Pt} (h : MS w B z m p) : m.b.fn = p.F.length := h.fr.rd.len
theorem MS.lt {w : World} {B z : Nat} {m : Mc} {p : Pt} (h : MS w B z m p) {k : Nat} (hk : Ow m z k) : B ≤ k ∧ k < w.heap.size := by
  rcases hk with rfl | hk | hk | hk | hk
  · exact ⟨h.big, h.box.lt⟩
  · exact owns_lt h.d hk.symm
  · exact owns_lt h.mm hk.symm
  · exact owns_lt h.o hk.symm
  · have hb := h.fr.blk
    revert hk hb
    cases m.b.fp with
    | none => intro hk; cases hk
    | some a =>
      intro hk hb
      simp only [Value.ownBlock, Option.some.injEq] at hk
      obtain ⟨h1, cur, h2⟩ := hb a _ _ rfl
      rw [hk]
      exact ⟨h1, (Array.getElem?_eq_some_iff.1 h2).1⟩
theorem FT.keep' {w w' : World} {B : Nat} {v : Value} {F : List ByteArray} (h : FT w B v F) (hb : ∀ g, v.ownBlock = some g → w'.heap[g]? = w.heap[g]?) : FT w' B v F :=
  ⟨Reads.keep h.rd fun p n c hv => hb _ (by rw [hv]; rfl), fun p n c hv => by obtain ⟨h1, cur, h2⟩ := h.blk p n c hv; exact ⟨h1, cur, (hb _ (by rw [hv]; rfl)).trans h2⟩⟩
theorem MS.keep {w w' : World} {B z : Nat} {m : Mc} {p : Pt} (h : MS w B z m p) (hb : ∀ k, Ow m z k → w'.heap[k]? = w.heap[k]?) : MS w' B z m p :=
  ⟨(hb z (.inl rfl)).trans h.box, h.big, h.fr.keep' fun g hg => hb g (.inr (.inr (.inr (.inr hg.symm)))), owns_same h.d fun g hg => hb g (.inr (.inl hg.symm)), owns_same h.mm fun g hg => hb g (.inr (.inr (.inl hg.symm))), owns_same h.o fun g hg => hb g (.inr (.inr (.inr (.inl hg.symm))))⟩
theorem MS.next {w w' : World} {B z : Nat} {m : Mc} {p : Pt} (h : MS w B z m p) (hb : Below w.heap.size w w') : MS w' B z m p := h.keep fun k hk => hb.block k (h.lt hk).2
/-- A call that works on a machine: the machine behind it, and that nothing else has turned. -/
def Did (W W' : World) (B z : Nat) (m r : Mc) (p : Pt) : Prop :=
  ∃ q c dv mv ov, MS W' B z { r with b := r.b.at q p.F.length c, dv := dv, mv := mv, ov := ov } p ∧ Touch W W' (Ow m z) ∧ ∀ k, Ow { r with b := r.b.at q p.F.length c, dv := dv, mv := mv, ov := ov } z k → Ow m z k ∨ W.heap.size ≤ k
theorem Chg.trans {W w W' : World} {z : Nat} {m : Mc} (h : Chg w W' z m) (hb : Below W.heap.size W w) : Chg W W' z m := by
  obtain ⟨wx, h1, h2⟩ := h
  exact ⟨wx, below_then hb h1, h2⟩
theorem Did.none {W W' : World} {B z : Nat} {m : Mc} {p : Pt} (K : MS W B z m p) (hb : Below W.heap.size W W') : Did W W' B z m m p := by
  have e : m.b.at m.b.fp p.F.length m.b.fc = m.b := by rw [← K.len]; rfl
  refine ⟨m.b.fp, m.b.fc, m.dv, m.mv, m.ov, ?_, touch_of_below hb _, ?_⟩
  · rw [e]; exact K.next hb
  · rw [e]; exact fun k hk => .inl hk
/-- The machine's board turned, its frames are where they were. -/
theorem Did.board {W W' : World} {B z : Nat} {m : Mc} {p : Pt} {b : Bd} (K : MS W B z m p) (hf : b.fp = m.b.fp ∧ b.fn = m.b.fn ∧ b.fc = m.b.fc) (h : Chg W W' z { m with b := b }) : Did W W' B z m { m with b := b } p := by
  obtain ⟨h1, h2, h3⟩ := hf
  have e : b.at b.fp p.F.length b.fc = b := by rw [← K.len, ← h2]; rfl
  obtain ⟨wx, hb, hw⟩ := h
  have k := K.next hb
  refine ⟨b.fp, b.fc, m.dv, m.mv, m.ov, ?_, (touch_of_below hb (Ow m z)).trans (by subst hw; exact (Touch.refl wx (Ow m z)).setRow (.inl (.inl rfl)) _), ?_⟩
  · show MS W' B z { m with b := b.at b.fp p.F.length b.fc } p
    rw [e]
    have ne : ∀ g, g ≠ z → W'.heap[g]? = wx.heap[g]? := fun g hg => by subst hw; exact setRow_other wx z g _ hg
    refine ⟨k.box.put hw, k.big, ?_, owns_same k.d fun g hg => ne g fun x => not_at k.d k.box (by decide) (by rw [hg, x]), owns_same k.mm fun g hg => ne g fun x => not_at k.mm k.box (by decide) (by rw [hg, x]), owns_same k.o fun g hg => ne g fun x => not_at k.o k.box (by decide) (by rw [hg, x])⟩
    show FT W' B (.slice b.fp b.fn b.fc) p.F
    rw [h1, h2, h3]
    refine k.fr.keep fun g cur _ hg => ne g fun x => ?_
    subst x
    have := hg.symm.trans k.box
    simp at this
  · show ∀ k, Ow { m with b := b.at b.fp p.F.length b.fc } z k → _
    rw [e]
    intro k hk
    left
    unfold Ow at hk ⊢
    rw [← h1, ← h2, ← h3]
    exact hk
/-- The machine's board turned, and its frames are new. -/
theorem Did.frames {W W' wx : World} {B z : Nat} {m : Mc} {p : Pt} {b : Bd} {F : List ByteArray} {q : Option Addr} {c : Nat} (K : MS W B z m p) (hB : B ≤ W.heap.size) (hb : Below W.heap.size W wx) (ho : OwnF wx W.heap.size (.slice q F.length c) F) (hw : W' = wx.setRow z (mcC { m with b := b.at q F.length c })) : Did W W' B z m { m with b := b } { p with F := F } := by
  have k := K.next hb
  refine ⟨q, c, m.dv, m.mv, m.ov, ?_, (touch_of_below hb (Ow m z)).trans (by subst hw; exact (Touch.refl wx (Ow m z)).setRow (.inl (.inl rfl)) _), ?_⟩
  · have ne : ∀ g, g ≠ z → W'.heap[g]? = wx.heap[g]? := fun g hg => by subst hw; exact setRow_other wx z g _ hg
    refine ⟨k.box.put hw, k.big, ?_, owns_same k.d fun g hg => ne g fun x => not_at k.d k.box (by decide) (by rw [hg, x]), owns_same k.mm fun g hg => ne g fun x => not_at k.mm k.box (by decide) (by rw [hg, x]), owns_same k.o fun g hg => ne g fun x => not_at k.o k.box (by decide) (by rw [hg, x])⟩
    refine ((FT.of ho).base hB).keep fun g cur _ hg => ne g fun x => ?_
    subst x
    have := hg.symm.trans k.box
    simp at this
  · intro k hk
    rcases hk with hk | hk | hk | hk | hk
    · exact .inl (.inl hk)
    · exact .inl (.inr (.inl hk))
    · exact .inl (.inr (.inr (.inl hk)))
    · exact .inl (.inr (.inr (.inr (.inl hk))))
    · exact .inr (owns_lt ho hk.symm).1
/-- What may be of a machine's numbers and lengths. -/
structure POk (m : Mc) (p : Pt) : Prop where
  bd : BdOk m.b
  c : Pc.U32 m.b.pl.c
  fz : ∀ f ∈ p.F, f.size ≤ 9223372036854775807
  fl : p.F.length ≤ 8796093022208
  dl : p.D.length ≤ 140737488351232
  ml : p.M.length ≤ 17592186043904
/-- What a read through the bus tells, and the machine behind it. -/
def ldM (m : Mc) (p : Pt) (t s : Int) : Mc × Pt × Int × Bool :=
  if stE p.D.length t s = 0 then (m, p, ldV p.D t s, true)
  else if ofB t = true then
    if (Pc.ldF m.b.pl (sourcesV m.b p.F) t s).2.2 = true then ({ m with b := { m.b with pl := (Pc.ldF m.b.pl (sourcesV m.b p.F) t s).1 } }, p, (Pc.ldF m.b.pl (sourcesV m.b p.F) t s).2.1, true) else (m, p, 0, false)
  else if (ldF m.b p.F t s m.cnt).2.2.2 = true then ({ m with b := (ldF m.b p.F t s m.cnt).1 }, { p with F := (ldF m.b p.F t s m.cnt).2.1 }, (ldF m.b p.F t s m.cnt).2.2.1, true) else (m, p, 0, false)
theorem ite_P {α : Type} (P : α → Prop) (c : Prop) [Decidable c] (a b : α) (ha : P a) (hb : P b) : P (if c then a else b) := by split <;> assumption
theorem ldF_or (b : Bd) (F : List ByteArray) (t s n : Int) : (ldF b F t s n).2.2.2 = true ∨ ldF b F t s n = (bdZ, [], 0, false) := by
  show (fun R : Bd × List ByteArray × Int × Bool => R.2.2.2 = true ∨ R = (bdZ, [], 0, false)) (ldF b F t s n)
  unfold ldF
  repeat refine ite_P (fun R : Bd × List ByteArray × Int × Bool => R.2.2.2 = true ∨ R = (bdZ, [], 0, false)) _ _ _ (Or.inl rfl) ?_
  exact Or.inr rfl
theorem calls_tld {f : FuncId} {args : Array Value} {w : World} {b : Bd} {F : List ByteArray} {n : Int} {g : Bool} (h : Calls Try.prog f args w (Told w b F (fun v => .tuple #[v, .int .u64 n, .bool g]))) : Calls Try.prog f args w fun e w' => ∃ u, e = .returned u ∧ (∃ p c, u = .tuple #[bdV (b.at p F.length c), .int .u64 n, .bool g] ∧ OwnF w' w.heap.size (.slice p F.length c) F ∧ Below w.heap.size w w') :=
  h.mono fun _ _ ⟨p, c, he, ho, hb⟩ => ⟨_, he, p, c, rfl, ho, hb⟩
theorem dld_none (b : Bd) (F : List ByteArray) (t s n : Int) (hf : (ldF b F t s n).2.2.2 = false) : (ldF b F t s n).2.2.1 = 0 := by
  rcases ldF_or b F t s n with h | h
  · rw [h] at hf; cases hf
  · rw [h]
set_option maxRecDepth 100000 in
set_option maxHeartbeats 2000000 in
theorem ld_any (z B : Nat) (m : Mc) (p : Pt) (t s : Int) (W : World) (K : MS W B z m p) (hB : B ≤ W.heap.size) (ok : POk m p) (ht0 : 0 ≤ t) (ht1 : t ≤ 18446744073709551615) : Calls Try.prog 17 #[.pointer (some ⟨z, 0, none⟩), .int .u64 t, .int .i64 s] W fun e W' =>
    e = .returned (.tuple #[.int .u64 (ldM m p t s).2.2.1, .bool (ldM m p t s).2.2.2]) ∧ Did W W' B z m (ldM m p t s).1 (ldM m p t s).2.1 := by
  have C0 := Lib.hid (fun W' (h : Below W.heap.size W W') => load_all m.dv m.mv (.int .u64 m.E) p.D t s W' ((K.next h).d.at) ht0 ht1)
  have X := Lib.hid (Mem.start W)
  have HK := Lib.hid K
  have HO := Lib.hid ok
  have HB := Lib.hid hB
  unfold ldM
  by_cases h0 : stE p.D.length t s = 0
  · simp only [if_pos h0]
    rw [h0] at C0
    generalize ldV p.D t s = n at C0 ⊢
    clear ht0 ht1 ok K hB h0
    go_enter Try.func17, Try.ntmps17
    go_wp2_with (first | (with_reducible refine wpList_load_by rfl rfl (MBox.load_ram HK.out.box) rfl ?_) | (go_at_call 40; (with_reducible refine (C0.out _ X.out.below).mono ?_); rintro e wb ⟨rfl, kk⟩; have X := Lib.hid (X.out.next kk); clear kk) | fail)
    go_ret2
    exact ⟨rfl, Did.none HK.out X.out.below⟩
  · simp only [if_neg h0]
    have h1 : (stE p.D.length t s == 0) = false := beq_eq_false_iff_ne.2 h0
    generalize stE p.D.length t s = e0 at C0 h1
    generalize ldV p.D t s = n0 at C0
    have C1 := Lib.hid (of_any t)
    by_cases h2 : ofB t = true
    · simp only [if_pos h2]
      rw [h2] at C1
      have C2 := Lib.hid (fun W' (h : Below W.heap.size W W') => lp_any z m p.F t s W' (K.next h).box K.len)
      have HN := Lib.hid (pld_none m.b.pl (sourcesV m.b p.F) t s)
      generalize Pc.ldF m.b.pl (sourcesV m.b p.F) t s = R at C2 HN ⊢
      obtain ⟨q, n, g⟩ := R
      dsimp only at C2 HN ⊢
      clear ht0 ht1 ok K hB h0 h2
      cases g
      · obtain rfl : n = 0 := HN.out rfl
        clear HN
        simp only [Bool.false_eq_true, if_false] at C2 ⊢
        go_enter Try.func17, Try.ntmps17
        go_wp2_with (first | (with_reducible refine wpList_load_by rfl rfl (MBox.load_ram HK.out.box) rfl ?_) | (go_at_call 40; (with_reducible refine (C0.out _ X.out.below).mono ?_); rintro e wb ⟨rfl, kk⟩; have X := Lib.hid (X.out.next kk); clear kk) | (go_at_call 35; (with_reducible refine (C1.out _).mono ?_); rintro e wc ⟨rfl, rfl⟩) | (go_at_call 41; (with_reducible refine (C2.out _ X.out.below).mono ?_); rintro e wd ⟨rfl, kk⟩; have HC := Lib.hid (kk.trans X.out.below); clear kk) | fail)
        go_ret2
        exact ⟨rfl, Did.board (b := m.b) HK.out ⟨rfl, rfl, rfl⟩ HC.out⟩
      · clear HN
        simp only [if_true] at C2 ⊢
        go_enter Try.func17, Try.ntmps17
        go_wp2_with (first | (with_reducible refine wpList_load_by rfl rfl (MBox.load_ram HK.out.box) rfl ?_) | (go_at_call 40; (with_reducible refine (C0.out _ X.out.below).mono ?_); rintro e wb ⟨rfl, kk⟩; have X := Lib.hid (X.out.next kk); clear kk) | (go_at_call 35; (with_reducible refine (C1.out _).mono ?_); rintro e wc ⟨rfl, rfl⟩) | (go_at_call 41; (with_reducible refine (C2.out _ X.out.below).mono ?_); rintro e wd ⟨rfl, kk⟩; have HC := Lib.hid (kk.trans X.out.below); clear kk) | fail)
        go_ret2
        exact ⟨rfl, Did.board (b := { m.b with pl := q }) HK.out ⟨rfl, rfl, rfl⟩ HC.out⟩
    · simp only [if_neg h2]
      have h3 : ofB t = false := by simpa using h2
      rw [h3] at C1
      have C2 := Lib.hid (fun W' (h : Below W.heap.size W W') => dload_any m.b p.F t s m.cnt W' ((K.next h).fr.rd) ok.fl)
      have HN := Lib.hid (dld_none m.b p.F t s m.cnt)
      generalize ldF m.b p.F t s m.cnt = R at C2 HN ⊢
      obtain ⟨b', F', n, g⟩ := R
      dsimp only at C2 HN ⊢
      clear ht0 ht1 ok K hB h0 h2 h3
      have HX : RowKit.Hid (g = true ∨ (g = false ∧ n = 0)) := Lib.hid (by cases g; exact .inr ⟨rfl, HN.out rfl⟩; exact .inl rfl)
      clear HN
      generalize hR : (if g = true then (({ m with b := b' }, { p with F := F' }, n, true) : Mc × Pt × Int × Bool) else (m, p, 0, false)) = R
      have HR := Lib.hid hR
      clear hR
      go_enter Try.func17, Try.ntmps17
      go_upto_region 8 with (first | (with_reducible refine wpList_load_by rfl rfl (MBox.load_ram HK.out.box) rfl ?_) | (go_at_call 40; (with_reducible refine (C0.out _ X.out.below).mono ?_); rintro e wb ⟨rfl, kk⟩; have X := Lib.hid (X.out.next kk); clear kk) | (go_at_call 35; (with_reducible refine (C1.out _).mono ?_); rintro e wc ⟨rfl, rfl⟩) | fail)
      go_cut [8, 10, 11] (fun s8 s10 s11 wx => ∃ x q c, s8 = .int .u64 n ∧ s10 = .pointer (some ⟨x, 0, none⟩) ∧ s11 = .bool g ∧ RowKit.Hid (Mem W wx [(x, bdC (b'.at q F'.length c), 35)] [(9, .slice q F'.length c, F'.length, sC F')]))
      case first =>
        refine dr (fun w => MBox w z m) fun wz hzz => ?_
        have X := Lib.hid (X.out.next hzz)
        clear hzz
        have hS := HK.out.box.next X.out.below
        refine tk 0 hS ?_
        refine tk 1 hS ?_
        refine tk 2 hS ?_
        refine tl 3 hS (fun w hw => MBox.load_b hw) ?_
        refine tk 4 hS ?_
        refine tk 5 hS ?_
        refine tk 6 hS ?_
        refine tk 7 hS ?_
        refine tk 8 hS ?_
        refine tl 9 hS (fun w hw => MBox.load_cnt hw) ?_
        refine two 10 15 (cc 10 (calls_tld (C2.out _ X.out.below)) ?_ ?_)
        · rintro v' wb ⟨q, c, rfl, ho', kk⟩
          have X := Lib.hid ((X.out.next kk).addrow ho' X.out.below.size (by decide))
          refine ⟨HK.out.box.next X.out.below, fun hS => ?_⟩
          clear kk ho'
          simp only [puts]
          refine tk 11 hS ?_
          refine tk 12 hS ?_
          refine tk 13 hS ?_
          refine tk 14 hS ?_
          refine ho 15 (HK.out.box.next X.out.newZ.below) ?_
          have X := Lib.hid X.out.newZ
          generalize wb.heap.size = x at X ⊢
          generalize wb.alloc zeroO = wn at X ⊢
          have hS := HK.out.box.next X.out.below
          refine hs 16 (store_box _ _ _ _ X.out.b0 (bdC_size _)) fun wy hw => ?_
          have X := Lib.hid (X.out.p0 hw)
          refine ⟨HK.out.box.next X.out.below, fun hS => ?_⟩
          clear hw
          refine tk 17 hS ?_
          refine tk 18 hS ?_
          refine wpAnyH_done (by kernel_rfl) ?_ _
          go_wp2_with fail
          go_meet
          exact ⟨_, q, c, rfl, rfl, rfl, X⟩
        · refine al 15 (HK.out.box.next X.out.newZ.below) ?_ AllReadyH.nil
          have X := Lib.hid X.out.newZ
          generalize wz.heap.size = x at X ⊢
          generalize wz.alloc zeroO = wn at X ⊢
          have hS := HK.out.box.next X.out.below
          refine hc 10 (calls_tld (C2.out _ X.out.below)) ?_
          rintro v' wb ⟨q, c, rfl, ho', kk⟩
          have X := Lib.hid ((X.out.next kk).addrow ho' X.out.below.size (by decide))
          refine ⟨HK.out.box.next X.out.below, fun hS => ?_⟩
          clear kk ho'
          simp only [puts]
          refine tk 11 hS ?_
          refine tk 12 hS ?_
          refine tk 13 hS ?_
          refine tk 14 hS ?_
          refine hs 16 (store_box _ _ _ _ X.out.b0 (bdC_size _)) fun wy hw => ?_
          have X := Lib.hid (X.out.p0 hw)
          refine ⟨HK.out.box.next X.out.below, fun hS => ?_⟩
          clear hw
          refine tk 17 hS ?_
          refine tk 18 hS ?_
          refine wpAnyH_done (by kernel_rfl) ?_ _
          go_wp2_with fail
          go_meet
          exact ⟨_, q, c, rfl, rfl, rfl, X⟩
      case rest =>
        obtain ⟨x, q, c, rfl, rfl, rfl, X⟩ := hcut
        have hR := HR.out
        rcases HX.out with rfl | ⟨rfl, rfl⟩
        · simp only [if_true] at hR
          subst hR
          have hS := HK.out.box.next X.out.below
          go_wp2_with (first | (with_reducible refine wpList_load_by rfl rfl (Box.load X.out.b0) rfl ?_) | (with_reducible refine wpList_store_by rfl rfl (MBox.store_b hS (b'.at q F'.length c)) rfl rfl ?_) | fail)
          go_ret2
          exact ⟨rfl, Did.frames HK.out HB.out X.out.below X.out.r0 rfl⟩
        · simp only [Bool.false_eq_true, if_false] at hR
          subst hR
          go_wp2_with fail
          go_ret2
          exact ⟨rfl, Did.none HK.out X.out.below⟩

end Go.Proofs.Ytnedhjaphfjdmaa
