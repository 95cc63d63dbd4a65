/- Store of the bus: plain. -/
import Derived.Test.YtnedhjaphfjdmaaYBA
import Derived.Test.YtnedhjaphfjdmaaYDN
namespace Go.Proofs.Ytnedhjaphfjdmaa
open Go.RowKit Go.Deep Go.Joins
theorem Touch.trans' {a b c : World} {S S' : Nat → Prop} (h : Touch a b S) (k : Touch b c S') (hS : ∀ x, x < a.heap.size → S' x → S x) : Touch a c S :=
  ⟨k.os.trans h.os, k.tape.trans h.tape, k.output.trans h.output, Nat.le_trans h.size k.size, fun x hx hn => (k.block x (Nat.lt_of_lt_of_le hx h.size) (fun e => hn (hS x hx e))).trans (h.block x hx hn)⟩
/-- Bytes put into a machine's memory. -/
theorem MS.put {W W' : World} {B z : Nat} {m : Mc} {p : Pt} {D : List UInt8} {M : List Int} (K : MS W B z m p) (h : PutAt W W' B z 73 m.dv m.mv m.E D M) : MS W' B z m { p with D := D, M := M } ∧ Touch W W' (Ow m z) := by
  have nb : ∀ (g : Nat) (t : TypeId) (cs : Array Value), W.heap[g]? = some (.cells cs t (0, 0)) → t ≠ 5 → t ≠ 22 → W'.heap[g]? = W.heap[g]? := fun g t cs hg h5 h22 =>
    h.t.block g (Array.getElem?_eq_some_iff.1 hg).1 fun hS => by
      rcases hS with hS | hS
      · exact not_at K.d hg (fun x => h5 x.symm) hS.symm
      · exact not_at K.mm hg (fun x => h22 x.symm) hS.symm
  refine ⟨⟨(nb z 42 _ K.box (by decide) (by decide)).trans K.box, K.big, K.fr.keep fun g cur _ hg => nb g 9 cur hg (by decide) (by decide), h.d, h.m, owns_same K.o fun g hg => ?_⟩, h.t.mono fun k _ hk => ?_⟩
  · obtain ⟨cur, hc⟩ := owns_block K.o hg
    exact nb g 62 cur hc (by decide) (by decide)
  · rcases hk with hk | hk
    · exact .inr (.inl hk)
    · exact .inr (.inr (.inl hk))
theorem Did.put {W W' : World} {B z : Nat} {m : Mc} {p : Pt} {D : List UInt8} {M : List Int} (K : MS W B z m p) (h : PutAt W W' B z 73 m.dv m.mv m.E D M) : Did W W' B z m m { p with D := D, M := M } := by
  have e : m.b.at m.b.fp p.F.length m.b.fc = m.b := by rw [← K.len]; rfl
  refine ⟨m.b.fp, m.b.fc, m.dv, m.mv, m.ov, ?_, (K.put h).2, ?_⟩
  · show MS W' B z { m with b := m.b.at m.b.fp p.F.length m.b.fc } { p with D := D, M := M }
    rw [e]
    exact (K.put h).1
  · show ∀ k, Ow { m with b := m.b.at m.b.fp p.F.length m.b.fc } z k → _
    rw [e]
    exact fun k hk => .inl hk
theorem actF_at (b : Bd) (q : Option Addr) (n c : Nat) (F : List ByteArray) (E : Int) (D : List UInt8) (M : List Int) (k : Int) (es : ByteArray) : actF (b.at q n c) F E D M k es = { actF b F E D M k es with b := (actF b F E D M k es).b.at q n c } := by
  unfold actF
  by_cases h1 : k = 1
  · simp only [if_pos h1]
  simp only [if_neg h1]
  by_cases h2 : k = 2
  · simp only [if_pos h2]
    by_cases h : 16 ≤ b.sector
    · rw [if_pos h, if_pos (show 16 ≤ (b.at q n c).sector from h)]; rfl
    · rw [if_neg h, if_neg (show ¬ 16 ≤ (b.at q n c).sector from h)]; rfl
  simp only [if_neg h2]
  by_cases h3 : k = 3
  · simp only [if_pos h3]
    by_cases h : 16 ≤ b.sector ∨ textE D.length b.addr 64 ≠ 0
    · rw [if_pos h, if_pos (show 16 ≤ (b.at q n c).sector ∨ textE D.length (b.at q n c).addr 64 ≠ 0 from h)]; rfl
    · rw [if_neg h, if_neg (show ¬ (16 ≤ (b.at q n c).sector ∨ textE D.length (b.at q n c).addr 64 ≠ 0) from h)]
      by_cases hb : hasB b = true
      · rw [if_pos hb, if_pos (show hasB (b.at q n c) = true from hb)]; rfl
      · rw [if_neg hb, if_neg (show ¬ hasB (b.at q n c) = true from hb)]; rfl
  simp only [if_neg h3]
  by_cases h4 : k = 4
  · simp only [if_pos h4]
    by_cases h : 0 < F.length
    · simp only [dif_pos h]; rfl
    · simp only [dif_neg h]
  simp only [if_neg h4]
  by_cases h5 : k = 5
  · simp only [if_pos h5]; rfl
  · simp only [if_neg h5]
theorem bd_at_at (b : Bd) (q q' : Option Addr) (n c n' c' : Nat) : (b.at q n c).at q' n' c' = b.at q' n' c' := rfl
/-- A call behind a call. -/
theorem Did.act {W W1 W2 : World} {B z : Nat} {m : Mc} {p : Pt} {b : Bd} {F : List ByteArray} {k : Int} {es : ByteArray} {q : Option Addr} {c : Nat} (h : Touch W W1 (Ow m z)) (ho : ∀ x, Ow { m with b := b.at q F.length c } z x → Ow m z x ∨ W.heap.size ≤ x)
    (h2 : Did W1 W2 B z { m with b := b.at q F.length c } (acM { m with b := b.at q F.length c } { p with F := F } k es).1 (acM { m with b := b.at q F.length c } { p with F := F } k es).2) : Did W W2 B z m (acM { m with b := b } { p with F := F } k es).1 (acM { m with b := b } { p with F := F } k es).2 := by
  have e : ∀ (x : Bd), (acM { m with b := b.at q F.length c } { p with F := F } k es).2 = (acM { m with b := b } { p with F := F } k es).2 ∧ ∀ q' n' c' dv mv ov, ({ (acM { m with b := b.at q F.length c } { p with F := F } k es).1 with b := (acM { m with b := b.at q F.length c } { p with F := F } k es).1.b.at q' n' c', dv := dv, mv := mv, ov := ov } : Mc) = { (acM { m with b := b } { p with F := F } k es).1 with b := (acM { m with b := b } { p with F := F } k es).1.b.at q' n' c', dv := dv, mv := mv, ov := ov } := fun _ => by
    unfold acM
    simp only [actF_at]
    cases (actF b F m.E p.D p.M k es).ok <;> exact ⟨rfl, fun _ _ _ _ _ _ => rfl⟩
  obtain ⟨e1, e2⟩ := e b
  obtain ⟨q', c', dv, mv, ov, hm, ht, hk⟩ := h2
  rw [e1, e2] at hm hk
  refine ⟨q', c', dv, mv, ov, hm, h.trans' ht fun x hx hS => ?_, fun x hx => ?_⟩
  · rcases ho x hS with h | h
    · exact h
    · omega
  · rcases hk x hx with h' | h'
    · exact ho x h'
    · exact .inr (Nat.le_trans h.size h')
theorem stF_inv (b : Bd) (F : List ByteArray) (t s v : Int) (hv : 0 ≤ v ∧ v ≤ 18446744073709551615) (ok : BdOk b) (h : (stF b F t s v).2.2.2.2 = true) : BdOk (stF b F t s v).1 ∧ (stF b F t s v).1.pl = b.pl ∧ (stF b F t s v).2.1 = F := by
  revert h
  show (fun R : Bd × List ByteArray × Int × ByteArray × Bool => R.2.2.2.2 = true → BdOk R.1 ∧ R.1.pl = b.pl ∧ R.2.1 = F) (stF b F t s v)
  unfold stF
  refine ite_P (fun R : Bd × List ByteArray × Int × ByteArray × Bool => R.2.2.2.2 = true → BdOk R.1 ∧ R.1.pl = b.pl ∧ R.2.1 = F) _ _ _ (fun _ => ⟨⟨ok.addr, ok.nicA, ok.sector⟩, rfl, rfl⟩) ?_
  refine ite_P (fun R : Bd × List ByteArray × Int × ByteArray × Bool => R.2.2.2.2 = true → BdOk R.1 ∧ R.1.pl = b.pl ∧ R.2.1 = F) _ _ _ (fun _ => ⟨⟨ok.addr, ok.nicA, ok.sector⟩, rfl, rfl⟩) ?_
  refine ite_P (fun R : Bd × List ByteArray × Int × ByteArray × Bool => R.2.2.2.2 = true → BdOk R.1 ∧ R.1.pl = b.pl ∧ R.2.1 = F) _ _ _ (fun _ => ⟨⟨ok.addr, ok.nicA, ok.sector⟩, rfl, rfl⟩) ?_
  refine ite_P (fun R : Bd × List ByteArray × Int × ByteArray × Bool => R.2.2.2.2 = true → BdOk R.1 ∧ R.1.pl = b.pl ∧ R.2.1 = F) _ _ _ (fun _ => ⟨⟨ok.addr, ok.nicA, ok.sector⟩, rfl, rfl⟩) ?_
  refine ite_P (fun R : Bd × List ByteArray × Int × ByteArray × Bool => R.2.2.2.2 = true → BdOk R.1 ∧ R.1.pl = b.pl ∧ R.2.1 = F) _ _ _ (fun _ => ⟨⟨ok.addr, ok.nicA, hv⟩, rfl, rfl⟩) ?_
  refine ite_P (fun R : Bd × List ByteArray × Int × ByteArray × Bool => R.2.2.2.2 = true → BdOk R.1 ∧ R.1.pl = b.pl ∧ R.2.1 = F) _ _ _ (fun _ => ⟨⟨hv, ok.nicA, ok.sector⟩, rfl, rfl⟩) ?_
  refine ite_P (fun R : Bd × List ByteArray × Int × ByteArray × Bool => R.2.2.2.2 = true → BdOk R.1 ∧ R.1.pl = b.pl ∧ R.2.1 = F) _ _ _ (fun _ => ⟨⟨ok.addr, ok.nicA, ok.sector⟩, rfl, rfl⟩) ?_
  refine ite_P (fun R : Bd × List ByteArray × Int × ByteArray × Bool => R.2.2.2.2 = true → BdOk R.1 ∧ R.1.pl = b.pl ∧ R.2.1 = F) _ _ _ (fun _ => ⟨⟨ok.addr, hv, ok.sector⟩, rfl, rfl⟩) ?_
  refine ite_P (fun R : Bd × List ByteArray × Int × ByteArray × Bool => R.2.2.2.2 = true → BdOk R.1 ∧ R.1.pl = b.pl ∧ R.2.1 = F) _ _ _ (fun _ => ⟨⟨ok.addr, ok.nicA, ok.sector⟩, rfl, rfl⟩) ?_
  refine ite_P (fun R : Bd × List ByteArray × Int × ByteArray × Bool => R.2.2.2.2 = true → BdOk R.1 ∧ R.1.pl = b.pl ∧ R.2.1 = F) _ _ _ (fun _ => ⟨⟨ok.addr, ok.nicA, ok.sector⟩, rfl, rfl⟩) ?_
  exact fun h => by cases h
/-- What a write through the bus does, and whether it is one. -/
def stM (m : Mc) (p : Pt) (t s v : Int) : Mc × Pt × Bool :=
  if okB s = false then (m, p, false)
  else if putB p.D.length t (bytesN v.toNat s.toNat) = true then (m, { p with D := putD p.D t (bytesN v.toNat s.toNat), M := putM p.D.length p.M m.E t (bytesN v.toNat s.toNat) }, true)
  else if ofB t = true then
    if (Pc.stF m.b.pl t s v).2 = true then ({ m with b := { m.b with pl := (Pc.stF m.b.pl t s v).1 } }, p, true) else (m, p, false)
  else if (stF m.b p.F t s v).2.2.2.2 = true then
    if (stF m.b p.F t s v).2.2.1 = 0 then ({ m with b := (stF m.b p.F t s v).1 }, { p with F := (stF m.b p.F t s v).2.1 }, true)
    else ((acM { m with b := (stF m.b p.F t s v).1 } { p with F := (stF m.b p.F t s v).2.1 } (stF m.b p.F t s v).2.2.1 (stF m.b p.F t s v).2.2.2.1).1, (acM { m with b := (stF m.b p.F t s v).1 } { p with F := (stF m.b p.F t s v).2.1 } (stF m.b p.F t s v).2.2.1 (stF m.b p.F t s v).2.2.2.1).2, true)
  else (m, p, false)
theorem calls_puts {f : FuncId} {args : Array Value} {w : World} {B z o : Nat} {dv mv : Value} {E t : Int} {D : List UInt8} {M : List Int} {s : ByteArray} (h : Calls Try.prog f args w (Put w B z o dv mv E D M t s)) : Calls Try.prog f args w fun e w' => ∃ u, e = .returned u ∧ (u = .bool (putB D.length t s) ∧ PutAt w w' B z o dv mv E (putD D t s) (putM D.length M E t s)) := h.mono fun _ _ h => ⟨_, h.1, rfl, h.2⟩
theorem Did.before {W w W' : World} {B z : Nat} {m r : Mc} {p : Pt} (h : Did w W' B z m r p) (ht : Touch W w (Ow m z)) : Did W W' B z m r p := by
  obtain ⟨q, c, dv, mv, ov, h1, h2, h3⟩ := h
  exact ⟨q, c, dv, mv, ov, h1, ht.trans h2, fun k hk => (h3 k hk).imp id (Nat.le_trans ht.size)⟩
theorem put_off {n : Nat} {t : Int} {s : ByteArray} {D : List UInt8} {M : List Int} {E : Int} (h : putB n t s = false) : (D.length = n → putD D t s = D) ∧ putM n M E t s = M := by
  unfold putB at h
  rw [Bool.or_eq_false_iff] at h
  refine ⟨fun e => ?_, ?_⟩
  · unfold putD
    rw [if_neg (by rw [e, h.2]; simp)]
  · unfold putM
    rw [if_neg (by rw [h.2]; simp)]
theorem put_none {W W' : World} {B z : Nat} {m : Mc} {p : Pt} {t : Int} {s : ByteArray} (hf : putB p.D.length t s = false) (h : PutAt W W' B z 73 m.dv m.mv m.E (putD p.D t s) (putM p.D.length p.M m.E t s)) : PutAt W W' B z 73 m.dv m.mv m.E p.D p.M := by
  have e := put_off (D := p.D) (M := p.M) (E := m.E) hf
  rw [e.1 rfl, e.2] at h
  exact h
theorem eff_store {w : World} {g : Nat} {k : Int} {s : ByteArray} (h : w.heap[g]? = some (.cells #[.int .i64 k, .string s] 80 (0, 0))) (k' : Int) (s' : ByteArray) : (Instr.storeAt 80 (.pointer (some ⟨g, 0, none⟩)) (effV k' s')).run Try.prog w = .ok () (w.setRow g #[.int .i64 k', .string s']) := EBox.store h k' s'
theorem MS.frames {W W' wx : World} {B z : Nat} {m : Mc} {p : Pt} {b : Bd} {F : List ByteArray} {q : Option Addr} {c : Nat} (K : MS W B z m p) (hB : B ≤ W.heap.size) (hb : Below W.heap.size W wx) (ho : OwnF wx W.heap.size (.slice q F.length c) F) (hw : W' = wx.setRow z (mcC { m with b := b.at q F.length c })) : MS W' B z { m with b := b.at q F.length c } { p with F := F } ∧ Touch W W' (Ow m z) ∧ ∀ x, Ow { m with b := b.at q F.length c } z x → Ow m z x ∨ W.heap.size ≤ x := by
  have k := K.next hb
  refine ⟨?_, (touch_of_below hb (Ow m z)).trans (by subst hw; exact (Touch.refl wx (Ow m z)).setRow (.inl (.inl rfl)) _), ?_⟩
  · have ne : ∀ g, g ≠ z → W'.heap[g]? = wx.heap[g]? := fun g hg => by subst hw; exact setRow_other wx z g _ hg
    refine ⟨k.box.put hw, k.big, ?_, owns_same k.d fun g hg => ne g fun x => not_at k.d k.box (by decide) (by rw [hg, x]), owns_same k.mm fun g hg => ne g fun x => not_at k.mm k.box (by decide) (by rw [hg, x]), owns_same k.o fun g hg => ne g fun x => not_at k.o k.box (by decide) (by rw [hg, x])⟩
    refine ((FT.of ho).base hB).keep fun g cur _ hg => ne g fun x => ?_
    subst x
    have := hg.symm.trans k.box
    simp at this
  · intro k hk
    rcases hk with hk | hk | hk | hk | hk
    · exact .inl (.inl hk)
    · exact .inl (.inr (.inl hk))
    · exact .inl (.inr (.inr (.inl hk)))
    · exact .inl (.inr (.inr (.inr (.inl hk))))
    · exact .inr (owns_lt ho hk.symm).1
set_option maxRecDepth 100000 in
set_option maxHeartbeats 4000000 in
theorem st_any (z B : Nat) (m : Mc) (p : Pt) (t s v : Int) (W : World) (K : MS W B z m p) (hB : B ≤ W.heap.size) (ok : POk m p) (hO : (p.O.length + 1) * 32 ≤ 140737488355328) (ht : 0 ≤ t ∧ t ≤ 18446744073709551615) (hv : 0 ≤ v ∧ v ≤ 18446744073709551615) : Calls Try.prog 15 #[.pointer (some ⟨z, 0, none⟩), .int .u64 t, .int .i64 s, .int .u64 v] W fun e W' =>
    e = .returned (.bool (stM m p t s v).2.2) ∧ Did W W' B z m (stM m p t s v).1 (stM m p t s v).2.1 := by
  have X := Lib.hid (Mem.start W)
  have HK := Lib.hid K
  have HO := Lib.hid ok
  have HB := Lib.hid (And.intro hB hO)
  have C0 := Lib.hid (ok_any s)
  by_cases h0 : okB s = false
  · unfold stM
    simp only [if_pos h0]
    rw [h0] at C0
    clear K hB ok hO ht hv h0
    go_enter Try.func15, Try.ntmps15
    go_wp2_with (first | (go_at_call 32; (with_reducible refine (C0.out _).mono ?_); rintro e wc ⟨rfl, rfl⟩) | fail)
    go_ret
    exact ⟨rfl, Did.none HK.out X.out.below⟩
  · have h0' : okB s = true := by simpa using h0
    have hs : s = 1 ∨ s = 2 ∨ s = 4 ∨ s = 8 := by unfold okB at h0'; simpa [or_assoc] using h0'
    unfold stM
    simp only [if_neg h0]
    rw [h0'] at C0
    have e1 : ((v.toNat : Nat) : Int) = v := by omega
    have e2 : ((s.toNat : Nat) : Int) = s := by omega
    have C1 : RowKit.Hid (∀ w, Calls Try.prog 34 #[.int .u64 v, .int .i64 s] w fun e w' => e = .returned (.string (bytesN v.toNat s.toNat)) ∧ Below w.heap.size w w') := Lib.hid fun w => by
      have k := bytes_any v.toNat s.toNat w (by omega) (by omega)
      rwa [e1, e2] at k
    have hz : (bytesN v.toNat s.toNat).size ≤ 9223372036854775807 := by rw [bytesN_size _ _ (by omega)]; omega
    have hne : (bytesN v.toNat s.toNat).size ≠ 0 := by rw [bytesN_size _ _ (by omega)]; omega
    generalize bytesN v.toNat s.toNat = x at C1 hz hne ⊢
    have C2 := Lib.hid (fun W' (h : Below W.heap.size W W') => put_any z 73 B m.dv m.mv m.E t p.D p.M x W' (K.next h).box.ram (K.next h).d (K.next h).mm ht.1 ht.2 hz)
    have HN := Lib.hid hne
    by_cases h1 : putB p.D.length t x = true
    · simp only [if_pos h1]
      have HP := Lib.hid h1
      clear K hB ok hO ht hv h0 h0' hs e1 e2 hz hne h1
      go_enter Try.func15, Try.ntmps15
      go_upto_region 3 with (first | (go_at_call 32; (with_reducible refine (C0.out _).mono ?_); rintro e wc ⟨rfl, rfl⟩) | fail)
      refine dr (fun _ => True) fun wz hzz => ?_
      have X := Lib.hid (X.out.next hzz)
      clear hzz
      have hS := trivial
      refine tk 0 hS ?_
      refine tk 1 hS ?_
      refine tk 2 hS ?_
      refine tk 3 hS ?_
      refine tk 4 hS ?_
      refine tk 5 hS ?_
      refine hc 6 (calls_told (C1.out _)) ?_
      rintro v' wb ⟨rfl, kk⟩
      have X := Lib.hid (X.out.next kk)
      refine ⟨trivial, fun hS => ?_⟩
      clear kk
      simp only [puts]
      refine hc 7 (calls_puts (C2.out _ X.out.below)) ?_
      rintro v' wd ⟨rfl, kk⟩
      rw [HP.out]
      have hat := Lib.hid (Did.put (HK.out.next X.out.below) kk)
      have ht := Lib.hid (touch_of_below X.out.below (Ow m z))
      refine ⟨trivial, fun hS => ?_⟩
      clear kk
      simp only [puts]
      refine wpAnyH_done (by kernel_rfl) ?_ _
      go_wp2_with fail
      go_ret
      exact ⟨rfl, hat.out.before ht.out⟩
    · simp only [if_neg h1]
      have hF : putB p.D.length t x = false := by simpa using h1
      have HP := Lib.hid hF
      have HV := Lib.hid hv
      generalize hR : (if ofB t = true then
    if (Pc.stF m.b.pl t s v).2 = true then ({ m with b := { m.b with pl := (Pc.stF m.b.pl t s v).1 } }, p, true) else (m, p, false)
  else if (stF m.b p.F t s v).2.2.2.2 = true then
    if (stF m.b p.F t s v).2.2.1 = 0 then ({ m with b := (stF m.b p.F t s v).1 }, { p with F := (stF m.b p.F t s v).2.1 }, true)
    else ((acM { m with b := (stF m.b p.F t s v).1 } { p with F := (stF m.b p.F t s v).2.1 } (stF m.b p.F t s v).2.2.1 (stF m.b p.F t s v).2.2.2.1).1, (acM { m with b := (stF m.b p.F t s v).1 } { p with F := (stF m.b p.F t s v).2.1 } (stF m.b p.F t s v).2.2.1 (stF m.b p.F t s v).2.2.2.1).2, true)
  else (m, p, false) : Mc × Pt × Bool) = R
      have HR := Lib.hid hR
      clear K hB ok hO ht hv h0 h0' hs e1 e2 hz hne h1 hF hR
      go_enter Try.func15, Try.ntmps15
      go_upto_region 3 with (first | (go_at_call 32; (with_reducible refine (C0.out _).mono ?_); rintro e wc ⟨rfl, rfl⟩) | fail)
      refine dr (fun _ => True) fun wz hzz => ?_
      have X := Lib.hid (X.out.next hzz)
      clear hzz
      have hS := trivial
      refine tk 0 hS ?_
      refine tk 1 hS ?_
      refine tk 2 hS ?_
      refine tk 3 hS ?_
      refine tk 4 hS ?_
      refine tk 5 hS ?_
      refine hc 6 (calls_told (C1.out _)) ?_
      rintro v' wb ⟨rfl, kk⟩
      have X := Lib.hid (X.out.next kk)
      refine ⟨trivial, fun hS => ?_⟩
      clear kk
      simp only [puts]
      refine hc 7 (calls_puts (C2.out _ X.out.below)) ?_
      rintro v' wd ⟨rfl, kk⟩
      rw [HP.out]
      have hat := (HK.out.next X.out.below).put (put_none HP.out kk)
      have HT := Lib.hid ((touch_of_below X.out.below (Ow m z)).trans hat.2)
      have HQ := Lib.hid hat.1
      have HB2 := Lib.hid (Nat.le_trans HB.out.1 HT.out.size)
      refine ⟨trivial, fun hS => ?_⟩
      clear kk hat X hS
      have X := Lib.hid (Mem.start wd)
      simp only [puts]
      refine wpAnyH_done (by kernel_rfl) ?_ _
      clear C1 C2
      have C1 := Lib.hid (of_any t)
      have hR := HR.out
      clear HR
      by_cases h2 : ofB t = true
      · rw [h2] at C1
        rw [if_pos h2] at hR
        have C3 := Lib.hid (fun W' (h : Below wd.heap.size wd W') => sp_any z m t s v W' (HQ.out.next h).box HO.out.c)
        generalize Pc.stF m.b.pl t s v = S at C3 hR
        obtain ⟨q, g⟩ := S
        dsimp only at C3 hR
        clear h2
        cases g
        · simp only [Bool.false_eq_true, if_false] at C3 hR
          subst hR
          go_wp2_with (first | (go_at_call 35; (with_reducible refine (C1.out _).mono ?_); rintro e wc ⟨rfl, rfl⟩) | (go_at_call 36; (with_reducible refine (C3.out _ X.out.below).mono ?_); rintro e we ⟨rfl, kk⟩; have HC := Lib.hid (kk.trans X.out.below); clear kk) | fail)
          go_ret
          exact ⟨rfl, (Did.board (b := m.b) HQ.out ⟨rfl, rfl, rfl⟩ HC.out).before HT.out⟩
        · simp only [if_true] at C3 hR
          subst hR
          go_wp2_with (first | (go_at_call 35; (with_reducible refine (C1.out _).mono ?_); rintro e wc ⟨rfl, rfl⟩) | (go_at_call 36; (with_reducible refine (C3.out _ X.out.below).mono ?_); rintro e we ⟨rfl, kk⟩; have HC := Lib.hid (kk.trans X.out.below); clear kk) | fail)
          go_ret
          exact ⟨rfl, (Did.board (b := { m.b with pl := q }) HQ.out ⟨rfl, rfl, rfl⟩ HC.out).before HT.out⟩
      · have h3 : ofB t = false := by simpa using h2
        rw [h3] at C1
        rw [if_neg h2] at hR
        have C3 := Lib.hid (fun W' (h : Below wd.heap.size wd W') => store_any m.b p.F t s v W' ((HQ.out.next h).fr.rd) HO.out.fl HV.out)
        have HI := Lib.hid (stF_inv m.b p.F t s v HV.out HO.out.bd)
        generalize stF m.b p.F t s v = S at C3 hR HI
        obtain ⟨b', F', k, es, g⟩ := S
        dsimp only at C3 hR HI
        clear h2 h3
        have HR := Lib.hid hR
        clear hR
        go_upto_region 8 with (first | (go_at_call 35; (with_reducible refine (C1.out _).mono ?_); rintro e wc ⟨rfl, rfl⟩) | (with_reducible refine wpList_load_by rfl rfl (MBox.load_b (HQ.out.next X.out.below).box) rfl ?_) | (go_at_call 37; (with_reducible refine (C3.out _ X.out.below).mono ?_); rintro e wb ⟨q, c, rfl, ho', kk⟩; have X := Lib.hid ((X.out.next kk).addrow ho' X.out.below.size (by decide)); clear kk ho') | (with_reducible refine wpList_store_by rfl rfl (store_box _ _ _ (b'.at q F'.length c) X.out.newZE.g1 (bdC_size _)) rfl rfl ?_) | (with_reducible refine wpList_store_by rfl rfl (eff_store (X.out.newZE.p1 (cs' := bdC (b'.at q F'.length c)) rfl).g0 k es) rfl rfl ?_) | fail)
        have X := Lib.hid ((X.out.newZE.p1 (cs' := bdC (b'.at q F'.length c)) rfl).p0 (cs' := #[.int .i64 k, .string es]) rfl)
        generalize wb.heap.size = x at X ⊢
        generalize hwf : ((((wb.alloc zeroO).alloc effO).setRow x (bdC (b'.at q F'.length c))).setRow (x + 1) #[.int .i64 k, .string es]) = wf at X ⊢
        clear hwf C1 C3 C0
        cases g
        · have hR := HR.out
          simp only [Bool.false_eq_true, if_false] at hR
          clear HR HI
          subst hR
          go_wp2_with fail
          go_ret
          exact ⟨rfl, Did.before (Did.none HQ.out X.out.below) HT.out⟩
        · have hR := HR.out
          simp only [if_true] at hR
          have HR2 := Lib.hid hR
          clear HR hR
          have HS := Lib.hid (HQ.out.next X.out.below)
          go_upto_region 11 with (first | (with_reducible refine wpList_load_by rfl rfl (Box.load X.out.b1) rfl ?_) | (with_reducible refine wpList_store_by rfl rfl (MBox.store_b HS.out.box (b'.at q F'.length c)) rfl rfl ?_) | fail)
          have HF := Lib.hid (Did.frames (b := b') HQ.out HB2.out X.out.below X.out.r0 rfl)
          have HM := Lib.hid (HQ.out.frames (b := b') HB2.out X.out.below X.out.r0 rfl)
          have zx : x + 1 ≠ z := by have h1 : wd.heap.size ≤ x + 1 := X.out.big _ (List.mem_cons_self ..); have h2 := HQ.out.box.lt; omega
          have HE := Lib.hid (EBox.over X.out.g0 zx (mcC { m with b := b'.at q F'.length c }))
          generalize hwg : wf.setRow z (mcC { m with b := b'.at q F'.length c }) = wg at HF HM HE ⊢
          have HI2 := Lib.hid (HI.out rfl)
          clear X HS zx hwg HI
          have m_k : wg.cell? ⟨x + 1, 0, none⟩ = some (.int .i64 k) := cell_of_row _ _ 0 _ 80 (0, 0) HE.out
          have hR := HR2.out
          clear HR2
          by_cases hk : k = 0
          · rw [if_pos hk] at hR
            subst hk
            subst hR
            go_wp2_with fail
            go_ret
            exact ⟨rfl, HF.out.before HT.out⟩
          · rw [if_neg hk] at hR
            have e1 : (k == 0) = false := beq_eq_false_iff_ne.2 hk
            subst hR
            have hok : POk { m with b := b'.at q F'.length c } { p with F := F' } := by
              obtain ⟨i1, i2, i3⟩ := HI2.out
              subst i3
              exact ⟨⟨i1.addr, i1.nicA, i1.sector⟩, (show Pc.U32 b'.pl.c by rw [i2]; exact HO.out.c), HO.out.fz, HO.out.fl, HO.out.dl, HO.out.ml⟩
            have C4 := Lib.hid (bact_any z B { m with b := b'.at q F'.length c } { p with F := F' } k es wg HM.out.1 (Nat.le_trans HB2.out HM.out.2.1.size) hok HB.out.2)
            clear hk hok
            go_wp2_with (first | (with_reducible refine wpList_load_by rfl rfl (EBox.load HE.out) rfl ?_) | (go_at_call 38; (with_reducible refine C4.out.mono ?_); rintro e wh ⟨rfl, kk⟩; have HC := Lib.hid kk; clear kk) | fail)
            go_ret
            exact ⟨rfl, (Did.act (b := b') HM.out.2.1 HM.out.2.2 HC.out).before HT.out⟩

end Go.Proofs.Ytnedhjaphfjdmaa
