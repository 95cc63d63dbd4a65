/- Put of the program. Put of the reference. -/
import Derived.Test.YtjohcpokmdofkaaGreatDoorYRD
namespace Go.Proofs.YtjohcpokmdofkaaGreatDoor
open Go.RowKit Go.Deep Go.Joins
/-- The marks of leaves a to j - 1 are E. -/
def mk (M : List Int) (E : Int) (a j : Nat) : List Int := M.mapIdx fun k m => if a ≤ k ∧ k < j then E else m
theorem mk_length (M : List Int) (E : Int) (a j : Nat) : (mk M E a j).length = M.length := by simp [mk]
theorem mk_none (M : List Int) (E : Int) (a j : Nat) (h : j ≤ a) : mk M E a j = M := by
  apply List.ext_getElem (by simp [mk])
  intro k h1 h2
  simp [mk]; omega
theorem mk_step (M : List Int) (E : Int) (a j : Nat) (ha : a ≤ j) : (mk M E a j).set j E = mk M E a (j + 1) := by
  apply List.ext_getElem (by simp [mk])
  intro k h1 h2
  simp only [mk, List.getElem_set, List.getElem_mapIdx]
  by_cases e : j = k
  · subst e; simp [ha]
  · rw [if_neg e]
    by_cases h3 : a ≤ k ∧ k < j
    · rw [if_pos h3, if_pos (by omega)]
    · rw [if_neg h3, if_neg (by omega)]
theorem mk_over (M : List Int) (E : Int) (a j : Nat) (h : M.length ≤ j) : mk M E a j = mk M E a M.length := by
  apply List.ext_getElem (by simp [mk])
  intro k h1 h2
  simp only [mk, List.length_mapIdx] at h1
  simp only [mk, List.getElem_mapIdx]
  by_cases h3 : a ≤ k
  · rw [if_pos (by omega), if_pos (by omega)]
  · rw [if_neg (by omega), if_neg (by omega)]
theorem OwnM.set {w : World} {B h n cap : Nat} {M : List Int} (hm : OwnM w B (.slice (some ⟨h, 0, none⟩) n cap) M) (j : Nat) (E : Int) :
    OwnM (w.setCell ⟨h, j, none⟩ (.int .u64 E)) B (.slice (some ⟨h, 0, none⟩) n cap) (M.set j E) := by
  unfold OwnM at *
  have hn : n = M.length := by
    rcases hm.2 with ⟨e, _⟩ | ⟨_, _, _, e, _⟩
    · cases e
    · simp only [Value.slice.injEq] at e; exact e.2.1
  subst hn
  have e := (World.ownsRow.stored hm j (.int .u64 E)).1
  rw [List.length_set]
  have e2 : (mC M).set j (.int .u64 E) = mC (M.set j E) := by
    apply List.ext_getElem (by simp [mC])
    intro k h1 h2
    simp only [mC, List.getElem_set, List.getElem_map]
    split <;> rfl
  rwa [e2] at e
/-- Memory that lies in a block from a place on. -/
structure RamAt (w : World) (z o : Nat) (dv mv : Value) (E : Int) : Prop where
  row : ∃ c t, w.heap[z]? = some (.cells c t (0, 0)) ∧ 33 ≤ (t : Nat) ∧ c[o]? = some dv ∧ c[o + 1]? = some mv ∧ c[o + 2]? = some (.int .u64 E)
theorem RamAt.lt {w : World} {z o : Nat} {dv mv : Value} {E : Int} (h : RamAt w z o dv mv E) : z < w.heap.size := by obtain ⟨c, t, h1, _⟩ := h.row; exact (Array.getElem?_eq_some_iff.1 h1).1
theorem RamAt.cells {w : World} {z o : Nat} {dv mv : Value} {E : Int} (h : RamAt w z o dv mv E) : w.cell? ⟨z, o, none⟩ = some dv ∧ w.cell? ⟨z, o + 1, none⟩ = some mv ∧ w.cell? ⟨z, o + 2, none⟩ = some (.int .u64 E) := by
  obtain ⟨c, t, h1, _, h2, h3, h4⟩ := h.row
  refine ⟨?_, ?_, ?_⟩ <;> rw [cell_of_row w z _ _ t (0, 0) h1] <;> assumption
theorem RamAt.keep {w w' : World} {z o : Nat} {dv mv : Value} {E : Int} (h : RamAt w z o dv mv E) (e : w'.heap[z]? = w.heap[z]?) : RamAt w' z o dv mv E := by
  obtain ⟨c, t, h1, h2⟩ := h.row
  exact ⟨c, t, e.trans h1, h2⟩
theorem RamAt.below {w w' : World} {z o : Nat} {dv mv : Value} {E : Int} (h : RamAt w z o dv mv E) (hb : Below w.heap.size w w') : RamAt w' z o dv mv E := h.keep (hb.block z h.lt)
theorem RamAt.touch {w w' : World} {z o : Nat} {dv mv : Value} {E : Int} {S : Nat → Prop} (h : RamAt w z o dv mv E) (hb : Touch w w' S) (hS : ¬ S z) : RamAt w' z o dv mv E := h.keep (hb.block z h.lt hS)
theorem RamAt.apart {w : World} {z o : Nat} {dv mv : Value} {E : Int} (h : RamAt w z o dv mv E) {B n size e : Nat} {v : Value} {xs : List Value} (ho : w.ownsRow B e size v n xs) (he : e < 33) : v.ownBlock ≠ some z := by
  obtain ⟨c, t, h1, h2, _⟩ := h.row
  exact not_at ho h1 (fun x => absurd (show (t : Nat) < 33 from (show (e : Nat) = t from x) ▸ he) (Nat.not_lt.2 h2))
theorem RamVar.at {w : World} {z : Nat} {dv mv : Value} {E : Int} (h : RamVar w z dv mv E) : RamAt w z 0 dv mv E := ⟨_, 39, h, by decide, rfl, rfl, rfl⟩
/-- What a writing leaves: bytes and marks, and what turned. -/
def PutS (dv mv : Value) (k : Nat) : Prop := some k = dv.ownBlock ∨ some k = mv.ownBlock
structure PutAt (w wr : World) (B z o : Nat) (dv mv : Value) (E : Int) (D : List UInt8) (M : List Int) : Prop where
  var : RamAt wr z o dv mv E
  d : OwnD wr B dv D
  m : OwnM wr B mv M
  t : Touch w wr (PutS dv mv)
def putB (n : Nat) (t : Int) (s : ByteArray) : Bool := decide (s.size = 0) || thereB n t s.size
def putD (D : List UInt8) (t : Int) (s : ByteArray) : List UInt8 := if s.size ≠ 0 ∧ thereB D.length t s.size = true then spl D (t - 2147483648).toNat s else D
def putM (n : Nat) (M : List Int) (E t : Int) (s : ByteArray) : List Int :=
  if s.size ≠ 0 ∧ thereB n t s.size = true then mk M E ((t - 2147483648).toNat / 256) (((t - 2147483648).toNat + s.size - 1) / 256 + 1) else M
theorem PutAt.same {w wr : World} {B z o : Nat} {dv mv : Value} {E : Int} {D : List UInt8} {M : List Int} (h1 : RamAt w z o dv mv E) (h2 : OwnD w B dv D) (h3 : OwnM w B mv M) (hb : Below w.heap.size w wr) : PutAt w wr B z o dv mv E D M :=
  ⟨h1.below hb, h2.below hb, h3.below hb, touch_of_below hb _⟩
def Put (w : World) (B z o : Nat) (dv mv : Value) (E : Int) (D : List UInt8) (M : List Int) (t : Int) (s : ByteArray) (e : Ending) (w' : World) : Prop :=
  e = .returned (.bool (putB D.length t s)) ∧ PutAt w w' B z o dv mv E (putD D t s) (putM D.length M E t s)
theorem run_copy_str {w : World} {B g n cap off : Nat} {D : List UInt8} {x : ByteArray} (hown : OwnD w B (.slice (some ⟨g, 0, none⟩) n cap) D) (hfit : off + x.size ≤ D.length) (dLen dCap : Nat) (hn : x.size ≤ dLen) :
    ∃ w', (Builtin.copy_ #[36, 9] 3 #[.slice (some ⟨g, off, none⟩) dLen dCap, .string x]).run Tryz.prog w = .ok (goInt x.size) w' ∧ OwnD w' B (.slice (some ⟨g, 0, none⟩) n cap) (spl D off x) ∧ Touch w w' (fun k => k = g) := by
  rcases hown.2 with ⟨h1, _⟩ | ⟨g', cap', cur, h1, h2, h3, h4, h5, h6, h7⟩
  · cases h1
  · simp only [Value.slice.injEq, Option.some.injEq, Addr.mk.injEq, and_true] at h1
    obtain ⟨rfl, hDn, rfl⟩ := h1
    rw [Nat.mul_one] at h7
    have hrun := run_copy_string (P := Tryz.prog) w 36 9 3 5 g off dLen dCap x cur 5 Tryz.underlying36 (by kernel_rfl) h3 hn (by omega)
    exact ⟨_, hrun, owns_spl (x := x) h3 h2 h4 h5 h6 h7 hDn.symm hfit, (Touch.refl w (fun k => k = g)).setRow (.inl rfl) _⟩
theorem put_empty (z o : Nat) (t : Int) (w : World) :
    Calls Tryz.prog 138 #[.pointer (some ⟨z, o, none⟩), .int .u64 t, .string ⟨#[]⟩] w fun e w' => e = .returned (.bool true) ∧ w = w' := by
  go_enter Tryz.func138, Tryz.ntmps138
  go_wp2
  go_ret
  exact ⟨rfl, rfl⟩
set_option maxHeartbeats 1000000 in
theorem put_no (z o : Nat) (p : Option Addr) (n cap : Nat) (q : Option Addr) (m cap2 : Nat) (E t : Int) (s : ByteArray) (w : World) (hv : RamAt w z o (.slice p n cap) (.slice q m cap2) E) (hn : n ≤ 9223372036854775807) (ht0 : 0 ≤ t) (ht1 : t ≤ 18446744073709551615)
    (hs : s.size ≤ 9223372036854775807) (h0 : s.size ≠ 0) (hth : thereB n t s.size = false) :
    Calls Tryz.prog 138 #[.pointer (some ⟨z, o, none⟩), .int .u64 t, .string s] w fun e w' => e = .returned (.bool false) ∧ Below w.heap.size w w' := by
  obtain ⟨c0, c1, c2⟩ := hv.cells
  have HT := Lib.hid hth
  have e0 : s.toList.isEmpty = false := by
    rw [ByteArray.toList_eq, List.isEmpty_eq_false_iff]
    intro e
    have e1 : s.data.toList.length = s.size := by rw [Array.length_toList]; rfl
    rw [e] at e1
    exact h0 (by simpa using e1.symm)
  have e1 : s.toList ≠ [] := by rw [List.isEmpty_eq_false_iff] at e0; exact e0
  clear hth h0
  go_enter Tryz.func138, Tryz.ntmps138
  go_wp2_with fail
  refine (there_any _ _ _ _ _ _ _ _ hn ht0 ht1 (by omega) (by omega)).mono ?_
  rintro e w1 ⟨rfl, hb1⟩
  rw [HT.out]
  go_wp2_with fail
  go_ret
  exact ⟨rfl, hb1⟩
/-- The loop over the marks. -/
def Marking (w wr : World) (B z o : Nat) (dv mv : Value) (E : Int) (D : List UInt8) (M : List Int) (a j : Nat) : Prop := PutAt w wr B z o dv mv E D (mk M E a j)
theorem Marking.step {w wr : World} {B z o g h n m cap cap2 : Nat} {E : Int} {D : List UInt8} {M : List Int} {a j : Nat} (hp : Marking w wr B z o (.slice (some ⟨g, 0, none⟩) n cap) (.slice (some ⟨h, 0, none⟩) m cap2) E D M a j) (ha : a ≤ j)
    (hz : (Value.slice (some ⟨h, 0, none⟩) m cap2).ownBlock ≠ some z) :
    Marking w (wr.setCell ⟨h, j, none⟩ (.int .u64 E)).drew B z o (.slice (some ⟨g, 0, none⟩) n cap) (.slice (some ⟨h, 0, none⟩) m cap2) E D M a (j + 1) := by
  have hzh : z ≠ h := fun e => hz (by rw [e]; rfl)
  have ht : Touch wr (wr.setCell ⟨h, j, none⟩ (.int .u64 E)).drew (fun k => k = h) := ((Touch.refl wr (fun k => k = h)).setCell (.inl rfl) _).drew
  refine ⟨hp.var.touch ht hzh, owns_touch hp.d ht (fun x hx e => rows_apart hp.d hp.m (by decide) hx (by rw [e]; rfl)), ?_, hp.t.trans (ht.mono (fun x _ hx => .inr (by rw [hx]; rfl)))⟩
  rw [← mk_step _ _ _ _ ha]
  have h2 := hp.m.set j E
  exact owns_same h2 fun _ _ => rfl
set_option maxRecDepth 100000 in
set_option maxHeartbeats 2000000 in
theorem put_yes (z o B : Nat) (dv mv : Value) (E t : Int) (D : List UInt8) (M : List Int) (s : ByteArray) (w : World) (hv : RamAt w z o dv mv E) (hd : OwnD w B dv D) (hm : OwnM w B mv M) (ht0 : 0 ≤ t) (ht1 : t ≤ 18446744073709551615)
    (hs : s.size ≤ 9223372036854775807) (h0 : s.size ≠ 0) (hth : thereB D.length t s.size = true) :
    Calls Tryz.prog 138 #[.pointer (some ⟨z, o, none⟩), .int .u64 t, .string s] w fun e w' => e = .returned (.bool true) ∧
      PutAt w w' B z o dv mv E (spl D (t - 2147483648).toNat s) (mk M E ((t - 2147483648).toNat / 256) (((t - 2147483648).toNat + s.size - 1) / 256 + 1)) := by
  obtain ⟨p, cap, rfl⟩ := owns_shape hd
  obtain ⟨q, cap2, rfl⟩ := owns_shape hm
  have hDle := hd.at.le
  have hMle := hm.at.le
  obtain ⟨_, h1, h2⟩ := there_iff.1 hth
  obtain ⟨c0, c1, c2⟩ := hv.cells
  have HT := Lib.hid hth
  have e0 : s.toList.isEmpty = false := by
    rw [ByteArray.toList_eq, List.isEmpty_eq_false_iff]
    intro e
    have e1 : s.data.toList.length = s.size := by rw [Array.length_toList]; rfl
    rw [e] at e1
    exact h0 (by simpa using e1.symm)
  have e1 : s.toList ≠ [] := by rw [List.isEmpty_eq_false_iff] at e0; exact e0
  obtain ⟨k, rfl⟩ : ∃ k : Nat, t = k + 2147483648 := ⟨(t - 2147483648).toNat, by omega⟩
  rw [show ((k : Int) + 2147483648 - 2147483648).toNat = k by omega]
  have hspos : 0 < s.size := by omega
  obtain ⟨g, rfl⟩ : ∃ g, p = some ⟨g, 0, none⟩ := by
    rcases hd.2 with ⟨_, e⟩ | ⟨g, _, _, e, _⟩
    · omega
    · simp only [Value.slice.injEq] at e; exact ⟨g, e.1⟩
  have hcap : D.length ≤ cap ∧ cap ≤ 9223372036854775807 := by
    rcases hd.2 with ⟨_, e⟩ | ⟨g', cap', _, e, _, _, h3, h4, _⟩
    · omega
    · simp only [Value.slice.injEq] at e
      rw [e.2.2]
      unfold maxLen at h4
      exact ⟨h3, by omega⟩
  clear hth h0
  go_enter Tryz.func138, Tryz.ntmps138
  go_wp2_with fail
  refine (there_any _ _ _ _ _ _ _ _ hDle ht0 ht1 (by omega) (by omega)).mono ?_
  rintro e w1 ⟨rfl, hb1⟩
  rw [HT.out]
  have hv1 := hv.below hb1
  have hm1 := hm.below hb1
  obtain ⟨w2, hrun, hd2, ht2⟩ := run_copy_str (x := s) (off := k) (hd.below hb1) (by omega) (D.length - k) (cap - k) (by omega)
  have hzg : z ≠ g := fun e => hv.apart hd (by decide) (by rw [e]; rfl)
  have hmg : ∀ x, (Value.slice q M.length cap2).ownBlock = some x → ¬ (x = g) := fun x hx e => rows_apart hm hd (by decide) hx (by rw [e]; rfl)
  have hzq : (Value.slice q M.length cap2).ownBlock ≠ some z := hv.apart hm (by decide)
  have hv2 := hv1.touch ht2 hzg
  have hm2 : OwnM w2 B (.slice q M.length cap2) M := owns_touch hm1 ht2 hmg
  have htt : Touch w w2 (PutS (.slice (some ⟨g, 0, none⟩) D.length cap) (.slice q M.length cap2)) := (touch_of_below hb1 _).trans (ht2.mono (fun x _ hx => .inl (by rw [hx]; rfl)))
  obtain ⟨g0, g1, g2⟩ := hv1.cells
  obtain ⟨d0, d1, d2⟩ := hv2.cells
  have hat : Marking w w2 B z o (.slice (some ⟨g, 0, none⟩) D.length cap) (.slice q M.length cap2) E (spl D k s) M (k / 256) (k / 256) := by
    unfold Marking
    rw [mk_none _ _ _ _ (Nat.le_refl _)]
    exact ⟨hv2, hd2, hm2, htt⟩
  have HAT := Lib.hid hat
  have HZQ := Lib.hid hzq
  clear hat hv hd hm hv1 hm1 hb1 hv2 hm2 hd2 ht2 htt hmg hzq c0 c1 c2 d0 d1 d2
  go_wp2_with fail
  go_loopw [9] (fun i wr => ∃ j : Nat, k / 256 ≤ j ∧ j ≤ (k + s.size - 1) / 256 + 1 ∧ i = .int .i64 j ∧ Hid (Marking w wr B z o (.slice (some ⟨g, 0, none⟩) D.length cap) (.slice q M.length cap2) E (spl D k s) M (k / 256) j)) (fun i _ => (k + s.size - 1) / 256 + 1 - (intOf i).toNat)
  case atStart => exact ⟨k / 256, Nat.le_refl _, by omega, by go_num, HAT⟩
  case round =>
    obtain ⟨j, hj1, hj2, rfl, hat⟩ := hrel
    obtain ⟨c0, c1, c2⟩ := hat.out.var.cells
    by_cases hl1 : j ≤ (k + s.size - 1) / 256
    · by_cases hl2 : j < M.length
      · obtain ⟨h, rfl⟩ : ∃ h, q = some ⟨h, 0, none⟩ := by
          rcases hat.out.m.2 with ⟨_, e⟩ | ⟨g, _, _, e, _⟩
          · rw [mk_length] at e; omega
          · simp only [Value.slice.injEq] at e; exact ⟨g, e.1⟩
        have hml := mk_length M E (k / 256) j
        have c3 : wr.cell? ⟨h, j, none⟩ = some (.int .u64 ((mk M E (k / 256) j)[j]'(by omega))) := by
          have hmm := hat.out.m
          unfold OwnM at hmm
          rw [hml] at hmm
          rw [hmm.cellAt j (by omega)]
          simp [mC, hml, hl2]
        have c4 : wr.frozen? ⟨h, j, none⟩ = false := by
          have hmm := hat.out.m
          unfold OwnM at hmm
          rw [hml] at hmm
          exact hmm.frozenAt j
        generalize (mk M E (k / 256) j)[j]'(by omega) = X at c3
        clear hml
        have hb1 : decide ((j : Int) ≤ ((k : Int) + s.size - 1) / 256) = true := decide_eq_true (by omega)
        go_wp2_with fail
        go_region
        all_goals go_wp2_with fail
        exact ⟨⟨j + 1, by omega, by omega, by go_num, hat.out.step hj1 HZQ.out⟩, by simp [intOf]; omega⟩
      · have hb1 : decide ((j : Int) ≤ ((k : Int) + s.size - 1) / 256) = true := decide_eq_true (by omega)
        have hb2 : decide ((j : Int) < (M.length : Int)) = false := decide_eq_false (by omega)
        have hb3 : decide (j < M.length) = false := decide_eq_false (by omega)
        go_wp2_with fail
        go_ret
        have e2 : mk M E (k / 256) ((k + s.size - 1) / 256 + 1) = mk M E (k / 256) j := by rw [mk_over _ _ _ _ (by omega), mk_over _ _ _ j (by omega)]
        refine ⟨rfl, ?_⟩
        rw [e2]
        exact hat.out
    · have hb1 : decide ((j : Int) ≤ ((k : Int) + s.size - 1) / 256) = false := decide_eq_false (by omega)
      go_wp2_with fail
      go_ret
      obtain rfl : j = (k + s.size - 1) / 256 + 1 := by omega
      exact ⟨rfl, hat.out⟩
/-- Whatever is put. -/
theorem put_any (z o B : Nat) (dv mv : Value) (E t : Int) (D : List UInt8) (M : List Int) (s : ByteArray) (w : World) (hv : RamAt w z o dv mv E) (hd : OwnD w B dv D) (hm : OwnM w B mv M) (ht0 : 0 ≤ t) (ht1 : t ≤ 18446744073709551615)
    (hs : s.size ≤ 9223372036854775807) : Calls Tryz.prog 138 #[.pointer (some ⟨z, o, none⟩), .int .u64 t, .string s] w (Put w B z o dv mv E D M t s) := by
  by_cases h0 : s.size = 0
  · obtain rfl : s = ⟨#[]⟩ := by
      apply ByteArray.ext
      exact Array.eq_empty_of_size_eq_zero h0
    refine (put_empty z o t w).mono ?_
    rintro e w' ⟨rfl, rfl⟩
    refine ⟨by simp [putB, h0], ?_⟩
    rw [show putD D t ⟨#[]⟩ = D from if_neg (by simp [h0]), show putM D.length M E t ⟨#[]⟩ = M from if_neg (by simp [h0])]
    exact PutAt.same hv hd hm (Below.refl _ _)
  · rcases Bool.eq_false_or_eq_true (thereB D.length t s.size) with h | h
    · refine (put_yes z o B dv mv E t D M s w hv hd hm ht0 ht1 hs h0 h).mono ?_
      rintro e w' ⟨rfl, hp⟩
      refine ⟨by simp [putB, h], ?_⟩
      rw [show putD D t s = _ from if_pos ⟨h0, h⟩, show putM D.length M E t s = _ from if_pos ⟨h0, h⟩]
      exact hp
    · obtain ⟨p, cap, rfl⟩ := owns_shape hd
      obtain ⟨q, cap2, rfl⟩ := owns_shape hm
      refine (put_no z o p D.length cap q M.length cap2 E t s w hv hd.at.le ht0 ht1 hs h0 h).mono ?_
      rintro e w' ⟨rfl, hb⟩
      refine ⟨by simp [putB, h, h0], ?_⟩
      rw [show putD D t s = D from if_neg (by simp [h]), show putM D.length M E t s = M from if_neg (by simp [h])]
      exact PutAt.same hv hd hm hb
end Go.Proofs.YtjohcpokmdofkaaGreatDoor
namespace Go.Proofs.YtjohcpokmdofkaaGreatDoor
open Go.RowKit Go.Deep Go.Joins
theorem rput_empty (z o : Nat) (t : Int) (w : World) :
    Calls Tryz.prog 13 #[.pointer (some ⟨z, o, none⟩), .int .u64 t, .string ⟨#[]⟩] w fun e w' => e = .returned (.bool true) ∧ w = w' := by
  go_enter Tryz.func13, Tryz.ntmps13
  go_wp2
  go_ret
  exact ⟨rfl, rfl⟩
set_option maxHeartbeats 1000000 in
theorem rput_no (z o : Nat) (p : Option Addr) (n cap : Nat) (q : Option Addr) (m cap2 : Nat) (E t : Int) (s : ByteArray) (w : World) (hv : RamAt w z o (.slice p n cap) (.slice q m cap2) E) (hn : n ≤ 9223372036854775807) (ht0 : 0 ≤ t) (ht1 : t ≤ 18446744073709551615)
    (hs : s.size ≤ 9223372036854775807) (h0 : s.size ≠ 0) (hth : thereB n t s.size = false) :
    Calls Tryz.prog 13 #[.pointer (some ⟨z, o, none⟩), .int .u64 t, .string s] w fun e w' => e = .returned (.bool false) ∧ Below w.heap.size w w' := by
  obtain ⟨c0, c1, c2⟩ := hv.cells
  have HSP := Lib.hid (show spotV n t s.size = -1 from if_neg (by rw [hth]; simp))
  have e0 : ((s.size : Int) == 0) = false := by rw [beq_eq_false_iff_ne]; omega
  clear hth h0
  go_enter Tryz.func13, Tryz.ntmps13
  go_wp2_with fail
  refine (spot_any _ _ _ _ _ _ _ _ hn ht0 ht1 (by omega) (by omega)).mono ?_
  rintro e w1 ⟨rfl, hb1⟩
  rw [HSP.out]
  go_wp2_with fail
  go_ret
  exact ⟨rfl, hb1⟩
set_option maxRecDepth 100000 in
set_option maxHeartbeats 2000000 in
theorem rput_yes (z o B : Nat) (dv mv : Value) (E t : Int) (D : List UInt8) (M : List Int) (s : ByteArray) (w : World) (hv : RamAt w z o dv mv E) (hd : OwnD w B dv D) (hm : OwnM w B mv M) (ht0 : 0 ≤ t) (ht1 : t ≤ 18446744073709551615)
    (hs : s.size ≤ 9223372036854775807) (h0 : s.size ≠ 0) (hth : thereB D.length t s.size = true) :
    Calls Tryz.prog 13 #[.pointer (some ⟨z, o, none⟩), .int .u64 t, .string s] w fun e w' => e = .returned (.bool true) ∧
      PutAt w w' B z o dv mv E (spl D (t - 2147483648).toNat s) (mk M E ((t - 2147483648).toNat / 256) (((t - 2147483648).toNat + s.size - 1) / 256 + 1)) := by
  obtain ⟨p, cap, rfl⟩ := owns_shape hd
  obtain ⟨q, cap2, rfl⟩ := owns_shape hm
  have hDle := hd.at.le
  have hMle := hm.at.le
  obtain ⟨_, h1, h2⟩ := there_iff.1 hth
  obtain ⟨c0, c1, c2⟩ := hv.cells
  have hsp : spotV D.length t s.size = t - 2147483648 := if_pos ⟨by omega, hth⟩
  have e0 : ((s.size : Int) == 0) = false := by rw [beq_eq_false_iff_ne]; omega
  obtain ⟨k, rfl⟩ : ∃ k : Nat, t = k + 2147483648 := ⟨(t - 2147483648).toNat, by omega⟩
  rw [show ((k : Int) + 2147483648 - 2147483648).toNat = k by omega]
  rw [show ((k : Int) + 2147483648 - 2147483648) = k by omega] at hsp
  have HSP := Lib.hid hsp
  clear hsp
  have hspos : 0 < s.size := by omega
  obtain ⟨g, rfl⟩ : ∃ g, p = some ⟨g, 0, none⟩ := by
    rcases hd.2 with ⟨_, e⟩ | ⟨g, _, _, e, _⟩
    · omega
    · simp only [Value.slice.injEq] at e; exact ⟨g, e.1⟩
  have hcap : D.length ≤ cap ∧ cap ≤ 9223372036854775807 := by
    rcases hd.2 with ⟨_, e⟩ | ⟨g', cap', _, e, _, _, h3, h4, _⟩
    · omega
    · simp only [Value.slice.injEq] at e
      rw [e.2.2]
      unfold maxLen at h4
      exact ⟨h3, by omega⟩
  clear hth h0
  go_enter Tryz.func13, Tryz.ntmps13
  go_wp2_with fail
  refine (spot_any _ _ _ _ _ _ _ _ hDle ht0 ht1 (by omega) (by omega)).mono ?_
  rintro e w1 ⟨rfl, hb1⟩
  rw [HSP.out]
  have hv1 := hv.below hb1
  have hm1 := hm.below hb1
  obtain ⟨w2, hrun, hd2, ht2⟩ := run_copy_str (x := s) (off := k) (hd.below hb1) (by omega) (D.length - k) (cap - k) (by omega)
  have hzg : z ≠ g := fun e => hv.apart hd (by decide) (by rw [e]; rfl)
  have hmg : ∀ x, (Value.slice q M.length cap2).ownBlock = some x → ¬ (x = g) := fun x hx e => rows_apart hm hd (by decide) hx (by rw [e]; rfl)
  have hzq : (Value.slice q M.length cap2).ownBlock ≠ some z := hv.apart hm (by decide)
  have hv2 := hv1.touch ht2 hzg
  have hm2 : OwnM w2 B (.slice q M.length cap2) M := owns_touch hm1 ht2 hmg
  have htt : Touch w w2 (PutS (.slice (some ⟨g, 0, none⟩) D.length cap) (.slice q M.length cap2)) := (touch_of_below hb1 _).trans (ht2.mono (fun x _ hx => .inl (by rw [hx]; rfl)))
  obtain ⟨g0, g1, g2⟩ := hv1.cells
  obtain ⟨d0, d1, d2⟩ := hv2.cells
  have hat : Marking w w2 B z o (.slice (some ⟨g, 0, none⟩) D.length cap) (.slice q M.length cap2) E (spl D k s) M (k / 256) (k / 256) := by
    unfold Marking
    rw [mk_none _ _ _ _ (Nat.le_refl _)]
    exact ⟨hv2, hd2, hm2, htt⟩
  have HAT := Lib.hid hat
  have HZQ := Lib.hid hzq
  clear hat hv hd hm hv1 hm1 hb1 hv2 hm2 hd2 ht2 htt hmg hzq c0 c1 c2 d0 d1 d2
  have e5 : decide ((k : Int) < 0) = false := decide_eq_false (by omega)
  have hks : k + s.size ≤ D.length := by omega
  clear ht0 ht1 h1 h2
  go_wp2_with fail
  go_loopw [8] (fun i wr => ∃ j : Nat, k / 256 ≤ j ∧ j ≤ (k + s.size - 1) / 256 + 1 ∧ i = .int .i64 j ∧ Hid (Marking w wr B z o (.slice (some ⟨g, 0, none⟩) D.length cap) (.slice q M.length cap2) E (spl D k s) M (k / 256) j)) (fun i _ => (k + s.size - 1) / 256 + 1 - (intOf i).toNat)
  case atStart => exact ⟨k / 256, Nat.le_refl _, by omega, by go_num, HAT⟩
  case round =>
    obtain ⟨j, hj1, hj2, rfl, hat⟩ := hrel
    obtain ⟨c0, c1, c2⟩ := hat.out.var.cells
    by_cases hl1 : j ≤ (k + s.size - 1) / 256
    · by_cases hl2 : j < M.length
      · obtain ⟨h, rfl⟩ : ∃ h, q = some ⟨h, 0, none⟩ := by
          rcases hat.out.m.2 with ⟨_, e⟩ | ⟨g, _, _, e, _⟩
          · rw [mk_length] at e; omega
          · simp only [Value.slice.injEq] at e; exact ⟨g, e.1⟩
        have hml := mk_length M E (k / 256) j
        have c3 : wr.cell? ⟨h, j, none⟩ = some (.int .u64 ((mk M E (k / 256) j)[j]'(by omega))) := by
          have hmm := hat.out.m
          unfold OwnM at hmm
          rw [hml] at hmm
          rw [hmm.cellAt j (by omega)]
          simp [mC, hml, hl2]
        have c4 : wr.frozen? ⟨h, j, none⟩ = false := by
          have hmm := hat.out.m
          unfold OwnM at hmm
          rw [hml] at hmm
          exact hmm.frozenAt j
        generalize (mk M E (k / 256) j)[j]'(by omega) = X at c3
        clear hml
        have hb1 : decide ((j : Int) ≤ ((k : Int) + s.size - 1) / 256) = true := decide_eq_true (by omega)
        go_wp2_with fail
        go_region
        all_goals go_wp2_with fail
        exact ⟨⟨j + 1, by omega, by omega, by go_num, hat.out.step hj1 HZQ.out⟩, by simp [intOf]; omega⟩
      · have hb1 : decide ((j : Int) ≤ ((k : Int) + s.size - 1) / 256) = true := decide_eq_true (by omega)
        have hb2 : decide ((j : Int) < (M.length : Int)) = false := decide_eq_false (by omega)
        have hb3 : decide (j < M.length) = false := decide_eq_false (by omega)
        go_wp2_with fail
        go_ret
        have e2 : mk M E (k / 256) ((k + s.size - 1) / 256 + 1) = mk M E (k / 256) j := by rw [mk_over _ _ _ _ (by omega), mk_over _ _ _ j (by omega)]
        refine ⟨rfl, ?_⟩
        rw [e2]
        exact hat.out
    · have hb1 : decide ((j : Int) ≤ ((k : Int) + s.size - 1) / 256) = false := decide_eq_false (by omega)
      go_wp2_with fail
      go_ret
      obtain rfl : j = (k + s.size - 1) / 256 + 1 := by omega
      exact ⟨rfl, hat.out⟩
/-- Whatever is put. -/
theorem rput_any (z o B : Nat) (dv mv : Value) (E t : Int) (D : List UInt8) (M : List Int) (s : ByteArray) (w : World) (hv : RamAt w z o dv mv E) (hd : OwnD w B dv D) (hm : OwnM w B mv M) (ht0 : 0 ≤ t) (ht1 : t ≤ 18446744073709551615)
    (hs : s.size ≤ 9223372036854775807) : Calls Tryz.prog 13 #[.pointer (some ⟨z, o, none⟩), .int .u64 t, .string s] w (Put w B z o dv mv E D M t s) := by
  by_cases h0 : s.size = 0
  · obtain rfl : s = ⟨#[]⟩ := by
      apply ByteArray.ext
      exact Array.eq_empty_of_size_eq_zero h0
    refine (rput_empty z o t w).mono ?_
    rintro e w' ⟨rfl, rfl⟩
    refine ⟨by simp [putB, h0], ?_⟩
    rw [show putD D t ⟨#[]⟩ = D from if_neg (by simp [h0]), show putM D.length M E t ⟨#[]⟩ = M from if_neg (by simp [h0])]
    exact PutAt.same hv hd hm (Below.refl _ _)
  · rcases Bool.eq_false_or_eq_true (thereB D.length t s.size) with h | h
    · refine (rput_yes z o B dv mv E t D M s w hv hd hm ht0 ht1 hs h0 h).mono ?_
      rintro e w' ⟨rfl, hp⟩
      refine ⟨by simp [putB, h], ?_⟩
      rw [show putD D t s = _ from if_pos ⟨h0, h⟩, show putM D.length M E t s = _ from if_pos ⟨h0, h⟩]
      exact hp
    · obtain ⟨p, cap, rfl⟩ := owns_shape hd
      obtain ⟨q, cap2, rfl⟩ := owns_shape hm
      refine (rput_no z o p D.length cap q M.length cap2 E t s w hv hd.at.le ht0 ht1 hs h0 h).mono ?_
      rintro e w' ⟨rfl, hb⟩
      refine ⟨by simp [putB, h, h0], ?_⟩
      rw [show putD D t s = D from if_neg (by simp [h]), show putM D.length M E t s = M from if_neg (by simp [h])]
      exact PutAt.same hv hd hm hb
end Go.Proofs.YtjohcpokmdofkaaGreatDoor
