/- WalAnew walked. -/
import Derived.Test.YtkecjopojnllnaaWM
namespace Go.Proofs.Ytkecjopojnllnaa
open Go.RowKit Go.Deep Go.Joins

set_option maxRecDepth 100000 in
set_option maxHeartbeats 2000000 in
theorem strs_some (P R : List ByteArray) (v v' : Value) (w : World) (hr : Reads w v 1 P.length (strs P)) (hr' : Reads w v' 1 R.length (strs R)) (hm : P.length ≤ 9223372036854775807) :
    Calls Try.prog 13 #[v, v'] w fun e w' => ∃ B : Bool, e = .returned (.bool B) ∧ Below w.heap.size w w' := by
  obtain ⟨q, cap, rfl⟩ := hr.is
  obtain ⟨q', cap', rfl⟩ := hr'.is
  by_cases hl : P.length = R.length
  · have HL := Lib.hid hl
    have p0 : ((P.length : Int) != (R.length : Int)) = false := by rw [hl]; simp
    clear hl
    go_enter Try.func13, Try.ntmps13
    go_wp2_with fail
    go_loopw [5] (fun i wr => ∃ k : Nat, k ≤ P.length ∧ i = .int .i64 (k : Int) ∧ Hid (Below w.heap.size w wr)) (fun i _ => P.length - (intOf i).toNat)
    case atStart => exact ⟨0, Nat.zero_le _, rfl, Lib.hid (Below.refl _ _)⟩
    case round =>
      obtain ⟨k, hk, rfl, hbl⟩ := hrel
      by_cases hlt : k < P.length
      · have hlt2 : k < R.length := by rw [← HL.out]; exact hlt
        obtain ⟨b1, off1, cap1, hv, _, _, hb1, x0⟩ := (hr.below hbl.out).str k hlt
        obtain ⟨rfl, rfl⟩ : q = some ⟨b1, off1, none⟩ ∧ cap = cap1 := by simpa using hv
        obtain ⟨b2, off2, cap2, hv2, _, _, hb2, y0⟩ := (hr'.below hbl.out).str k hlt2
        obtain ⟨rfl, rfl⟩ : q' = some ⟨b2, off2, none⟩ ∧ cap' = cap2 := by simpa using hv2
        obtain ⟨o, ho⟩ : ∃ o, P[k] = o := ⟨_, rfl⟩
        obtain ⟨u, hu⟩ : ∃ u, R[k] = u := ⟨_, rfl⟩
        rw [ho] at x0
        rw [hu] at y0
        clear hv hv2 ho hu
        rcases Bool.eq_false_or_eq_true (o.toList == u.toList) with he | he
        · go_wp2_with fail
          go_quiet (fail)
          go_wp2_with fail
          exact ⟨⟨k + 1, by omega, by go_num, Lib.hid (hbl.out.trans ⟨rfl, rfl, rfl, Nat.le_refl _, fun _ _ => rfl⟩)⟩, by simp [intOf]; omega⟩
        · go_wp2_with fail
          go_quiet (fail)
          go_wp2_with fail
          go_ret
          exact ⟨false, rfl, hbl.out.trans ⟨rfl, rfl, rfl, Nat.le_refl _, fun _ _ => rfl⟩⟩
      · obtain rfl : k = P.length := by omega
        go_wp2_with fail
        go_ret
        exact ⟨true, rfl, hbl.out⟩
  · have p0 : ((P.length : Int) != (R.length : Int)) = true := by simp; omega
    clear hl
    go_enter Try.func13, Try.ntmps13
    go_wp2_with fail
    go_ret
    exact ⟨false, rfl, Below.refl _ _⟩
theorem range_only {L : List Nat} {n : Nat} (hL : StrictN L) (h : ∀ m, m ∈ L ↔ m < n) : L = List.range n :=
  strict_unique hL List.pairwise_lt_range (fun m => by rw [h, List.mem_range])
/-- What the law knows of Renew's plan. -/
def Plans (l : List Rw) (F : List ByteArray) (s : ByteArray) (P : List DOp) : Prop :=
  2 ≤ P.length ∧ P.length ≤ 40 ∧ ∀ k, k ≤ P.length → ∃ gs, Exec (l.map core) (P.take k) gs ∧ ∀ l1 : List Rw, l1.map core = gs → ∀ (ft : List Ft) (l2 : List Rw), l2.map core = (crashRows l1 ft).map core → ∀ r pl, OpenIs pW l2 r pl →
    (k ≤ 1 → r = F ∨ (k = 1 ∧ r = [s])) ∧ (2 ≤ k → r = [s])
theorem renew_w (l : List Rw) (v : Value) (W : World) (B : Nat) (F : List ByteArray) (c m : Nat) (s : ByteArray) (own : OwnR W B v l) (st : WSt pW (l.map core) F c m) (hF : F.length ≤ 30) (hc : F.length ≤ c) (hs : s.size ≤ 1099511627776) :
    Calls Try.prog 20 #[.agg #[v], .string pW, .string s] W fun e w' => ∃ (P : List DOp) (pv : Value) (err : Int), e = .returned (.tuple #[pv, .int .i64 err]) ∧ Reads w' pv 4 P.length (dopCells P) ∧ ((err = 2 ∧ P = []) ∨ (err = 0 ∧ Plans l F s P)) ∧ Below W.heap.size W w' := by
  refine (renew_told l v pW W s (reads_of_owns own.1) own.opens (by have := (st.fine (by omega)).few; omega) hs).mono ?_
  rintro e w' ⟨P, err, pv, hq, rfl, hr, hb⟩
  refine ⟨P, pv, err, rfl, hr, ?_, hb⟩
  rcases hq with ⟨h1, _⟩ | ⟨_, h1⟩
  · rw [prefW] at h1; cases h1
  rcases h1 with ⟨_, rfl, rfl⟩ | ⟨hsz, L, hL, hLm, h2⟩
  · exact .inl ⟨rfl, rfl⟩
  · obtain ⟨Os, hb0, hfl⟩ := base_of st hc
    have hfew := hb0.few
    have hrange : L = List.range Os.length := range_only hL fun n => by
      rw [hLm]
      constructor
      · intro h3
        obtain ⟨h4, _⟩ := (hb0.has n _).1 (hasN_Has h3)
        exact h4
      · intro h3
        exact Has_hasN ((hb0.has n _).2 ⟨h3, rfl⟩)
    have hN : nextN L = newN Os := by
      rw [hrange]
      unfold nextN newN
      rcases Nat.eq_zero_or_pos Os.length with h0 | h0
      · rw [h0]; rfl
      · obtain ⟨n, hn⟩ : ∃ n, Os.length = n + 1 := ⟨Os.length - 1, by omega⟩
        rw [hn, List.range_succ, List.getLast?_append, if_neg (by omega)]
        rfl
    have hNl := newN_le Os hfew
    rcases h2 with ⟨h3, _⟩ | ⟨_, rfl, rfl⟩
    · omega
    · refine .inr ⟨rfl, ?_⟩
      rw [hN, hrange]
      have hlen : (firstOps pW s (newN Os) ++ dropNs pW (List.range Os.length)).length = 2 + Os.length := by
        rw [List.length_append]
        unfold dropNs
        rw [List.length_map, List.length_reverse, List.length_range]
        rfl
      refine ⟨by omega, by omega, fun k hk => ?_⟩
      rcases Nat.eq_zero_or_pos k with h0 | h0
      · subst h0
        refine ⟨_, Exec.nil _, fun l1 hl1 ft l2 hl2 r pl ho => ⟨fun _ => ?_, fun e => by omega⟩⟩
        rw [← hl1] at st
        obtain ⟨t1, t2, t3⟩ := (crash_st st ft).2 l2 hl2 r pl ho
        left
        rw [t3]
        exact List.take_of_length_le (by omega)
      · obtain ⟨gs, e1, e2⟩ := renew_k prefW hb0 hsz k h0 (by omega)
        refine ⟨gs, e1, fun l1 hl1 ft l2 hl2 r pl ho => ⟨fun h4 => ?_, (e2 l1 hl1 ft l2 hl2 r pl ho).2⟩⟩
        have hk1 : k = 1 := by omega
        rcases (e2 l1 hl1 ft l2 hl2 r pl ho).1 hk1 with h5 | h5
        · exact .inr ⟨hk1, h5⟩
        · exact .inl (by rw [h5, hfl])
theorem reads_dops {w : World} {ad : Addr} {c : Nat} {P : List DOp} (h : Reads w (.slice (some ad) P.length c) 4 P.length (dopCells P)) (k : Nat) (hk : k ≤ P.length) : Reads w (.slice (some ad) k c) 4 (P.take k).length (dopCells (P.take k)) := by
  have hl : (P.take k).length = k := by rw [List.length_take]; omega
  rw [hl]
  obtain ⟨h0, h1⟩ := h
  rcases h1 with ⟨h1, _⟩ | ⟨ad', cap, h1, h2, h3, h4⟩
  · cases h1
  · injection h1 with a1 a2 a3
    injection a1 with a1
    subst a1 a3
    refine ⟨by rw [dopCells_length, hl], .inr ⟨ad, c, rfl, by omega, h3, fun j u hu => ?_⟩⟩
    refine h4 j u ?_
    have hj := (List.getElem?_eq_some_iff.1 hu).1
    have e : dopCells P = dopCells (P.take k) ++ dopCells (P.drop k) := by
      unfold dopCells
      rw [← List.flatMap_append, List.take_append_drop]
    rw [e, List.getElem?_append_left hj]
    exact hu
/-- A beginning of the plan done. -/
theorem dopart_w (l : List Rw) (v : Value) (W : World) (B : Nat) (F : List ByteArray) (c m : Nat) (s : ByteArray) (P : List DOp) (k : Nat) (pv : Value) (own : OwnR W B v l) (st : WSt pW (l.map core) F c m) (hF : F.length ≤ 30) (hp : Plans l F s P) (hk : k ≤ P.length) (hr : Reads W pv 4 (P.take k).length (dopCells (P.take k))) :
    Calls Try.prog 25 #[.agg #[v], pv] W fun e w' => ∃ (v' : Value) (l' : List Rw), e = .returned (.tuple #[.agg #[v'], .int .i64 (k : Int), .int .i64 0]) ∧ OwnR w' W.heap.size v' l' ∧ FitsF (l'.map core) 100 100 ∧ FitsS (l'.map core) ∧
      (∀ (ft : List Ft) (l2 : List Rw), l2.map core = (crashRows l' ft).map core → ∀ r pl, OpenIs pW l2 r pl → (k ≤ 1 → r = F ∨ (k = 1 ∧ r = [s])) ∧ (2 ≤ k → r = [s])) ∧ Below W.heap.size W w' := by
  obtain ⟨h1, h2, h3⟩ := hp
  obtain ⟨gs, e1, e2⟩ := h3 k hk
  have hl : (P.take k).length = k := by rw [List.length_take]; omega
  refine (do2_any l v (P.take k) pv 31 F.length W (reads_of_owns own.1) own.opens hr st.fits.1 st.fits.2 (by omega) (by omega) (fun o ho => by have := exec_names _ e1 o ho; omega)).mono ?_
  have f1 := doF_fit (P.take k) st.fits.1
  have f2 := doF_small (P.take k) st.fits.2
  unfold Exec at e1
  rw [e1] at f1 f2
  rintro e w' ⟨v', l', rfl, g1, g2, g3⟩
  rw [e1] at g1
  rw [← g1] at f1 f2
  exact ⟨v', l', by rw [e1, hl], g2, fits_more f1 (by omega) (by omega), f2, fun ft l2 hl2 r pl ho => e2 l' g1 ft l2 hl2 r pl ho, g3⟩
theorem crash_any_w (l : List Rw) (v : Value) (W : World) (B : Nat) (ft : List Ft) (fv : Value) (own : OwnR W B v l) (fF : FitsF (l.map core) 100 100) (fS : FitsS (l.map core)) (hf : Reads W fv 3 ft.length (ftCells ft)) (hw : Wholes W ft) (hm : ft.length ≤ 9223372036854775807) :
    Calls Try.prog 28 #[.agg #[v], fv] W fun e w' => ∃ v' l', e = .returned (.agg #[v']) ∧ l'.map core = (crashRows l ft).map core ∧ OwnR w' W.heap.size v' l' ∧ Fine l' ∧ Below W.heap.size W w' := by
  have hfi := fine_of fF fS (by omega) (by omega)
  refine (crash2_any l v ft fv W (reads_of_owns own.1) own.opens hf hw (fun r hr => ⟨(hfi.smalls r hr).2.1, (hfi.smalls r hr).1, fun x hx => (hfi.smalls r hr).2.2 x hx⟩) (by have := hfi.few; omega) hm).mono ?_
  rintro e w' ⟨v', l', rfl, h1, h2, h3⟩
  obtain ⟨c1, c2⟩ := crash_fits fF fS ft
  rw [← h1] at c1 c2
  exact ⟨v', l', rfl, h1, h2, fine_of c1 c2 (by omega) (by omega), h3⟩
end Go.Proofs.Ytkecjopojnllnaa
