/- A log that is written record by record, and made safe on the way: walked. -/
import Derived.Test.YtkecjopojnllnaaWD
import Derived.Test.YtkecjopojnllnaaM22
namespace Go.Proofs.Ytkecjopojnllnaa
open Go.RowKit Go.Deep Go.Joins

abbrev pW : ByteArray := ⟨#[119]⟩
theorem prefW : prefB pW = true := by decide +kernel
theorem putsF_length (U : List ByteArray) : ∀ e, (putsF e U).length = U.length := by
  induction U with
  | nil => intro e; rfl
  | cons s U ih => intro e; show (putsF _ U).length + 1 = U.length + 1; rw [ih]
theorem putsF_mem (U : List ByteArray) : ∀ e, ∀ x ∈ putsF e U, ∃ s ∈ U, x.bytes = frameB s := by
  induction U with
  | nil => intro e x hx; cases hx
  | cons s U ih =>
    intro e x hx
    rcases List.mem_cons.1 hx with rfl | hx
    · exact ⟨s, List.mem_cons_self, rfl⟩
    · obtain ⟨t, h1, h2⟩ := ih _ x hx
      exact ⟨t, List.mem_cons_of_mem _ h1, h2⟩
theorem WSt.fits {p : ByteArray} {fs : List Fl} {Q : List ByteArray} {c m : Nat} (h : WSt p fs Q c m) : FitsF fs 31 Q.length ∧ FitsS fs := by
  rcases h with ⟨rfl, rfl, _⟩ | ⟨Gs, S, U, hl, hq, _, _⟩
  · exact ⟨⟨Nat.zero_le _, (fun f hf => by cases hf), (fun f hf => by cases hf), (fun f hf => by cases hf)⟩, ⟨(fun f hf => by cases hf), (fun f hf => by cases hf)⟩⟩
  · have hsz := hl.size
    rw [catL_append, List.length_append] at hsz
    have hUQ : U.length ≤ Q.length := by rw [← hq]; simp only [List.length_append]; omega
    have key : ∀ f ∈ fs, f.safe.size ≤ 65536 ∧ f.opens.length ≤ Q.length ∧ ∀ x ∈ f.opens, x.bytes.size ≤ 131081 := fun f hf => by
      rcases (hl.mem f).1 hf with ⟨i, hi, rfl⟩ | rfl
      · exact ⟨by show (ofL (catL Gs[i])).size ≤ _; rw [ofL_size]; exact (hl.full _ (List.getElem_mem hi)).2.2, Nat.zero_le _, fun x hx => by cases hx⟩
      · refine ⟨by show (ofL (catL S)).size ≤ _; rw [ofL_size]; omega, by show (putsF _ U).length ≤ _; rw [putsF_length]; exact hUQ, fun x hx => ?_⟩
        obtain ⟨s, h1, h2⟩ := putsF_mem U _ x hx
        have := hl.short s (List.mem_append_right _ h1)
        rw [h2, frameB_size]
        omega
    exact ⟨⟨by rw [hl.len]; have := hl.few; omega, fun f hf => (key f hf).2.1, fun f hf => by have := (key f hf).1; omega, fun f hf x hx => by have := (key f hf).2.2 x hx; omega⟩,
      ⟨fun f hf => by have := (key f hf).1; omega, fun f hf x hx => by have := (key f hf).2.2 x hx; omega⟩⟩
theorem WSt.fine {p : ByteArray} {l : List Rw} {Q : List ByteArray} {c m : Nat} (h : WSt p (l.map core) Q c m) (hQ : Q.length ≤ 1000) : Fine l := fine_of h.fits.1 h.fits.2 (by omega) (by omega)
theorem appQ_len {p : ByteArray} {l : List Rw} {r : ByteArray} {P : List DOp} {err : Int} (h : AppQ p l [r] P err) : P.length ≤ 2 := by
  rcases h with ⟨_, rfl, _⟩ | ⟨_, n, s, _, h⟩
  · exact Nat.zero_le _
  rcases h with ⟨_, rfl, _⟩ | ⟨_, a, h, rfl, _⟩ | ⟨_, _, rfl, _⟩
  · exact Nat.zero_le _
  · have hrun : apRun p n s (framesOf [r]) = apOne p ⟨[], n, s⟩ (frameB r) := rfl
    rw [hrun] at h
    unfold apOne at h
    split at h
    · split at h
      · cases h
      · rw [← Option.some.inj h]; exact Nat.le_refl 2
    · rw [← Option.some.inj h]; exact Nat.le_succ 1
  · exact Nat.zero_le _
theorem sync_w (l : List Rw) (v : Value) (W : World) (B : Nat) (Q : List ByteArray) (c m : Nat) (own : OwnR W B v l) (st : WSt pW (l.map core) Q c m) (hQ : Q.length ≤ 1000) :
    Calls Try.prog 18 #[.agg #[v], .string pW] W fun e w' => ∃ (P : List DOp) (pv : Value) (gs : List Fl), e = .returned (.tuple #[pv, .int .i64 0]) ∧ Reads w' pv 4 P.length (dopCells P) ∧ P.length ≤ 2 ∧ Exec (l.map core) P gs ∧ WSt pW gs Q Q.length m ∧ Below W.heap.size W w' := by
  refine (sync_told l v pW W (reads_of_owns own.1) own.opens (by have := (st.fine hQ).few; omega)).mono ?_
  rintro e w' ⟨P, err, pv, hq, rfl, hr, hb⟩
  obtain ⟨rfl, gs, h1, h2⟩ := sync_st prefW st hq
  refine ⟨P, pv, gs, rfl, hr, ?_, h1, h2, hb⟩
  rcases hq with ⟨_, rfl, _⟩ | ⟨_, ⟨_, rfl⟩ | ⟨_, _, _, rfl⟩, _⟩
  · exact Nat.zero_le _
  · exact Nat.zero_le _
  · exact Nat.le_succ 1
theorem app_w (l : List Rw) (v : Value) (W : World) (B : Nat) (Q : List ByteArray) (c m : Nat) (r : ByteArray) (rv : Value) (own : OwnR W B v l) (st : WSt pW (l.map core) Q c m) (hQ : Q.length ≤ 1000) (hm : m ≤ 30) (hz : r.size ≤ 40000) (hrv : Reads W rv 1 1 (strs [r])) :
    Calls Try.prog 16 #[.agg #[v], .string pW, rv] W fun e w' => ∃ (P : List DOp) (pv : Value) (gs : List Fl), e = .returned (.tuple #[pv, .int .i64 0]) ∧ Reads w' pv 4 P.length (dopCells P) ∧ P.length ≤ 2 ∧ Exec (l.map core) P gs ∧ WSt pW gs (Q ++ [r]) c (m + 1) ∧ Below W.heap.size W w' := by
  have hf := st.fine hQ
  refine (app_told l v pW W rv [r] (reads_of_owns own.1) own.opens hf.smalls (by have := hf.few; omega) hrv (by simp) (fun x hx => by rw [List.mem_singleton] at hx; rw [hx]; omega)).mono ?_
  rintro e w' ⟨P, err, pv, hq, rfl, hr, hb⟩
  obtain ⟨rfl, gs, h1, h2⟩ := app_st prefW st hz hm hq
  exact ⟨P, pv, gs, rfl, hr, appQ_len hq, h1, h2, hb⟩
theorem do_w (l : List Rw) (v : Value) (W : World) (B : Nat) (Q : List ByteArray) (c m : Nat) (P : List DOp) (pv : Value) (gs : List Fl) (own : OwnR W B v l) (st : WSt pW (l.map core) Q c m) (hQ : Q.length ≤ 1000) (hr : Reads W pv 4 P.length (dopCells P)) (hn : P.length ≤ 1000000) (hx : Exec (l.map core) P gs) :
    Calls Try.prog 25 #[.agg #[v], pv] W fun e w' => ∃ v' l', e = .returned (.tuple #[.agg #[v'], .int .i64 (P.length : Int), .int .i64 0]) ∧ l'.map core = gs ∧ OwnR w' W.heap.size v' l' ∧ Below W.heap.size W w' := by
  have h := do2_any l v P pv 31 Q.length W (reads_of_owns own.1) own.opens hr st.fits.1 st.fits.2 (by omega) (by omega) (fun o ho => by have := exec_names P hx o ho; omega)
  unfold Exec at hx
  rw [hx] at h
  exact h
/-- The log on the way: so many records are written. -/
structure WIn (w wr : World) (R : List ByteArray) (k0 k : Nat) (v : Value) (l : List Rw) (c : Nat) : Prop where
  res : ∃ x, VarAt wr w.heap.size x
  disk : VarAt wr (w.heap.size + 1) v
  own : OwnR wr (w.heap.size + 2) v l
  st : WSt pW (l.map core) (R.take k) c (k + 1)
  below : Below w.heap.size w wr
theorem WIn.next {w wr w2 : World} {R : List ByteArray} {k0 k k' c c' B2 : Nat} {v v2 : Value} {l l2 : List Rw} (h : WIn w wr R k0 k v l c) (hb : Below wr.heap.size wr w2) (own2 : OwnR w2 B2 v2 l2) (hB : wr.heap.size ≤ B2)
    (st : WSt pW (l2.map core) (R.take k') c' (k' + 1)) : WIn w ((w2.alloc (.cells #[v2] 24)).setCell ⟨w.heap.size + 1, 0, none⟩ v2) R k0 k' v2 l2 c' := by
  obtain ⟨x, hx⟩ := h.res
  have hd := h.disk
  have hlt := hd.lt
  refine ⟨⟨x, ((hx.keep hb).old _).far (by omega) 0 _⟩, ((hd.keep hb).old _).same _, ?_, st, ?_⟩
  · exact ((own2.below (below1 _ _)).mono (by omega)).set ((hd.keep hb).old _) _
  · exact nb_set (by omega) (nb_alloc (below_then h.below hb) _) 0 _
set_option maxRecDepth 100000 in
set_option maxHeartbeats 8000000 in
theorem written_any (R : List ByteArray) (rv : Value) (k0 : Nat) (w : World) (hr : Reads w rv 1 R.length (strs R)) (hR : R.length ≤ 30) (hs : ∀ r ∈ R, r.size ≤ 40000) (hk0 : k0 ≤ R.length) :
    Calls Try.prog 27 #[rv, .int .i64 (k0 : Int)] w fun e w' => ∃ v l c, e = .returned (.tuple #[.agg #[v], .bool true]) ∧ OwnR w' w.heap.size v l ∧ WSt pW (l.map core) R c (R.length + 1) ∧ k0 ≤ c ∧ Below w.heap.size w w' := by
  obtain ⟨q, cap, rfl⟩ := hr.is
  have HR := Lib.hid hr
  have HS := Lib.hid hs
  clear hr hs
  go_enter Try.func27, Try.ntmps27
  go_wp2_with fail
  generalize hwA : (w.alloc (Obj.cells #[.slice none 0 0] 24)).alloc (Obj.cells #[.slice none 0 0] 24) = wA
  have hin : WIn w wA R k0 0 (.slice none 0 0) [] 0 := by
    subst hwA
    refine ⟨⟨_, (VarAt.new _ _).old _⟩, VarAt.new2 _ _ _, ⟨World.ownsRow_nil _ _ _ _, fun r hr => by cases hr⟩, .inl ⟨rfl, rfl, rfl⟩, below2 w _ _⟩
  have HIN := Lib.hid hin
  clear hwA hin
  go_loopw [7] (fun i wr => ∃ (k : Nat) (v : Value) (l : List Rw) (c : Nat), k ≤ R.length ∧ i = .int .i64 (k : Int) ∧ Hid (WIn w wr R k0 k v l c) ∧ Hid (k0 < k → k0 ≤ c)) (fun i _ => R.length + 1 - (intOf i).toNat)
  case atStart => exact ⟨0, _, [], 0, Nat.zero_le _, rfl, HIN.out, fun h => absurd h (Nat.not_lt_zero _)⟩
  case round =>
    obtain ⟨k, v, l, c, hk, rfl, hin, hsafe⟩ := hrel
    obtain ⟨q1, c1, rfl⟩ := owns_shape hin.out.own.1
    have d1 := hin.out.disk.c
    have d2 := hin.out.disk.f
    have d3 := hin.out.disk.lt
    have HQ := Lib.hid (show (R.take k).length = k by rw [List.length_take]; omega)
    by_cases hks : k = k0
    · have HKS := Lib.hid hks
      have p5 : ((k : Int) == (k0 : Int)) = true := by rw [hks]; exact beq_self_eq_true _
      clear hks
      go_upto_region 7 with (first
        | (go_at_call 18; (with_reducible refine (sync_w l _ _ _ _ _ _ hin.out.own hin.out.st (by rw [HQ.out]; omega)).mono ?_); rintro e w1 ⟨P1, pv1, gs1, rfl, hr1, hn1, hx1, hst1, hb1⟩; have HR1 := Lib.hid hr1; have HN1 := Lib.hid hn1; have HX1 := Lib.hid hx1; have HST1 := Lib.hid hst1; have HB1 := Lib.hid hb1; have e1 := (hin.out.disk.keep hb1).c; clear hr1 hn1 hx1 hst1 hb1)
        | fail)
      go_upto_region 8 with (first
        | (go_at_call 25; (with_reducible refine (do_w l _ _ _ _ _ _ P1 pv1 gs1 (hin.out.own.below HB1.out) hin.out.st (by rw [HQ.out]; omega) HR1.out (by have := HN1.out; omega) HX1.out).mono ?_); rintro e w2 ⟨v2, l2, rfl, hc2, hown2, hb2⟩; obtain ⟨q2, c2, rfl⟩ := owns_shape hown2.1; have HC2 := Lib.hid hc2; have HOWN2 := Lib.hid hown2; have HB2 := Lib.hid (below_then HB1.out hb2); clear hc2 hown2 hb2)
        | fail)
      have N1 := VarAt.new w2 (.slice q2 l2.length c2)
      have D1 := (hin.out.disk.keep HB2.out).old (.cells #[.slice q2 l2.length c2] 24)
      have WN := Lib.hid (hin.out.next (k' := k) (c' := k) HB2.out HOWN2.out HB1.out.size (by rw [HC2.out]; have := HST1.out; rw [HQ.out] at this; exact this))
      have HSF := Lib.hid (show k0 ≤ k → k0 ≤ k from id)
      generalize w2.alloc (.cells #[.slice q2 l2.length c2] 24) = w3 at N1 D1 WN ⊢
      generalize w2.heap.size = N at N1 ⊢
      have n1 := N1.c
      have n2 := N1.f
      have m1 := D1.c
      have m2 := D1.f
      have m3 := D1.lt
      clear N1 D1 HOWN2 HB2 HC2 HB1 HR1 HN1 HX1 HST1 d1 d2 d3 e1 hin hsafe p5
      go_upto_region 11 with fail
      clear n1 n2 m1 m2 m3
      generalize w3.setCell ⟨w.heap.size + 1, 0, none⟩ (.slice q2 l2.length c2) = w4 at WN ⊢
      have a1 := WN.out.disk.c
      have a2 := WN.out.disk.f
      have a3 := WN.out.disk.lt
      by_cases hend : k = R.length
      · have p11 : ((k : Int) == (R.length : Int)) = true := by rw [hend]; exact beq_self_eq_true _
        have HE := Lib.hid hend
        clear hend
        obtain ⟨x, hx⟩ := WN.out.res
        have x1 := hx.c
        have x2 := hx.f
        have x3 := hx.lt
        have HX := Lib.hid hx
        clear hx
        go_wp2_with fail
        have y1 := (HX.out.same (.slice q2 l2.length c2)).c
        exact bodyPost_ret (v := .tuple #[.agg #[.slice q2 l2.length c2], .bool true]) (by simp [results, Try.results27, go_sem, y1]) rfl
          ⟨.slice q2 l2.length c2, l2, k, rfl, (WN.out.own.mono (by omega)).set HX.out _, by have h := WN.out.st; rw [HE.out, List.take_length] at h; rw [← HE.out] at h ⊢; exact h, HSF.out (by have := HE.out; omega), nb_set (Nat.le_refl _) WN.out.below 0 _⟩
      · have hlt : k < R.length := by omega
        have p11 : ((k : Int) == (R.length : Int)) = false := by rw [beq_eq_false_iff_ne]; omega
        clear hend
        obtain ⟨b1, off1, cap1, hv, _, _, hb1, c0⟩ := (HR.out.below WN.out.below).str k hlt
        obtain ⟨rfl, rfl⟩ : q = some ⟨b1, off1, none⟩ ∧ cap = cap1 := by simpa using hv
        have HT := Lib.hid (List.take_succ_eq_append_getElem hlt)
        have HZ := Lib.hid (HS.out R[k] (List.getElem_mem hlt))
        generalize R[k] = s at c0 HT HZ
        clear hv
        have HSS := Lib.hid (show ∀ W, Below w4.heap.size w4 W → W.cell? ⟨w.heap.size + 1, 0, none⟩ = some (.slice q2 l2.length c2) ∧ W.cell? ⟨b1, off1 + k, none⟩ = some (.string s) from fun W h => ⟨below_cell h a1, below_cell h c0⟩)
        have hrv : Reads (w4.alloc (.cells #[.string s] 9)) (.slice (some ⟨w4.heap.size, 0, none⟩) 1 1) 1 1 (strs [s]) := by
          refine ⟨rfl, .inr ⟨_, 1, rfl, Nat.le_refl _, by decide, fun j u hu => ?_⟩⟩
          rw [add_lit, Nat.zero_add, cell_of_row _ _ _ _ 9 _ (heap_alloc_new w4 _)]
          simpa [strs] using hu
        have H16 := Lib.hid (fun (W : World) (hb : Below (w4.alloc (.cells #[.string s] 9)).heap.size (w4.alloc (.cells #[.string s] 9)) W) => app_w l2 (.slice q2 l2.length c2) W _ _ k (k + 1) s _ ((WN.out.own.below (below1 _ _)).below hb) WN.out.st (by rw [HQ.out]; omega) (by omega) HZ.out (hrv.below hb))
        have hs5 := HSS.out w4 (nb_refl _)
        clear hrv
        go_upto_region 12 with fail
        go_region_held3 (fun W => W.cell? ⟨w.heap.size + 1, 0, none⟩ = some (.slice q2 l2.length c2) ∧ W.cell? ⟨b1, off1 + k, none⟩ = some (.string s)) (first | exact hs5 | exact HSS.out _ N5.out | go_keep) (first
          | (go_at_call 16; (with_reducible refine (H16.out _ ?bel).mono ?_); (case bel => (repeat (first | with_reducible exact nb_refl _ | with_reducible refine nb_drew ?_))); rintro e w5 ⟨P5, pv5, gs5, rfl, hr5, hn5, hx5, hst5, hb5⟩; have N5 := Lib.hid (show Below w4.heap.size w4 w5 from below_then (by (repeat (first | with_reducible exact nb_refl _ | with_reducible refine nb_drew ?_ | with_reducible refine nb_alloc ?_ _))) hb5); have HR5 := Lib.hid hr5; have HN5 := Lib.hid hn5; have HX5 := Lib.hid hx5; have HST5 := Lib.hid hst5; clear hr5 hn5 hx5 hst5 hb5)
          | fail)
        have E5 := (WN.out.disk.keep N5.out).c
        go_upto_region 14 with (first
          | (go_at_call 25; (with_reducible refine (do_w l2 _ _ _ _ _ _ P5 pv5 gs5 (WN.out.own.below N5.out) WN.out.st (by rw [HQ.out]; omega) HR5.out (by have := HN5.out; omega) HX5.out).mono ?_); rintro e w6 ⟨v6, l6, rfl, hc6, hown6, hb6⟩; obtain ⟨q6, c6, rfl⟩ := owns_shape hown6.1; have HC6 := Lib.hid hc6; have HOWN6 := Lib.hid hown6; have HB6 := Lib.hid (below_then N5.out hb6); clear hc6 hown6 hb6)
          | fail)
        have N6 := VarAt.new w6 (.slice q6 l6.length c6)
        have D6 := (WN.out.disk.keep HB6.out).old (.cells #[.slice q6 l6.length c6] 24)
        have WN6 := Lib.hid (WN.out.next (k' := k + 1) (c' := k) HB6.out HOWN6.out N5.out.size (by rw [HC6.out, HT.out]; exact HST5.out))
        generalize w6.alloc (.cells #[.slice q6 l6.length c6] 24) = w7 at N6 D6 WN6 ⊢
        generalize w6.heap.size = N7 at N6 ⊢
        have n1 := N6.c
        have n2 := N6.f
        have z1 := D6.c
        have z2 := D6.f
        have z3 := D6.lt
        clear N6 D6 HOWN6 HB6 HC6 HR5 HN5 HX5 HST5 E5 H16 hs5 HSS c0 hb1
        go_wp2_with fail
        go_roundw
        case rel => exact ⟨k + 1, _, l6, k, by omega, by go_num, WN6.out, fun _ => HSF.out (by omega)⟩
        case measure => simp [intOf]; omega
    · have p5 : ((k : Int) == (k0 : Int)) = false := by rw [beq_eq_false_iff_ne]; omega
      have HSF := Lib.hid (show k0 ≤ k → k0 ≤ c from fun h => hsafe.out (by omega))
      clear hks hsafe
      go_upto_region 11 with fail
      by_cases hend : k = R.length
      · have p11 : ((k : Int) == (R.length : Int)) = true := by rw [hend]; exact beq_self_eq_true _
        have HE := Lib.hid hend
        clear hend
        obtain ⟨x, hx⟩ := hin.out.res
        have x1 := hx.c
        have x2 := hx.f
        have x3 := hx.lt
        have HX := Lib.hid hx
        clear hx
        go_wp2_with fail
        have y1 := (HX.out.same (.slice q1 l.length c1)).c
        exact bodyPost_ret (v := .tuple #[.agg #[.slice q1 l.length c1], .bool true]) (by simp [results, Try.results27, go_sem, y1]) rfl
          ⟨.slice q1 l.length c1, l, c, rfl, (hin.out.own.mono (by omega)).set HX.out _, by have h := hin.out.st; rw [HE.out, List.take_length] at h; rw [← HE.out] at h ⊢; exact h, HSF.out (by have := HE.out; omega), nb_set (Nat.le_refl _) hin.out.below 0 _⟩
      · have hlt : k < R.length := by omega
        have p11 : ((k : Int) == (R.length : Int)) = false := by rw [beq_eq_false_iff_ne]; omega
        clear hend
        obtain ⟨b1, off1, cap1, hv, _, _, hb1, c0⟩ := (HR.out.below hin.out.below).str k hlt
        obtain ⟨rfl, rfl⟩ : q = some ⟨b1, off1, none⟩ ∧ cap = cap1 := by simpa using hv
        have HT := Lib.hid (List.take_succ_eq_append_getElem hlt)
        have HZ := Lib.hid (HS.out R[k] (List.getElem_mem hlt))
        generalize R[k] = s at c0 HT HZ
        clear hv
        have HSS := Lib.hid (show ∀ W, Below wr.heap.size wr W → W.cell? ⟨w.heap.size + 1, 0, none⟩ = some (.slice q1 l.length c1) ∧ W.cell? ⟨b1, off1 + k, none⟩ = some (.string s) from fun W h => ⟨below_cell h d1, below_cell h c0⟩)
        have hrv : Reads (wr.alloc (.cells #[.string s] 9)) (.slice (some ⟨wr.heap.size, 0, none⟩) 1 1) 1 1 (strs [s]) := by
          refine ⟨rfl, .inr ⟨_, 1, rfl, Nat.le_refl _, by decide, fun j u hu => ?_⟩⟩
          rw [add_lit, Nat.zero_add, cell_of_row _ _ _ _ 9 _ (heap_alloc_new wr _)]
          simpa [strs] using hu
        have H16 := Lib.hid (fun (W : World) (hb : Below (wr.alloc (.cells #[.string s] 9)).heap.size (wr.alloc (.cells #[.string s] 9)) W) => app_w l (.slice q1 l.length c1) W _ _ c (k + 1) s _ ((hin.out.own.below (below1 _ _)).below hb) hin.out.st (by rw [HQ.out]; omega) (by omega) HZ.out (hrv.below hb))
        have hs5 := HSS.out wr (nb_refl _)
        clear hrv
        go_upto_region 12 with fail
        go_region_held3 (fun W => W.cell? ⟨w.heap.size + 1, 0, none⟩ = some (.slice q1 l.length c1) ∧ W.cell? ⟨b1, off1 + k, none⟩ = some (.string s)) (first | exact hs5 | exact HSS.out _ N5.out | go_keep) (first
          | (go_at_call 16; (with_reducible refine (H16.out _ ?bel).mono ?_); (case bel => (repeat (first | with_reducible exact nb_refl _ | with_reducible refine nb_drew ?_))); rintro e w5 ⟨P5, pv5, gs5, rfl, hr5, hn5, hx5, hst5, hb5⟩; have N5 := Lib.hid (show Below wr.heap.size wr w5 from below_then (by (repeat (first | with_reducible exact nb_refl _ | with_reducible refine nb_drew ?_ | with_reducible refine nb_alloc ?_ _))) hb5); have HR5 := Lib.hid hr5; have HN5 := Lib.hid hn5; have HX5 := Lib.hid hx5; have HST5 := Lib.hid hst5; clear hr5 hn5 hx5 hst5 hb5)
          | fail)
        have E5 := (hin.out.disk.keep N5.out).c
        go_upto_region 14 with (first
          | (go_at_call 25; (with_reducible refine (do_w l _ _ _ _ _ _ P5 pv5 gs5 (hin.out.own.below N5.out) hin.out.st (by rw [HQ.out]; omega) HR5.out (by have := HN5.out; omega) HX5.out).mono ?_); rintro e w6 ⟨v6, l6, rfl, hc6, hown6, hb6⟩; obtain ⟨q6, c6, rfl⟩ := owns_shape hown6.1; have HC6 := Lib.hid hc6; have HOWN6 := Lib.hid hown6; have HB6 := Lib.hid (below_then N5.out hb6); clear hc6 hown6 hb6)
          | fail)
        have N6 := VarAt.new w6 (.slice q6 l6.length c6)
        have D6 := (hin.out.disk.keep HB6.out).old (.cells #[.slice q6 l6.length c6] 24)
        have WN6 := Lib.hid (hin.out.next (k' := k + 1) (c' := c) HB6.out HOWN6.out N5.out.size (by rw [HC6.out, HT.out]; exact HST5.out))
        generalize w6.alloc (.cells #[.slice q6 l6.length c6] 24) = w7 at N6 D6 WN6 ⊢
        generalize w6.heap.size = N7 at N6 ⊢
        have n1 := N6.c
        have n2 := N6.f
        have z1 := D6.c
        have z2 := D6.f
        have z3 := D6.lt
        clear N6 D6 HOWN6 HB6 HC6 HR5 HN5 HX5 HST5 E5 H16 hs5 HSS c0 hb1
        go_wp2_with fail
        go_roundw
        case rel => exact ⟨k + 1, _, l6, c, by omega, by go_num, WN6.out, fun _ => HSF.out (by omega)⟩
        case measure => simp [intOf]; omega
end Go.Proofs.Ytkecjopojnllnaa
