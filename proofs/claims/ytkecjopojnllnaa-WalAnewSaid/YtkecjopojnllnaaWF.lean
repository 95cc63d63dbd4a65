/- WalKeeps walked. -/
import Derived.Test.YtkecjopojnllnaaWE
namespace Go.Proofs.Ytkecjopojnllnaa
open Go.RowKit Go.Deep Go.Joins

theorem cutToSz (nb : Int) (s : ByteArray) : (cutTo nb s).size ≤ s.size := by
  unfold cutTo
  rw [ByteArray.size_extract]
  omega
theorem survB (whole : List Bool) (torn nb : Int) : ∀ (l : List Wr) (i : Nat), ∀ x ∈ surv whole torn nb i l, ∃ y ∈ l, x.bytes.size ≤ y.bytes.size := by
  intro l
  induction l with
  | nil => intro i x hx; cases hx
  | cons y l ih =>
    intro i x hx
    rw [surv_cons] at hx
    split at hx
    · rw [List.mem_singleton] at hx
      subst hx
      exact ⟨y, List.mem_cons_self, cutToSz nb y.bytes⟩
    · split at hx
      · rcases List.mem_cons.1 hx with rfl | hx
        · exact ⟨x, List.mem_cons_self, Nat.le_refl _⟩
        · obtain ⟨z, h1, h2⟩ := ih _ x hx
          exact ⟨z, List.mem_cons_of_mem _ h1, h2⟩
      · obtain ⟨z, h1, h2⟩ := ih _ x hx
        exact ⟨z, List.mem_cons_of_mem _ h1, h2⟩
theorem survOf_bytes (r : Rw) (f : Option Ft) : ∀ x ∈ survOf r f, ∃ y ∈ r.opens, x.bytes.size ≤ y.bytes.size := by
  cases f with
  | none => intro x hx; cases hx
  | some f => exact survB _ _ _ _ _
theorem crash_fits {l : List Rw} {n m : Nat} (hF : FitsF (l.map core) n m) (hS : FitsS (l.map core)) (ft : List Ft) : FitsF ((crashRows l ft).map core) n m ∧ FitsS ((crashRows l ft).map core) := by
  have key : ∀ f ∈ (crashRows l ft).map core, f.safe.size ≤ 2097152 ∧ f.opens = [] := fun f hf => by
    obtain ⟨i, hi, e⟩ := List.getElem_of_mem hf
    have hil : i < l.length := by unfold crashRows at hi; rw [List.length_map, List.length_mapIdx] at hi; exact hi
    have h1 := crash_core l ft i hil
    rw [List.getElem?_eq_getElem hi] at h1
    have h2 := Option.some.inj h1
    rw [e] at h2
    subst h2
    have hm : core l[i] ∈ l.map core := List.mem_map_of_mem (List.getElem_mem hil)
    refine ⟨?_, rfl⟩
    refine layB_small _ _ (hS.safe _ hm) (fun x hx => ?_)
    obtain ⟨y, hy, hxy⟩ := survOf_bytes _ _ x hx
    exact Nat.le_trans hxy (hS.bytes _ hm y hy)
  have hlen : ((crashRows l ft).map core).length = (l.map core).length := by unfold crashRows; rw [List.length_map, List.length_mapIdx, List.length_map]
  exact ⟨⟨by rw [hlen]; exact hF.files, fun f hf => by rw [(key f hf).2]; exact Nat.zero_le _, fun f hf => by have := (key f hf).1; omega, fun f hf x hx => by rw [(key f hf).2] at hx; cases hx⟩,
    ⟨fun f hf => (key f hf).1, fun f hf x hx => by rw [(key f hf).2] at hx; cases hx⟩⟩
theorem fewL_length (P : List ByteArray) : (fewL P).length ≤ 30 := few_len P 30
theorem fewL_size (P : List ByteArray) : ∀ r ∈ fewL P, r.size ≤ 40000 := fun r hr => by
  unfold fewL at hr
  have := (List.mem_filter.1 hr).2
  simpa using this
/-- A crash of a log's disk, as a call. -/
theorem crash_w (l : List Rw) (v : Value) (W : World) (B : Nat) (Q : List ByteArray) (c m : Nat) (ft : List Ft) (fv : Value) (own : OwnR W B v l) (st : WSt pW (l.map core) Q c m) (hQ : Q.length ≤ 1000) (hf : Reads W fv 3 ft.length (ftCells ft)) (hw : Wholes W ft) (hm : ft.length ≤ 9223372036854775807) :
    Calls Try.prog 28 #[.agg #[v], fv] W fun e w' => ∃ v' l', e = .returned (.agg #[v']) ∧ l'.map core = (crashRows l ft).map core ∧ OwnR w' W.heap.size v' l' ∧ Below W.heap.size W w' := by
  have hfi := st.fine hQ
  have hfit := st.fits
  refine crash2_any l v ft fv W (reads_of_owns own.1) own.opens hf hw (fun r hr => ⟨?_, ?_, fun x hx => ?_⟩) (by have := hfi.few; omega) hm
  · have := (hfi.smalls r hr).2.1; exact this
  · have := (hfi.smalls r hr).1; exact this
  · have := (hfi.smalls r hr).2.2 x hx; exact this
/-- What the law knows of the crashed disk. -/
structure Crashed (l : List Rw) (Q : List ByteArray) (c : Nat) : Prop where
  uniq : Uniq (l.map core)
  fitF : FitsF (l.map core) 31 Q.length
  fitS : FitsS (l.map core)
  tells : ∀ r pl, OpenIs pW l r pl → c ≤ r.length ∧ r.length ≤ Q.length ∧ r = Q.take r.length
theorem crashed_of {l l' : List Rw} {Q : List ByteArray} {c m : Nat} {ft : List Ft} (st : WSt pW (l.map core) Q c m) (h : l'.map core = (crashRows l ft).map core) : Crashed l' Q c := by
  obtain ⟨h1, h2⟩ := crash_st st ft
  obtain ⟨h3, h4⟩ := crash_fits st.fits.1 st.fits.2 ft
  exact ⟨by rw [h]; exact h1, by rw [h]; exact h3, by rw [h]; exact h4, fun r pl ho => h2 l' h r pl ho⟩
theorem Crashed.fine {l : List Rw} {Q : List ByteArray} {c : Nat} (h : Crashed l Q c) (hQ : Q.length ≤ 1000) : Fine l := fine_of h.fitF h.fitS (by omega) (by omega)
/-- Open of a disk that crashed. -/
theorem open_w (l : List Rw) (v : Value) (W : World) (B : Nat) (own : OwnR W B v l) (hf : Fine l) :
    Calls Try.prog 11 #[.agg #[v], .string pW] W fun e w' => ∃ (r : List ByteArray) (pl : List DOp) (rv pv : Value), e = .returned (.tuple #[rv, pv, .int .i64 0]) ∧ OpenIs pW l r pl ∧ Reads w' rv 1 r.length (strs r) ∧ Reads w' pv 4 pl.length (dopCells pl) ∧ Below W.heap.size W w' := by
  refine (open_told l v pW W (reads_of_owns own.1) own.opens hf.smalls (by have := hf.few; omega) hf.sized).mono ?_
  rintro e w' ⟨r, pl, err, rv, pv, hq, rfl, h1, h2, h3⟩
  rcases hq with ⟨h4, _⟩ | ⟨_, h4, rfl⟩
  · rw [prefW] at h4; cases h4
  · exact ⟨r, pl, rv, pv, rfl, h4, h1, h2, h3⟩
/-- The mending plan done. -/
theorem mend_w (l : List Rw) (v : Value) (W : World) (B : Nat) (Q : List ByteArray) (c : Nat) (r : List ByteArray) (pl : List DOp) (pv : Value) (own : OwnR W B v l) (hc : Crashed l Q c) (hQ : Q.length ≤ 1000) (ho : OpenIs pW l r pl) (hp : Reads W pv 4 pl.length (dopCells pl)) :
    Calls Try.prog 25 #[.agg #[v], pv] W fun e w' => ∃ (v' : Value) (l' : List Rw) (gs : List Fl), e = .returned (.tuple #[.agg #[v'], .int .i64 (pl.length : Int), .int .i64 0]) ∧ OwnR w' W.heap.size v' l' ∧ Fine l' ∧ l'.map core = gs ∧ Exec (l.map core) pl gs ∧ (∀ r' pl', OpenIs pW l' r' pl' → r' = r ∧ pl' = []) ∧ Below W.heap.size W w' := by
  obtain ⟨gs, hdo, hn, hnames, hagain⟩ := opQ_names prefW hc.uniq ho
  refine (do2_any l v pl pv 31 Q.length W (reads_of_owns own.1) own.opens hp hc.fitF hc.fitS (by omega) (by omega) (fun o h => by have := hnames o h; omega)).mono ?_
  rintro e w' ⟨v', l', rfl, h1, h2, h3⟩
  rw [hdo] at h1
  have f1 := doF_fit pl hc.fitF
  have f2 := doF_small pl hc.fitS
  rw [hdo] at f1 f2
  rw [← h1] at f1 f2
  refine ⟨v', l', gs, by rw [hdo], h2, fine_of f1 f2 (by omega) (by omega), h1, hdo, fun r' pl' h => ?_, h3⟩
  obtain ⟨a1, a2, _⟩ := hagain l' h1 r' pl' 0 (Or.inr ⟨prefW, h, rfl⟩)
  exact ⟨a1, a2⟩
theorem reads_cap {w : World} {q : Option Addr} {n c size : Nat} {cells : List Value} (h : Reads w (.slice q n c) size n cells) : n ≤ c ∧ (q = none → n = 0 ∧ c = 0) := by
  rcases h.2 with ⟨h1, h2⟩ | ⟨ad, cap, h1, h2, _⟩
  · injection h1 with a1 a2 a3
    subst a2 a3
    exact ⟨Nat.le_refl _, fun _ => ⟨rfl, rfl⟩⟩
  · injection h1 with a1 a2 a3
    subst a3
    exact ⟨h2, fun e => by rw [e] at a1; cases a1⟩
theorem reads_take {w : World} {ad : Addr} {c : Nat} {F r : List ByteArray} (h : Reads w (.slice (some ad) F.length c) 1 F.length (strs F)) (hr : r = F.take r.length) (hl : r.length ≤ F.length) : Reads w (.slice (some ad) r.length c) 1 r.length (strs r) := by
  obtain ⟨h0, h1⟩ := h
  rcases h1 with ⟨h1, _⟩ | ⟨ad', cap, h1, h2, h3, h4⟩
  · cases h1
  · injection h1 with a1 a2 a3
    injection a1 with a1
    subst a1 a3
    refine ⟨by unfold strs; simp, .inr ⟨ad, c, rfl, by omega, h3, fun j u hu => ?_⟩⟩
    refine h4 j u ?_
    have hj : j < r.length := by
      have := (List.getElem?_eq_some_iff.1 hu).1
      unfold strs at this
      simpa using this
    unfold strs at hu ⊢
    rw [hr, List.map_take, List.getElem?_take, if_pos hj] at hu
    exact hu
/-- Strings stay when a variable of another kind is stored to. -/
theorem reads_store {W : World} {b n c : Nat} {q : Option Addr} {v : Value} {r : List ByteArray} (h : Reads W v 1 r.length (strs r)) (hv : VarAt W b (.slice q n c)) (y : Value) : Reads (W.setCell ⟨b, 0, none⟩ y) v 1 r.length (strs r) := by
  obtain ⟨h0, h1⟩ := h
  refine ⟨h0, ?_⟩
  rcases h1 with h1 | ⟨a, cap, h1, h2, h3, h4⟩
  · exact .inl h1
  · refine .inr ⟨a, cap, h1, h2, h3, fun j u hu => ?_⟩
    have hc := h4 j u hu
    have hs : ∃ s, u = .string s := by
      have := List.mem_of_getElem? hu
      unfold strs at this
      obtain ⟨s, _, e⟩ := List.mem_map.1 this
      exact ⟨s, e.symm⟩
    obtain ⟨s, rfl⟩ := hs
    rw [World.cell?_setCell_other]
    · exact hc
    · intro e
      have hv2 := hv.c
      rw [e, hc] at hv2
      cases hv2
set_option maxRecDepth 100000 in
set_option maxHeartbeats 8000000 in
theorem law_keeps (P : List ByteArray) (rv : Value) (syn : Int) (ft : List Ft) (fv : Value) (w : World) (hr : Reads w rv 1 P.length (strs P)) (hP : P.length ≤ 1099511627776) (h0 : 0 ≤ syn) (h1 : syn ≤ 18446744073709551615)
    (hf : Reads w fv 3 ft.length (ftCells ft)) (hw : Wholes w ft) (hm : ft.length ≤ 9223372036854775807) :
    Calls Try.prog 6 #[rv, .int .u64 syn, fv] w fun e w' => e = .returned (.bool true) ∧ Below w.heap.size w w' := by
  have HFEW := Lib.hid (fun (W : World) (hb : Below w.heap.size w W) => few_any P rv W (hr.below hb) hP)
  have HFT := Lib.hid (fun (W : World) (hb : Below w.heap.size w W) => show Reads W fv 3 ft.length (ftCells ft) ∧ Wholes W ft from ⟨hf.below hb, fun r h => (hw r h).below hb⟩)
  obtain ⟨q, cap, rfl⟩ := hr.is
  obtain ⟨qf, capf, rfl⟩ := hf.is
  clear hr hf hw
  go_enter Try.func6, Try.ntmps6
  go_upto_region 4 with (first
    | (go_at_call 9; (with_reducible refine (awake_any _).mono ?_); rintro e w1 ⟨rfl, hb1⟩; have HB1 := Lib.hid hb1; clear hb1)
    | (go_at_call 26; (with_reducible refine (HFEW.out _ HB1.out).mono ?_); rintro e w2 ⟨u, rfl, ho2, hb2⟩; obtain ⟨q2, c2, rfl⟩ := owns_shape ho2; have HO2 := Lib.hid (reads_of_owns ho2); have HB2 := Lib.hid (below_then HB1.out hb2); clear ho2 hb2)
    | fail)
  obtain ⟨F, hF⟩ : ∃ F, fewL P = F := ⟨_, rfl⟩
  have hF1 : F.length ≤ 30 := hF ▸ fewL_length P
  have HF2 := Lib.hid (show ∀ r ∈ F, r.size ≤ 40000 from hF ▸ fewL_size P)
  rw [hF] at HO2 ⊢
  clear HFEW hF
  go_upto_region 5 with fail
  obtain ⟨k0, hk0, hk1⟩ : ∃ k0 : Nat, wrap64 (syn % ((F.length : Int) + 1)) = (k0 : Int) ∧ k0 ≤ F.length := by
    have e1 := Int.emod_nonneg syn (show ((F.length : Int) + 1) ≠ 0 by omega)
    have e2 := Int.emod_lt_of_pos syn (show 0 < ((F.length : Int) + 1) by omega)
    refine ⟨(syn % ((F.length : Int) + 1)).toNat, ?_, by omega⟩
    unfold wrap64
    omega
  rw [hk0]
  clear hk0
  go_upto_region 6 with (first
    | (go_at_call 27; (with_reducible refine (written_any F _ k0 _ HO2.out hF1 HF2.out hk1).mono ?_); rintro e w3 ⟨v3, l3, cc, rfl, hown3, hst3, hc3, hb3⟩; obtain ⟨q3, c3, rfl⟩ := owns_shape hown3.1; have HOWN3 := Lib.hid hown3; have HST3 := Lib.hid hst3; have HC3 := Lib.hid hc3; have HB3 := Lib.hid (below_then HB2.out hb3); have HO3 := Lib.hid (HO2.out.below hb3); clear hown3 hst3 hc3 hb3)
    | fail)
  have HD4 : Hid (VarAt (w3.alloc (.cells #[.slice q3 l3.length c3] 24)) w3.heap.size (.slice q3 l3.length c3)) := Lib.hid (VarAt.new _ _)
  have HB4 : Hid (Below w.heap.size w (w3.alloc (.cells #[.slice q3 l3.length c3] 24))) := Lib.hid (nb_alloc HB3.out _)
  have HOWN4 := Lib.hid (HOWN3.out.below (below1 w3 (.cells #[.slice q3 l3.length c3] 24)))
  have HO4 := Lib.hid (HO3.out.below (below1 w3 (.cells #[.slice q3 l3.length c3] 24)))
  generalize w3.alloc (.cells #[.slice q3 l3.length c3] 24) = w4 at HD4 HB4 HOWN4 HO4 ⊢
  generalize w3.heap.size = N4 at HD4 ⊢
  clear HOWN3 HB3 HO3 HB1 HB2 HO2
  have d4 := HD4.out.c
  go_upto_region 9 with (first
    | (go_at_call 28; (with_reducible refine (crash_w l3 _ _ _ F cc _ ft _ HOWN4.out HST3.out (by omega) (HFT.out _ HB4.out).1 (HFT.out _ HB4.out).2 hm).mono ?_); rintro e w5 ⟨v5, l5, rfl, hc5, hown5, hb5⟩; obtain ⟨q5, c5, rfl⟩ := owns_shape hown5.1; have HCR := Lib.hid (crashed_of HST3.out hc5); have HOWN5 := Lib.hid hown5; have HB5 := Lib.hid (below_then HB4.out hb5); have HO5 := Lib.hid (HO4.out.below hb5); clear hc5 hown5 hb5)
    | fail)
  have HD6 : Hid (VarAt (w5.alloc (.cells #[.slice q5 l5.length c5] 24)) w5.heap.size (.slice q5 l5.length c5)) := Lib.hid (VarAt.new _ _)
  have HB6 : Hid (Below w.heap.size w (w5.alloc (.cells #[.slice q5 l5.length c5] 24))) := Lib.hid (nb_alloc HB5.out _)
  have HOWN6 := Lib.hid (HOWN5.out.below (below1 w5 (.cells #[.slice q5 l5.length c5] 24)))
  have HO6 := Lib.hid (HO5.out.below (below1 w5 (.cells #[.slice q5 l5.length c5] 24)))
  have HLE := Lib.hid (show w.heap.size ≤ w5.heap.size from HB5.out.size)
  generalize w5.alloc (.cells #[.slice q5 l5.length c5] 24) = w6 at HD6 HB6 HOWN6 HO6 ⊢
  generalize w5.heap.size = N6 at HD6 HLE ⊢
  clear HOWN5 HB5 HO5 HB4 HO4 HD4 d4
  have d6 := HD6.out.c
  have d7 := HD6.out.f
  have d8 := HD6.out.lt
  go_upto_region 10 with (first
    | (go_at_call 11; (with_reducible refine (open_w l5 _ _ _ HOWN6.out (HCR.out.fine (by omega))).mono ?_); rintro e w7 ⟨r, pl, rv7, pv7, rfl, ho7, hr7, hp7, hb7⟩; obtain ⟨q7, c7, rfl⟩ := hr7.is; obtain ⟨q8, c8, rfl⟩ := hp7.is; have HOP := Lib.hid ho7; have HR7 := Lib.hid hr7; have HP7 := Lib.hid hp7; have HB7 := Lib.hid (below_then HB6.out hb7); have HO7 := Lib.hid (HO6.out.below hb7); have HD7 := Lib.hid (HD6.out.keep hb7); have HOWN7 := Lib.hid (HOWN6.out.below hb7); have d9 := HD7.out.c; have d10 := HD7.out.f; have d11 := HD7.out.lt; clear ho7 hr7 hp7 hb7)
    | fail)
  obtain ⟨t1, t2, t3⟩ := HCR.out.tells r pl HOP.out
  have hcap := reads_cap HO7.out
  have HSAME : Hid (∀ W, Below w7.heap.size w7 W → Calls Try.prog 13 #[.slice q7 r.length c7, .slice q2 r.length c2] W fun e w' => e = .returned (.bool true) ∧ Below W.heap.size W w') := Lib.hid (fun W hb => by
    refine strs_true r _ _ W (HR7.out.below hb) ?_ (strs_small (HR7.out.below hb))
    cases q2 with
    | none =>
      obtain ⟨e1, e2⟩ := hcap.2 rfl
      have hr0 : r = [] := List.length_eq_zero_iff.1 (by omega)
      subst hr0
      subst e2
      exact reads_nil _ _
    | some ad => exact reads_take (HO7.out.below hb) t3 t2)
  have HT3 := Lib.hid t3
  clear t3
  have p1 : k0 ≤ r.length := by have := HC3.out; omega
  have hcp : r.length ≤ c2 := by omega
  go_upto_region 12 with (first
    | (go_at_call 13; (with_reducible refine (HSAME.out _ (Below.refl _ _)).mono ?_); rintro e w8 ⟨rfl, hb8⟩; have HB8 := Lib.hid hb8; clear hb8)
    | fail)
  clear HSAME
  have HB8w := Lib.hid (below_then HB7.out HB8.out)
  have HD8 := Lib.hid (HD7.out.keep HB8.out)
  have HOWN8 := Lib.hid (HOWN7.out.below HB8.out)
  have HR8 := Lib.hid (HR7.out.below HB8.out)
  have HP8 := Lib.hid (HP7.out.below HB8.out)
  clear d6 d7 d8 d9 d10 d11 HD6 HD7 HOWN6 HOWN7 HR7 HP7 HB6 HB7 HB8 HO6 HO7
  have d6 := HD8.out.c
  have d7 := HD8.out.f
  have d8 := HD8.out.lt
  go_upto_region 13 with (first
    | (go_at_call 25; (with_reducible refine (mend_w l5 _ _ _ F cc r pl _ HOWN8.out HCR.out (by omega) HOP.out HP8.out).mono ?_); rintro e w9 ⟨v9, l9, gs9, rfl, hown9, hfi9, hc9, hx9, hag9, hb9⟩; obtain ⟨q9, c9, rfl⟩ := owns_shape hown9.1; have HOWN9 := Lib.hid hown9; have HFI9 := Lib.hid hfi9; have HAG9 := Lib.hid hag9; have HB9 := Lib.hid (below_then HB8w.out hb9); have HR9 := Lib.hid (HR8.out.below hb9); have HD9 := Lib.hid (HD8.out.keep hb9); have x1 := HD9.out.c; have x2 := HD9.out.f; have x3 := HD9.out.lt; clear hown9 hfi9 hag9 hb9 hc9 hx9)
    | fail)
  have HDa := Lib.hid (HD9.out.same (.slice q9 l9.length c9))
  have HBa : Hid (Below w.heap.size w (w9.setCell ⟨N6, 0, none⟩ (.slice q9 l9.length c9))) := Lib.hid (nb_set HLE.out HB9.out 0 _)
  have HOWNa := Lib.hid (HOWN9.out.set HD9.out (.slice q9 l9.length c9))
  have HRa : Hid (Reads (w9.setCell ⟨N6, 0, none⟩ (.slice q9 l9.length c9)) (.slice q7 r.length c7) 1 r.length (strs r)) := Lib.hid (reads_store HR9.out HD9.out _)
  generalize w9.setCell ⟨N6, 0, none⟩ (.slice q9 l9.length c9) = wa at HDa HBa HOWNa HRa ⊢
  clear d6 d7 d8 x1 x2 x3 HD8 HD9 HOWN8 HOWN9 HR8 HR9 HP8 HB9 HB8w
  have d6 := HDa.out.c
  go_wp2_with (first
    | (go_at_call 11; (with_reducible refine (open_w l9 _ _ _ HOWNa.out HFI9.out).mono ?_); rintro e wb ⟨rb, plb, rvb, pvb, rfl, hob, hrb, hpb, hbb⟩; obtain ⟨rfl, rfl⟩ := HAG9.out rb plb hob; obtain ⟨qb, cb, rfl⟩ := hrb.is; obtain ⟨qc, cc2, rfl⟩ := hpb.is; have HRb := Lib.hid hrb; have HRab := Lib.hid (HRa.out.below hbb); have HBb := Lib.hid (below_then HBa.out hbb); clear hob hrb hpb hbb)
    | (go_at_call 13; (with_reducible refine (strs_true _ _ _ _ HRb.out HRab.out (strs_small HRb.out)).mono ?_); rintro e wc ⟨rfl, hbc⟩; have HBc := Lib.hid (below_then HBb.out hbc); clear hbc)
    | fail)
  go_ret
  exact ⟨rfl, HBc.out⟩
end Go.Proofs.Ytkecjopojnllnaa
