/- WalOpens, for arguments of bulk at most 1048576: the records that Open tells of any disk, and what mends its log, are what the reference tells. -/
import Derived.Test.YtkecjopojnllnaaM18
import Derived.Test.YtkecjopojnllnaaM15
namespace Go.Proofs.Ytkecjopojnllnaa
open Go.RowKit Go.Deep Go.Joins

set_option maxRecDepth 100000 in
set_option maxHeartbeats 2000000 in
theorem strs_true (P : List ByteArray) (v v' : Value) (w : World) (hr : Reads w v 1 P.length (strs P)) (hr' : Reads w v' 1 P.length (strs P)) (hm : P.length ≤ 9223372036854775807) :
    Calls Try.prog 13 #[v, v'] w fun e w' => e = .returned (.bool true) ∧ Below w.heap.size w w' := by
  obtain ⟨q, cap, rfl⟩ := hr.is
  obtain ⟨q', cap', rfl⟩ := hr'.is
  go_enter Try.func13, Try.ntmps13
  go_wp2_with fail
  go_loopw [5] (fun i wr => ∃ k : Nat, k ≤ P.length ∧ i = .int .i64 (k : Int) ∧ Hid (Below w.heap.size w wr)) (fun i _ => P.length - (intOf i).toNat)
  case atStart => exact ⟨0, Nat.zero_le _, rfl, Lib.hid (Below.refl _ _)⟩
  case round =>
    obtain ⟨k, hk, rfl, hbl⟩ := hrel
    by_cases hlt : k < P.length
    · obtain ⟨b1, off1, cap1, hv, _, _, hb1, x0⟩ := (hr.below hbl.out).str k hlt
      obtain ⟨rfl, rfl⟩ : q = some ⟨b1, off1, none⟩ ∧ cap = cap1 := by simpa using hv
      obtain ⟨b2, off2, cap2, hv2, _, _, hb2, y0⟩ := (hr'.below hbl.out).str k hlt
      obtain ⟨rfl, rfl⟩ : q' = some ⟨b2, off2, none⟩ ∧ cap' = cap2 := by simpa using hv2
      obtain ⟨o, ho⟩ : ∃ o, P[k] = o := ⟨_, rfl⟩
      rw [ho] at x0 y0
      clear hv hv2 ho
      go_wp2_with fail
      go_quiet (fail)
      go_wp2_with fail
      exact ⟨⟨k + 1, by omega, by go_num, Lib.hid (hbl.out.trans ⟨rfl, rfl, rfl, Nat.le_refl _, fun _ _ => rfl⟩)⟩, by simp [intOf]; omega⟩
    · obtain rfl : k = P.length := by omega
      go_wp2_with fail
      go_ret
      exact ⟨rfl, hbl.out⟩
theorem bytesN_core {p : ByteArray} {l l' : List Rw} (hc : l'.map core = l.map core) (n : Nat) : bytesN p l' n = bytesN p l n := by
  induction l generalizing l' with
  | nil =>
    have : l' = [] := by simpa using hc
    rw [this]
  | cons r l ih =>
    cases l' with
    | nil => cases hc
    | cons r' l' =>
      rw [List.map_cons, List.map_cons] at hc
      injection hc with h1 h2
      have ih' := ih h2
      unfold core at h1
      injection h1 with a1 a2 a3
      unfold bytesN at ih' ⊢
      rw [List.find?_cons, List.find?_cons, a1]
      split <;> rename_i h3
      · cases hb : (numB p r.name == some n) with
        | true =>
          rw [hb] at h3
          simp only at h3 ⊢
          obtain rfl := Option.some.inj h3
          rw [a2, a3]
        | false =>
          rw [hb] at h3
          simp only at h3 ⊢
          rw [h3] at ih'
          exact ih'
      · cases hb : (numB p r.name == some n) with
        | true => rw [hb] at h3; simp at h3
        | false =>
          rw [hb] at h3
          simp only at h3 ⊢
          rw [h3] at ih'
          exact ih'
theorem runN_core {p : ByteArray} {l l' : List Rw} (hc : l'.map core = l.map core) (L : List Nat) : runN p l' L = runN p l L := by
  unfold runN
  apply List.map_congr_left
  intro n _
  rw [bytesN_core hc n]
theorem Sized.core {l l' : List Rw} (hc : l'.map core = l.map core) (h : Sized l) : Sized l' := by
  intro r hr
  have h1 : Go.Proofs.Ytkecjopojnllnaa.core r ∈ l.map Go.Proofs.Ytkecjopojnllnaa.core := hc ▸ List.mem_map_of_mem hr
  obtain ⟨r', hr', e⟩ := List.mem_map.1 h1
  unfold Go.Proofs.Ytkecjopojnllnaa.core at e
  injection e with a1 a2 a3
  have := h r' hr'
  rw [a2, a3] at this
  exact this
def OpQ (p : ByteArray) (l : List Rw) (r : List ByteArray) (pl : List DOp) (err : Int) : Prop := (prefB p = false ∧ r = [] ∧ pl = [] ∧ err = 1) ∨ (prefB p = true ∧ OpenIs p l r pl ∧ err = 0)
theorem OpenIs.one {p : ByteArray} {l : List Rw} {r r' : List ByteArray} {pl pl' : List DOp} (h : OpenIs p l r pl) (h' : OpenIs p l r' pl') : r = r' ∧ pl = pl' := by
  obtain ⟨L, a1, a2, a3⟩ := h
  obtain ⟨M, b1, b2, b3⟩ := h'
  obtain rfl := strict_unique a1 b1 (fun n => by rw [a2, b2])
  rw [a3] at b3
  injection b3 with c1 c2
  exact ⟨c1, c2⟩
theorem OpQ.one {p : ByteArray} {l : List Rw} {r r' : List ByteArray} {pl pl' : List DOp} {e e' : Int} (h : OpQ p l r pl e) (h' : OpQ p l r' pl' e') : r = r' ∧ pl = pl' ∧ e = e' := by
  rcases h with ⟨h1, rfl, rfl, rfl⟩ | ⟨h1, h2, rfl⟩
  · rcases h' with ⟨_, rfl, rfl, rfl⟩ | ⟨h3, _⟩
    · exact ⟨rfl, rfl, rfl⟩
    · rw [h1] at h3; cases h3
  · rcases h' with ⟨h3, _⟩ | ⟨_, h4, rfl⟩
    · rw [h1] at h3; cases h3
    · obtain ⟨c1, c2⟩ := h2.one h4
      exact ⟨c1, c2, rfl⟩
theorem OpQ.core {p : ByteArray} {l l' : List Rw} (hc : l'.map core = l.map core) {r : List ByteArray} {pl : List DOp} {e : Int} (h : OpQ p l' r pl e) : OpQ p l r pl e := by
  rcases h with h | ⟨h1, ⟨L, h2, h3, h4⟩, h5⟩
  · exact Or.inl h
  · refine Or.inr ⟨h1, ⟨L, h2, fun n => (h3 n).trans (has_core hc n), ?_⟩, h5⟩
    rw [← runN_core hc]
    exact h4
def ToldO (Q : List ByteArray → List DOp → Int → Prop) (w : World) (e : Ending) (w' : World) : Prop :=
  ∃ (r : List ByteArray) (pl : List DOp) (err : Int) (v u : Value), Q r pl err ∧ e = .returned (.tuple #[v, u, .int .i64 err]) ∧ Reads w' v 1 r.length (strs r) ∧ Reads w' u 4 pl.length (dopCells pl) ∧ Below w.heap.size w w'
set_option maxRecDepth 100000 in
set_option maxHeartbeats 1000000 in
theorem open_no (p : ByteArray) (dv : Value) (w : World) (hp : prefB p = false) :
    Calls Try.prog 11 #[.agg #[dv], .string p] w fun e w' => e = .returned (.tuple #[.slice none 0 0, .slice none 0 0, .int .i64 1]) ∧ Below w.heap.size w w' := by
  go_enter Try.func11, Try.ntmps11
  go_wp2_with (first | (go_at_call 30; (with_reducible refine (mayBe_any p _).mono ?_); rintro e w1 ⟨rfl, rfl⟩; rw [hp]) | fail)
  go_returns
  exact ⟨rfl, below1 w _⟩
set_option maxRecDepth 100000 in
set_option maxHeartbeats 1000000 in
theorem open3_no (p : ByteArray) (dv : Value) (w : World) (hp : prefB p = false) :
    Calls Try.prog 12 #[.agg #[dv], .string p] w fun e w' => e = .returned (.tuple #[.slice none 0 0, .slice none 0 0, .int .i64 1]) ∧ Below w.heap.size w w' := by
  go_enter Try.func12, Try.ntmps12
  go_wp2_with (first | (go_at_call 36; (with_reducible refine (prefix_any p _).mono ?_); rintro e w1 ⟨rfl, rfl⟩; rw [hp]) | fail)
  go_returns
  exact ⟨rfl, below1 w _⟩

theorem open_told (l : List Rw) (v : Value) (p : ByteArray) (W : World) (hr : Reads W v 3 l.length (rowCells l)) (ho : Opens W l) (hsm : Smalls l) (hm : l.length ≤ 1099511627776) (hz : Sized l) : Calls Try.prog 11 #[.agg #[v], .string p] W (ToldO (OpQ p l) W) := by
  obtain ⟨q, cap, rfl⟩ := hr.is
  by_cases hp : prefB p = true
  · exact (open_yes l q cap p W hp hr ho hsm hm hz).mono fun e w' ⟨v, u, r, pl, h1, h2, h3⟩ => ⟨r, pl, 0, v, u, Or.inr ⟨hp, h2, rfl⟩, h1, h3⟩
  · have hp := Bool.eq_false_iff.2 hp
    exact (open_no p _ W hp).mono fun e w' ⟨h1, h2⟩ => ⟨[], [], 1, _, _, Or.inl ⟨hp, rfl, rfl, rfl⟩, h1, reads_nil _ _, reads_nil _ _, h2⟩
theorem open3_told (l : List Rw) (v : Value) (p : ByteArray) (W : World) (hr : Reads W v 3 l.length (rowCells l)) (ho : Opens W l) (hsm : Smalls l) (hm : l.length ≤ 1099511627776) (hz : Sized l) : Calls Try.prog 12 #[.agg #[v], .string p] W (ToldO (OpQ p l) W) := by
  obtain ⟨q, cap, rfl⟩ := hr.is
  by_cases hp : prefB p = true
  · exact (open3_yes l q cap p W hp hr ho hsm hm hz).mono fun e w' ⟨v, u, r, pl, h1, h2, h3⟩ => ⟨r, pl, 0, v, u, Or.inr ⟨hp, h2, rfl⟩, h1, h3⟩
  · have hp := Bool.eq_false_iff.2 hp
    exact (open3_no p _ W hp).mono fun e w' ⟨h1, h2⟩ => ⟨[], [], 1, _, _, Or.inl ⟨hp, rfl, rfl, rfl⟩, h1, reads_nil _ _, reads_nil _ _, h2⟩
theorem strs_small {W : World} {v : Value} {P : List ByteArray} (h : Reads W v 1 P.length (strs P)) : P.length ≤ 9223372036854775807 := by
  rcases Nat.eq_zero_or_pos P.length with h0 | h0
  · omega
  · obtain ⟨_, _, cap, _, h1, h2, _⟩ := h.at (by omega)
    unfold maxLen at h2
    omega
set_option maxRecDepth 100000 in
set_option maxHeartbeats 4000000 in
theorem law_opens (l : List Rw) (v : Value) (p : ByteArray) (w : World) (hr : Reads w v 3 l.length (rowCells l)) (ho : Opens w l) (hsm : Smalls l) (hm : l.length ≤ 1099511627776) (hz : Sized l) :
    Calls Try.prog 3 #[.agg #[v], .string p] w fun e w' => e = .returned (.bool true) ∧ Below w.heap.size w w' := by
  go_enter Try.func3, Try.ntmps3
  go_wp2_with fail
  generalize hw0 : w.alloc (Obj.cells #[v] 24) = w0
  have HB0 : Hid (Below w.heap.size w w0) := Lib.hid (hw0 ▸ below1 w _)
  have HD0 : Hid (VarAt w0 w.heap.size v) := Lib.hid (hw0 ▸ VarAt.new w _)
  clear hw0
  have HCP := Lib.hid (fun (W : World) (hb : Below w.heap.size w W) => copy2_any l v W (hr.below hb) (fun r hr => (ho r hr).below hb) (fun r hr => (hsm r hr).2.1) hm)
  go_upto_region 4 with (first
    | (go_at_call 9; (with_reducible refine (awake_any _).mono ?_); rintro e w1 ⟨rfl, hb1⟩; have HB1 := Lib.hid (below_then HB0.out hb1); have d1 := (HD0.out.keep hb1).c; have HD1 := Lib.hid (HD0.out.keep hb1); clear hb1)
    | (go_at_call 10; (with_reducible refine (HCP.out _ HB1.out).mono ?_); rintro e w2 ⟨v2, l2, rfl, hc2, hown2, hb2⟩; obtain ⟨q2, c2, rfl⟩ := owns_shape hown2.1; have HB2 := Lib.hid (below_then HB1.out hb2); have HD2 := Lib.hid (HD1.out.keep hb2); have HC2 := Lib.hid hc2; have HOWN2 := Lib.hid hown2; clear hc2 hown2 hb2)
    | fail)
  have HDa : Hid (VarAt (w2.alloc (.cells #[.slice q2 l2.length c2] 24)) w.heap.size v) := Lib.hid (HD2.out.old _)
  have HDb : Hid (VarAt (w2.alloc (.cells #[.slice q2 l2.length c2] 24)) w2.heap.size (.slice q2 l2.length c2)) := Lib.hid (VarAt.new _ _)
  have HBa : Hid (Below w.heap.size w (w2.alloc (.cells #[.slice q2 l2.length c2] 24))) := Lib.hid (nb_alloc HB2.out _)
  have HOWNa : Hid (OwnR (w2.alloc (.cells #[.slice q2 l2.length c2] 24)) w1.heap.size (.slice q2 l2.length c2) l2) := Lib.hid (HOWN2.out.below (below1 _ _))
  have HNb : Hid (w.heap.size < w2.heap.size) := Lib.hid HD2.out.lt
  generalize hwa : w2.alloc (.cells #[.slice q2 l2.length c2] 24) = wa at HDa HDb HBa HOWNa ⊢
  obtain ⟨N, hN⟩ : ∃ N, w2.heap.size = N := ⟨_, rfl⟩
  rw [hN] at HDb HNb ⊢
  clear hwa hN HOWN2 HD2 HB2 HD1 HB1 d1
  have hl2 : l2.length = l.length := by simpa using congrArg List.length HC2.out
  have HSM := Lib.hid hsm
  have HSM2 := Lib.hid (hsm.core HC2.out)
  have HZ := Lib.hid hz
  have HZ2 := Lib.hid (hz.core HC2.out)
  have ca := HDa.out.c
  have cb := HDb.out.c
  have RA : ∀ W, Below wa.heap.size wa W → Reads W v 3 l.length (rowCells l) ∧ Opens W l := fun W hb => ⟨hr.below (below_then HBa.out hb), fun r h => (ho r h).below (below_then HBa.out hb)⟩
  have RB : ∀ W, Below wa.heap.size wa W → Reads W (.slice q2 l2.length c2) 3 l2.length (rowCells l2) ∧ Opens W l2 := fun W hb => ⟨(reads_of_owns HOWNa.out.1).below hb, fun r h => (HOWNa.out.opens r h).below hb⟩
  have H11 := Lib.hid (fun (W : World) (hb : Below wa.heap.size wa W) => (open_told l2 _ p W (RB W hb).1 (RB W hb).2 HSM2.out (by omega) HZ2.out).mono fun e w' h => show ToldO (OpQ p l) W e w' from by
    obtain ⟨r, pl, err, v', u', h1, h2⟩ := h
    exact ⟨r, pl, err, v', u', h1.core HC2.out, h2⟩)
  have H12 := Lib.hid (fun (W : World) (hb : Below wa.heap.size wa W) => open3_told l _ p W (RA W hb).1 (RA W hb).2 HSM.out hm HZ.out)
  have H15 := Lib.hid (fun (W : World) (hb : Below wa.heap.size wa W) => same_true l2 l (.slice q2 l2.length c2) v W (RB W hb).1 (RB W hb).2 (RA W hb).1 (RA W hb).2 HC2.out (by omega) (fun r hr => by have := (HSM2.out r hr).2.1; omega))
  clear RA RB hr ho hsm hz HCP hl2
  go_wp2_with (first
    | (go_at_call 11; (with_reducible refine (H11.out _ (Below.refl _ _)).mono ?_); rintro e w3 ⟨r1, P1, e1, v3, u3, hQ3, rfl, hs3, hr3, hb3⟩; have HQ3 := Lib.hid hQ3; have HS3 := Lib.hid hs3; have HR3 := Lib.hid hr3; have HB3 := Lib.hid hb3; have ca3 := (HDa.out.keep hb3).c; have cb3 := (HDb.out.keep hb3).c; clear hQ3 hs3 hr3 hb3)
    | (go_at_call 12; (with_reducible refine (H12.out _ HB3.out).mono ?_); rintro e w4 ⟨r2, P2, e2, v4, u4, hQ4, rfl, hs4, hr4, hb4⟩; obtain ⟨hR, hP, hE⟩ := HQ3.out.one hQ4; subst hR; subst hP; subst hE; have HS34 := Lib.hid (HS3.out.below hb4); have HS4 := Lib.hid hs4; have HR34 := Lib.hid (HR3.out.below hb4); have HR4 := Lib.hid hr4; have HB4 := Lib.hid (below_then HB3.out hb4); have ca4 := (HDa.out.keep HB4.out).c; have cb4 := (HDb.out.keep HB4.out).c; clear hQ4 hs4 hr4 hb4)
    | (go_at_call 13; (with_reducible refine (strs_true r1 _ _ _ HS34.out HS4.out (strs_small HS4.out)).mono ?_); rintro e w5 ⟨rfl, hb5⟩; have HB5r := Lib.hid hb5; have HB5 := Lib.hid (below_then HB4.out hb5); have ca5 := (HDa.out.keep HB5.out).c; have cb5 := (HDb.out.keep HB5.out).c; clear hb5)
    | (go_at_call 14; (with_reducible refine (plans_true P1 _ _ _ (HR34.out.below HB5r.out) (HR4.out.below HB5r.out) (plan_small HR4.out)).mono ?_); rintro e w6 ⟨rfl, hb6⟩; have HB6 := Lib.hid (below_then HB5.out hb6); have ca6 := (HDa.out.keep HB6.out).c; have cb6 := (HDb.out.keep HB6.out).c; clear hb6)
    | (go_at_call 15; (with_reducible refine (H15.out _ HB6.out).mono ?_); rintro e wz ⟨rfl, hbz⟩; have HBz := Lib.hid (below_then HB6.out hbz); clear hbz)
    | fail)
  go_ret
  exact ⟨rfl, below_then HBa.out HBz.out⟩

end Go.Proofs.Ytkecjopojnllnaa
namespace Go.Proofs.Ytkecjopojnllnaa
open Go.RowKit Go.Deep Go.Joins
theorem sizeUp_few (n : Nat) (l : List Wr) (hs : n ≤ 2097152) (hb : ∀ x ∈ l, x.bytes.size ≤ 1048576) : sizeUp n l ≤ 2097152 := by
  induction l generalizing n with
  | nil => exact hs
  | cons x l ih =>
    refine ih _ ?_ fun y hy => hb y (List.mem_cons_of_mem _ hy)
    have h1 := hb x (by simp)
    unfold grow
    split
    · rename_i hw
      have := wk_pos hw
      split <;> omega
    · exact hs
theorem layB_few (s : ByteArray) (l : List Wr) (hs : s.size ≤ 2097152) (hb : ∀ x ∈ l, x.bytes.size ≤ 1048576) : (layB s l).size ≤ 2097152 := by
  unfold layB
  split
  · exact hs
  · have h1 : (overAll (spliceB (List.replicate (sizeUp s.size l) 0) 0 s) l).length = sizeUp s.size l := by
      have h0 : (spliceB (List.replicate (sizeUp s.size l) 0) 0 s).length = sizeUp s.size l := by
        unfold spliceB
        rw [length_splice _ _ _ (by rw [len_eq]; simpa using sizeUp_ge _ _)]
        simp
      have : ∀ (m : List Wr) (L : List UInt8), (∀ x ∈ m, wk x = true → x.pos.toNat + x.bytes.size ≤ L.length) → (overAll L m).length = L.length := by
        intro m
        induction m with
        | nil => intro L _; rfl
        | cons x m ih =>
          intro L h
          have hx := length_over L x (h x (by simp))
          show (overAll (over L x) m).length = _
          rw [ih (over L x) (fun y hy hw => by rw [hx]; exact h y (by simp [hy]) hw), hx]
      rw [this l _ (fun x hx hw => by rw [h0]; exact sizeUp_has _ _ _ hx hw), h0]
    have h2 : (ByteArray.mk (overAll (spliceB (List.replicate (sizeUp s.size l) 0) 0 s) l).toArray).size = sizeUp s.size l := by
      refine Eq.trans ?_ h1
      show (overAll _ l).toArray.size = _
      rw [List.size_toArray]
    rw [h2]
    exact sizeUp_few _ _ hs hb
theorem sized_bulk {H : Type} {w : World} {l : List Rw} {d : DataW H} (h : ReadDisk w l d) (hN : Rows.uptoBulk d ≤ 1048576) : Sized l := by
  obtain ⟨h1, h2⟩ := bulk_disk h
  intro r hr
  obtain ⟨k1, k2, k3, k4⟩ := h2 r hr
  exact layB_few _ _ (by omega) (fun x hx => by have := k4 x hx; omega)
end Go.Proofs.Ytkecjopojnllnaa
namespace Go.Proofs.Ytkecjopojnllnaa
open Go.RowKit Go.Deep Go.Joins Go.WideShapes Go.ChangeShapes Go.ChangeAt
open Go.ChangeMaps (open_string shut_string)
set_option maxRecDepth 100000 in
theorem opens_lifted (os : Os) (started : os.Started) (H : Type) (enc : TypeId × Value → H) (F : Stop.Interp) :
    ReturnsInHanded {} Try.checked os 3 .any ((Rows.OpenSpec.upto Rows.walOpensSpec).pre6 enc Try.prog Try.f3 Rows.walOpensUptoRow.domain false) (((Rows.OpenSpec.upto Rows.walOpensSpec).at F).post enc Try.prog Try.f3 false true false false) := by
  refine returnsInHanded_of_cond (C := Try.checked) (s := Rows.OpenSpec.upto Rows.walOpensSpec) (k := Rows.uptoSmall) rfl own started (by kernel_rfl) Try.func3
    (OpenSpec.witness (enc := enc) (C := Try.checked) (s := Rows.OpenSpec.upto Rows.walOpensSpec) (k := Rows.uptoSmall) rfl false ⟨#[], #[.agg #[.slice none 0 0], .string .empty], []⟩ 8 (by kernel_rfl) (by kernel_rfl) (by kernel_rfl)
      (x := ([.agg [.nil], .lit (.string [])], [], [])) (by kernel_rfl) rfl (by kernel_rfl)) ?_
  intro W base args ds gs before hval0 hW hcnd hk _
  have hW' := hW
  obtain ⟨p, q, hA0, hV, rfl, hfz, hnd⟩ := hW
  have hval : ∀ (j : Nat) t v, Try.f3.params[j]? = some t → args[j]? = some v → Value.okWide Try.prog W .any base t v := hval0
  have hA : DataW.TrodAll enc Try.prog W 0 (fun _ => true) true Try.f3.params.toList args.toList ds p := hA0
  rw [Try.params3] at hA hval
  obtain ⟨v0, v1, d0, d1, p0, p1, rfl, rfl, rfl, h0, h1⟩ := trodAll_two hA
  obtain ⟨rfl, rfl⟩ := trodVars_none hV
  have hlt : ∀ x ∈ p0 ++ p1, x.block < W.heap.size := fun x hx => hW'.lt x (by simpa using hx)
  obtain ⟨fv, l, rfl, hr, hd⟩ := open_disk (hval 0 24 v0 rfl rfl) h0
  have h1' := h1
  obtain ⟨pf, rfl, rfl, rfl, _⟩ := open_string Try.underlying9 (hval 1 9 v1 rfl rfl) h1
  have hbulk : Rows.uptoBulkAll ([d0, .lit (.string pf.data.toList)] ++ []) ≤ 1048576 := of_decide_eq_true hk
  simp only [List.append_nil, Rows.uptoBulkAll, Rows.uptoBulk, len_eq] at hbulk
  simp only [List.append_nil] at hW'
  refine (law_opens l fv pf W hr hd.opens (smalls_bulk hd (by omega)) (by have := (bulk_disk hd).1; omega) (sized_bulk hd (by omega))).mono fun e W' ⟨he, hb⟩ => ?_
  subst he
  refine ⟨_, rfl, _, _, _, [], p0 ++ [], [], hW', trodAll_mk1 (shut_bool Try.underlying4 _), ?_, rfl, ?_, fun h => by cases h⟩
  · exact trodAll_mk2 (Below.trod laidOut (by kernel_rfl) (of_decide_eq_true (by kernel_rfl)) h0 hb fun x hx => hlt x (by simp [hx])) (Below.trod laidOut (by kernel_rfl) (of_decide_eq_true (by kernel_rfl)) h1' hb fun x hx => by cases hx)
  · simpa using hb.frame _

/-- The given statement. -/
theorem opens_proved : Rows.WalOpensUptoSaid :=
  OpenClaim.holds_of_cond 3 Try.f3 rfl rfl rfl rfl rfl rfl rfl ⟨rfl, rfl, rfl, rfl, rfl⟩ rfl rfl rfl rfl rfl (by kernel_rfl) Try.func3 (by kernel_rfl)
    (of_decide_eq_true (by kernel_rfl)) (by unfold Func.isWrapper; first | (rw [if_pos (by decide +kernel)]; kernel_rfl) | (rw [if_neg (by decide +kernel)]; exact ⟨rfl, rfl⟩))
    (fun os started H enc _ F => opens_lifted os started H enc F)

end Go.Proofs.Ytkecjopojnllnaa
