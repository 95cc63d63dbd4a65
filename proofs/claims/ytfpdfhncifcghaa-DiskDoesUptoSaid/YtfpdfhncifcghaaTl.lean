/- DiskDoes: the walk. -/
import Derived.Test.YtfpdfhncifcghaaTk
namespace Go.Proofs.Ytfpdfhncifcghaa
open Go.RowKit Go.Deep Go.Joins

/-- A disk in rows of the call's own, whatever the open writes are. -/
def OwnW (w : World) (B : Nat) (v : Value) (l : List Rw) : Prop :=
  w.ownsRow B 35 3 v l.length (rowCells l) ∧ ∀ r ∈ l, ∃ xs, w.ownsRow B 37 2 r.ov r.opens.length xs
theorem OwnE.toW {w : World} {B : Nat} {v : Value} {l : List Rw} (h : OwnE w B v l) : OwnW w B v l := ⟨h.1, fun r hr => ⟨_, h.2.1 r hr⟩⟩
theorem OwnW.below {w w' : World} {B : Nat} {v : Value} {l : List Rw} (h : OwnW w B v l) (hb : Below w.heap.size w w') : OwnW w' B v l := ⟨owns_below h.1 hb, fun r hr => by
  obtain ⟨xs, h2⟩ := h.2 r hr
  exact ⟨xs, owns_below h2 hb⟩⟩
theorem rowCells_set1 (l : List Rw) (k : Nat) (s : ByteArray) (h : k < l.length) : (rowCells l).set (k * 3 + 1) (.string s) = rowCells (l.set k ⟨l[k].name, s, l[k].ov, l[k].opens⟩) := by
  induction l generalizing k with
  | nil => simp at h
  | cons x l ih =>
    cases k with
    | zero => rfl
    | succ k =>
      have := ih k (by simpa using h)
      have e : ∀ (y : Rw) (m : List Rw), rowCells (y :: m) = .string y.name :: .string y.safe :: y.ov :: rowCells m := fun _ _ => rfl
      rw [e, show (k + 1) * 3 + 1 = k * 3 + 1 + 1 + 1 + 1 by omega]
      simp only [List.set_cons_succ, List.getElem_cons_succ]
      rw [this, e]
theorem OwnW.name {w : World} {B g n cap k : Nat} {l : List Rw} (h : OwnW w B (.slice (some ⟨g, 0, none⟩) n cap) l) (hn : n = l.length) (hk : k < l.length) (s : ByteArray) :
    OwnW (w.setCell ⟨g, k * 3 + 1, none⟩ (.string s)) B (.slice (some ⟨g, 0, none⟩) n cap) (l.set k ⟨l[k].name, s, l[k].ov, l[k].opens⟩) := by
  subst hn
  refine ⟨?_, fun r hr => ?_⟩
  · rw [← rowCells_set1 l k s hk, List.length_set]
    exact (h.1.stored (k * 3 + 1) (.string s)).1
  · have hr' : ∃ r0 ∈ l, r0.ov = r.ov ∧ r0.opens = r.opens := by
      rcases List.mem_or_eq_of_mem_set hr with hr | rfl
      · exact ⟨r, hr, rfl, rfl⟩
      · exact ⟨l[k], List.getElem_mem _, rfl, rfl⟩
    obtain ⟨r0, h0, e1, e2⟩ := hr'
    obtain ⟨xs, h2⟩ := h.2 r0 h0
    rw [← e1, ← e2]
    exact ⟨xs, owns_other h2 (rows_apart h.1 h2 (by decide) rfl) _ _⟩
theorem OwnW.write {w : World} {B g j : Nat} {v x : Value} {l : List Rw} {n cap : Nat} {xs : List Value} (h : OwnW w B v l) (hr : w.ownsRow B 37 2 (.slice (some ⟨g, 0, none⟩) n cap) n xs) : OwnW (w.setCell ⟨g, j, none⟩ x) B v l := by
  refine ⟨owns_other h.1 (rows_apart hr h.1 (by decide) rfl) _ _, fun r hm => ?_⟩
  obtain ⟨ys, h2⟩ := h.2 r hm
  by_cases e : r.ov.ownBlock = some g
  · obtain ⟨q, c, e2⟩ := owns_shape h2
    rw [e2] at h2 e ⊢
    have hq : q = some ⟨g, 0, none⟩ := by
      rcases h2.2 with ⟨h3, _⟩ | ⟨g', cap', cur, h3, _⟩
      · rw [h3] at e; cases e
      · rw [h3] at e
        simp only [Value.slice.injEq] at h3
        have : g' = g := by simpa [Value.ownBlock] using e
        rw [h3.1, this]
    subst hq
    exact ⟨_, (h2.stored j x).1⟩
  · exact ⟨ys, owns_other h2 e _ _⟩
theorem OwnW.var {w : World} {B b : Nat} {u v x : Value} {l : List Rw} (h : OwnW w B v l) (hv : VarAt w b u) : OwnW (w.setCell ⟨b, 0, none⟩ x) B v l :=
  ⟨owns_other h.1 (not_at h.1 hv (by decide)) _ _, fun r hr => by
    obtain ⟨xs, h2⟩ := h.2 r hr
    exact ⟨xs, owns_other h2 (not_at h2 hv (by decide)) _ _⟩⟩

/-- What the program's Do leaves behind its region. -/
def Done4 (wo : World) (A1 : List Fl) (na ea : Int) (s n e : Value) (W : World) : Prop :=
  ∃ (Y : Nat) (q : Option Addr) (c : Nat) (la : List Rw), s = .pointer (some ⟨Y, 0, none⟩) ∧ n = .int .i64 na ∧ e = .int .i64 ea ∧ la.map core = A1 ∧ Var1 wo W Y (.slice q la.length c) la

theorem owns_at {w : World} {B m c : Nat} {p : Option Addr} {xs : List Value} (h : w.ownsRow B 37 2 (.slice p m c) m xs) (t : Nat) (ht : t < m) : ∃ g, p = some ⟨g, 0, none⟩ ∧ B ≤ g ∧ g < w.heap.size ∧ (∃ u, w.cell? ⟨g, t * 2, none⟩ = some u) ∧ ∀ j, w.frozen? ⟨g, j, none⟩ = false := by
  rcases h.2 with ⟨_, h2⟩ | ⟨g, cap', cur, hv, hB, hg, h3, h4, h5, h6⟩
  · omega
  · simp only [Value.slice.injEq, true_and] at hv
    obtain ⟨rfl, rfl⟩ := hv
    refine ⟨g, rfl, hB, (Array.getElem?_eq_some_iff.1 hg).1, ?_, fun j => frozen_of_row _ _ _ _ _ hg⟩
    rw [cell_of_row _ _ _ _ _ _ hg]
    exact ⟨_, Array.getElem?_eq_getElem (show t * 2 < cur.size by omega)⟩
theorem small_fitsF {l : List Rw} (hs : Small l) : FitsF (l.map core) 1048576 1048576 := by
  refine ⟨by rw [List.length_map]; exact hs.1, fun f hf => ?_, fun f hf => ?_, fun f hf x hx => ?_⟩
  all_goals
    obtain ⟨r, hr, rfl⟩ := List.mem_map.1 hf
    obtain ⟨k1, k2, k3⟩ := hs.2 r hr
  · exact k1
  · show r.safe.size ≤ _; omega
  · have := k3 x hx; omega
theorem small_fitsS {l : List Rw} (hs : Small l) : FitsS (l.map core) := by
  refine ⟨fun f hf => ?_, fun f hf x hx => ?_⟩
  all_goals
    obtain ⟨r, hr, rfl⟩ := List.mem_map.1 hf
    obtain ⟨k1, k2, k3⟩ := hs.2 r hr
  · show r.safe.size ≤ _; omega
  · exact k3 x hx

set_option maxRecDepth 100000 in
set_option maxHeartbeats 1000000 in
theorem does_any (l : List Rw) (v : Value) (ops : List DOp) (ov : Value) (x : ByteArray) (w : World) (hr : Reads w v 3 l.length (rowCells l)) (ho : Opens w l) (hov : Reads w ov 4 ops.length (dopCells ops)) (hs : Small l) (hx : x.size ≤ 1048576)
    (hn : ops.length ≤ 1048576) (hops : ∀ o ∈ ops, o.pos ≤ 9223372036854775807 ∧ o.name.size ≤ 1048576) :
    Calls Try.prog 3 #[.agg #[v], ov, .string x] w fun e w' => e = .returned (.bool true) ∧ Below w.heap.size w w' := by
  obtain ⟨p, cap, rfl⟩ := hr.is
  obtain ⟨p2, cap2, rfl⟩ := hov.is
  obtain ⟨i0, hi, hz0, hz1, hz2⟩ := info_parts (show (Try.prog.info? 53).map (fun i => (i.zero, i.size, i.bytes)) = some (some (.agg #[.int .i64 0, .string .empty, .int .i64 0, .string .empty]), 4, 48) by kernel_rfl)
  have hl := hs.1
  obtain ⟨A1, na, ea, hA⟩ : ∃ A1 na ea, doF (l.map core) ops = (A1, na, ea) := ⟨_, _, _, rfl⟩
  have hfit := doF_fits ops (l.map core) 1048576 1048576 (small_fitsF hs)
  rw [hA] at hfit
  have HFIT := Lib.hid hfit
  have HA := Lib.hid hA
  have hnb : (nameB x != nameB x) = false := by simp
  clear hfit hA
  go_enter Try.func3, Try.ntmps3
  go_wp2_with fail
  refine (awake_any _).mono ?_
  rintro e w1 ⟨rfl, hb1⟩
  have hbw1 := below_then (below1 w _) hb1
  have f0 : w1.cell? ⟨w.heap.size, 0, none⟩ = some (.slice p l.length cap) := (hb1.cell (p := ⟨w.heap.size, 0, none⟩) (by simp)).trans (by simp)
  have hlt1 : w.heap.size < w1.heap.size := lt_of_cell f0
  have HBW1 := Lib.hid hbw1
  clear hbw1 hb1
  go_wp2_with (first | (go_at_call 10; refine (name_any x _ (by omega)).mono ?_; rintro e w11 ⟨rfl, rfl⟩) | (go_at_call 11; refine (name2_any x _ (by omega)).mono ?_; rintro e w12 ⟨rfl, rfl⟩))
  refine (copy2_any l _ _ (hr.below HBW1.out) (ho.below HBW1.out) (fun r hr => (hs.refs r hr).1) (by omega)).mono ?_
  rintro e w2 ⟨v1, l1, rfl, hc1, hd1, hb2⟩
  obtain ⟨q1, qc1, rfl⟩ := owns_shape hd1.1
  have f1 := below_cell hb2 f0
  have hs1 := hs.core hc1
  have hl1 : l1.length ≤ 1048576 := hs1.1
  have HBW2 := Lib.hid (below_then HBW1.out hb2)
  have HD1 := Lib.hid hd1
  have HC1 := Lib.hid hc1
  have HS := Lib.hid hs
  have HS1 := Lib.hid hs1
  clear hd1 hc1 hb2 f0 hs hs1
  go_upto_region 4 with fail
  generalize hwo : w2.alloc (Obj.cells #[.slice q1 l1.length qc1] 24) = wo
  have hbo : Below w2.heap.size w2 wo := hwo ▸ below1 w2 _
  have Z0 : VarAt wo w2.heap.size (.slice q1 l1.length qc1) := hwo ▸ VarAt.new w2 _
  have HBO := Lib.hid (below_then HBW2.out hbo)
  have HDO := Lib.hid (HD1.out.below hbo)
  have g0 := below_cell hbo f1
  have z0 := Z0.c
  have hlo0 : w.heap.size < wo.heap.size := lt_of_cell g0
  have hlo : w2.heap.size < wo.heap.size := Z0.lt
  clear hwo hbo HD1 HBW2 f1 Z0
  have hsm : ∀ W, Below wo.heap.size wo W → Calls Try.prog 15 #[.agg #[.slice q1 l1.length qc1], .agg #[.slice p l.length cap]] W fun e w' => e = .returned (.bool true) ∧ Below wo.heap.size wo w' ∧ Below W.heap.size W w' := fun W hW => by
    have hd := HDO.out.below hW
    exact (same_true l1 l _ _ W (reads_of_owns hd.1) hd.opens ((hr.below HBO.out).below hW) ((ho.below HBO.out).below hW) HC1.out (by omega) (fun r hr => by have := (HS1.out.2 r hr).1; omega)).mono fun e w' ⟨k1, k2⟩ => ⟨k1, below_then hW k2, k2⟩
  have HSM := Lib.hid hsm
  have hvars : ∀ w' : World, Below wo.heap.size wo w' → w'.cell? ⟨w.heap.size, 0, none⟩ = some (.slice p l.length cap) ∧ w'.cell? ⟨w2.heap.size, 0, none⟩ = some (.slice q1 l1.length qc1) := fun w' h => ⟨below_cell h g0, below_cell h z0⟩
  have HV := Lib.hid hvars
  have HRA : Hid (∀ W, Below wo.heap.size wo W → Reads W (.slice p2 ops.length cap2) 4 ops.length (dopCells ops)) := Lib.hid fun W hW => (hov.below HBO.out).below hW
  have hcall : ∀ W q c, Below wo.heap.size wo W → W.ownsRow wo.heap.size 53 4 (.slice q ops.length c) ops.length (dopCells ops) → Calls Try.prog 13 #[.agg #[.slice q1 l1.length qc1], .slice q ops.length c] W fun e w' =>
      ∃ q3 qc3 l3, e = .returned (.tuple #[.agg #[.slice q3 (List.length l3) qc3], .int .i64 na, .int .i64 ea]) ∧ Hid (l3.map core = A1) ∧ Hid (OwnE w' wo.heap.size (.slice q3 l3.length qc3) l3) ∧ Below wo.heap.size wo w' ∧ Below W.heap.size W w' := fun W q c hW hown => by
    have hd := HDO.out.below hW
    refine (do_any l1 _ ops _ 1048576 1048576 W (reads_of_owns hd.1) hd.opens (reads_of_owns hown) (small_fitsF HS1.out) (by omega) (by omega) (fun o h => ⟨(hops o h).1, by have := (hops o h).2; omega⟩)).mono ?_
    rintro e w' ⟨v3, l3, rfl, h1, h2, h3⟩
    rw [HC1.out, HA.out] at h1 ⊢
    obtain ⟨q3, qc3, rfl⟩ := owns_shape h2.1
    exact ⟨q3, qc3, l3, rfl, h1, ownE_mono h2 hW.size, below_then hW h3, h3⟩
  have HCALL := Lib.hid hcall
  clear hsm hvars hcall
  go_cut [8, 9, 10] from 27 (Done4 wo A1 na ea)
  case first =>
    go_region_held3 (fun w' => w'.cell? ⟨w2.heap.size, 0, none⟩ = some (.slice q1 l1.length qc1)) (first | with_reducible exact z0 | (with_reducible refine below_cell (w := wo) ?_ z0; (repeat (first | with_reducible exact N6 | with_reducible exact N4 | with_reducible exact nb_refl _ | with_reducible refine nb_drew ?_ | with_reducible refine nb_alloc ?_ _ | with_reducible refine nb_set (by omega) ?_ _ _))))
      (first
        | (refine step_append_first rfl _ _ 25 rfl wo.heap.size 53 i0 (.agg #[.int .i64 0, .string .empty, .int .i64 0, .string .empty]) 4 48 Try.underlying25 hi hz0 hz1 hz2 rfl (by decide) _ rfl ?own (.slice p2 ops.length cap2) ops.length (dopCells ops) rfl ?rd (dop_one ops) ?m1 ?m2 ?m3 ?_; (case own => (show Emp _ _ _; (repeat (first | with_reducible exact emp_new (Nat.le_refl _) | with_reducible exact emp_new2 (Nat.le_refl _) | with_reducible refine emp_drew ?_ | with_reducible refine emp_old ?_ _)))); (case rd => exact HRA.out _ (by (repeat (first | with_reducible exact N6 | with_reducible exact N4 | with_reducible exact nb_refl _ | with_reducible refine nb_drew ?_ | with_reducible refine nb_alloc ?_ _ | with_reducible refine nb_set (by omega) ?_ _ _)))); (case m1 => unfold maxLen; omega); (case m2 => omega); (case m3 => exact Below.size (by (repeat (first | with_reducible exact N6 | with_reducible exact N4 | with_reducible exact nb_refl _ | with_reducible refine nb_drew ?_ | with_reducible refine nb_alloc ?_ _ | with_reducible refine nb_set (by omega) ?_ _ _)))); intro p4 c4 w4 hO4 hg4; have N4 : Below wo.heap.size wo w4 := below_grown (by (repeat (first | with_reducible exact N6 | with_reducible exact N4 | with_reducible exact nb_refl _ | with_reducible refine nb_drew ?_ | with_reducible refine nb_alloc ?_ _ | with_reducible refine nb_set (by omega) ?_ _ _))) (show Emp _ _ _ by (repeat (first | with_reducible exact emp_new (Nat.le_refl _) | with_reducible exact emp_new2 (Nat.le_refl _) | with_reducible refine emp_drew ?_ | with_reducible refine emp_old ?_ _))) hg4; have s4 := N4.size; first | (have V1 := varA (w := wo) hg4; have v1 := V1.c; have y1 := V1.f; have k1 := V1.lt) | (have V1 := varB (w := wo) hg4; have v1 := V1.c; have y1 := V1.f; have k1 := V1.lt) | skip)
        | (go_at_call 13; with_reducible refine (HCALL.out _ _ _ ?bel ?rows).mono ?_; (case bel => (repeat (first | with_reducible exact N6 | with_reducible exact N4 | with_reducible exact nb_refl _ | with_reducible refine nb_drew ?_ | with_reducible refine nb_alloc ?_ _ | with_reducible refine nb_set (by omega) ?_ _ _))); (case rows => first | exact hO4.out | exact owns_below hO4.out (below1 _ _)); rintro e w6 ⟨q3, qc3, l3, rfl, hc3, hd3, N6, hb6⟩; have n6 := below_cell N6 z0; have s6 := N6.size; first | (have T1 := V1.keep hb6; have t1 := T1.c; have r1 := T1.f; have i1 := T1.lt) | (have T0 := back1 (w := w4) hb6; have T1 := T0.2; have t1 := T1.c; have r1 := T1.f; have i1 := T1.lt) | skip)
        | fail)
    all_goals
      go_wp2_with fail
      go_meet
      first
        | exact ⟨_, _, _, l3, rfl, rfl, rfl, hc3.out, var1_set N6 hd3.out T1 (by omega)⟩
        | exact ⟨_, _, _, l3, rfl, rfl, rfl, hc3.out, var1_new N6 hd3.out⟩
  case rest =>
    obtain ⟨Y, q, c, la, rfl, rfl, rfl, hca, hV⟩ := hcut
    have vY := hV.var.c
    have lY := hV.var.lt
    obtain ⟨vd, vc⟩ := HV.out wc hV.below
    have ld := lt_of_cell vd
    have lc := lt_of_cell vc
    have HVV := Lib.hid hV
    have HCA := Lib.hid hca
    have hd2 : Calls Try.prog 14 #[.agg #[.slice p l.length cap], .slice p2 ops.length cap2] wc fun e w' => ∃ q4 qc4 lb, e = .returned (.tuple #[.agg #[.slice q4 (List.length lb) qc4], .int .i64 na, .int .i64 ea]) ∧ Hid (lb.map core = A1) ∧ Hid (OwnR w' wc.heap.size (.slice q4 lb.length qc4) lb) ∧ Below wc.heap.size wc w' := by
      have hbw := below_then HBO.out HVV.out.below
      refine (do2_any l _ ops _ 1048576 1048576 wc (hr.below hbw) (ho.below hbw) (hov.below hbw) (small_fitsF HS.out) (small_fitsS HS.out) (by omega) (by omega) (fun o h => by have := (hops o h).2; omega)).mono ?_
      rintro e w' ⟨v4, lb, rfl, h1, h2, h3⟩
      rw [HA.out] at h1 ⊢
      obtain ⟨q4, qc4, rfl⟩ := owns_shape h2.1
      exact ⟨q4, qc4, lb, rfl, h1, h2, h3⟩
    have HD2 := Lib.hid hd2
    clear hV hca hd2 HCALL HRA z0
    go_wp2_with fail
    refine HD2.out.mono ?_
    rintro e w5 ⟨q4, qc4, lb, rfl, hcb, hdb, hb5⟩
    have N5 := Lib.hid (below_then HVV.out.below hb5)
    have VY5 := HVV.out.var.keep hb5
    have y1 := VY5.c
    have y2 := VY5.lt
    obtain ⟨vd5, vc5⟩ := HV.out w5 N5.out
    have ld5 := lt_of_cell vd5
    have lc5 := lt_of_cell vc5
    have HVY5 := Lib.hid VY5
    have hown5 := HVV.out.own.below hb5
    have HOWN5 := Lib.hid hown5
    have HDB := Lib.hid hdb
    have hsab : ∀ W, Below w5.heap.size w5 W → Calls Try.prog 15 #[.agg #[.slice q la.length c], .agg #[.slice q4 lb.length qc4]] W fun e w' => e = .returned (.bool true) ∧ Below w5.heap.size w5 w' := fun W hW => by
      have h1 := HOWN5.out.below hW
      have h2 := HDB.out.below hW
      have hf := HFIT.out
      rw [← HCA.out] at hf
      refine (same_true la lb _ _ W (reads_of_owns h1.1) (opens_of_ownE h1) (reads_of_owns h2.1) h2.opens (HCA.out.trans hcb.out.symm) ?_ (fun r hr => ?_)).mono fun e w' ⟨k1, k2⟩ => ⟨k1, below_then hW k2⟩
      · have := hf.files
        rw [List.length_map] at this
        omega
      · have : r.opens.length ≤ _ := hf.opens (core r) (List.mem_map_of_mem hr)
        omega
    have hscd : ∀ W, Below w5.heap.size w5 W → Calls Try.prog 15 #[.agg #[.slice q1 l1.length qc1], .agg #[.slice p l.length cap]] W fun e w' => e = .returned (.bool true) ∧ Below w5.heap.size w5 w' := fun W hW =>
      (HSM.out W (below_then N5.out hW)).mono fun e w' ⟨k1, _, k2⟩ => ⟨k1, below_then hW k2⟩
    have HSAB := Lib.hid hsab
    have HSCD := Lib.hid hscd
    have hcells : ∀ W, Below w5.heap.size w5 W → W.cell? ⟨w.heap.size, 0, none⟩ = some (.slice p l.length cap) ∧ W.cell? ⟨w2.heap.size, 0, none⟩ = some (.slice q1 l1.length qc1) ∧ W.cell? ⟨Y, 0, none⟩ = some (.slice q la.length c) := fun W hW => ⟨(HV.out W (below_then N5.out hW)).1, (HV.out W (below_then N5.out hW)).2, below_cell hW y1⟩
    have HCELLS := Lib.hid hcells
    clear VY5 hown5 hdb hsab hscd hcells HD2 hb5
    go_wp2_with (first
      | (go_at_call 15; with_reducible refine (HSAB.out _ ?bel).mono ?_; (case bel => (repeat (first | with_reducible exact N7 | with_reducible exact nb_refl _ | with_reducible refine nb_drew ?_ | with_reducible refine nb_alloc ?_ _))); rintro e w7 ⟨rfl, N7⟩; obtain ⟨t1, t2, t3⟩ := HCELLS.out _ N7; have t4 := lt_of_cell t1; have t5 := lt_of_cell t2; have t6 := lt_of_cell t3)
      | (go_at_call 15; with_reducible refine (HSCD.out _ ?bel).mono ?_; (case bel => (repeat (first | with_reducible exact N7 | with_reducible exact nb_refl _ | with_reducible refine nb_drew ?_ | with_reducible refine nb_alloc ?_ _))); rintro e w8 ⟨rfl, N8⟩; obtain ⟨s1, s2, s3⟩ := HCELLS.out _ N8; have s4 := lt_of_cell s1; have s5 := lt_of_cell s2; have s6 := lt_of_cell s3)
      | fail)
    have hla : la.length ≤ 2097152 := by
      have := HFIT.out.files
      rw [← HCA.out, List.length_map] at this
      omega
    have hlo2 : ∀ r ∈ la, r.opens.length ≤ 2097152 := fun r hr => by
      have hf := HFIT.out
      rw [← HCA.out] at hf
      have : r.opens.length ≤ _ := hf.opens (core r) (List.mem_map_of_mem hr)
      omega
    have HLO := Lib.hid hlo2
    have VY8 := HVY5.out.keep N8
    have OW8 : OwnW w8 wo.heap.size (.slice q la.length c) la := (HOWN5.out.toW).below N8
    have N8o := below_then N5.out N8
    have HVY8 := Lib.hid VY8
    have HOW8 := Lib.hid OW8
    have HN8 := Lib.hid N8o
    clear t1 t2 t3 t4 t5 t6 s1 s2 s3 s4 s5 s6 N7 N8 HSAB HSCD HCELLS y1 y2 vd5 vc5 ld5 lc5 vY lY vd vc ld lc VY8 OW8 N8o hlo2 HOWN5 HVY5 HDB hcb
    go_loopw [14] (fun i wr => ∃ (k : Nat) (ls : List Rw), k ≤ la.length ∧ i = .int .i64 k ∧ Hid (ls.length = la.length) ∧ Hid (∀ r ∈ ls, r.opens.length ≤ 2097152) ∧ Hid (VarAt wr Y (.slice q la.length c)) ∧ Hid (OwnW wr wo.heap.size (.slice q la.length c) ls) ∧ Hid (Below wo.heap.size wo wr)) (fun i _ => la.length - (intOf i).toNat)
    case atStart => exact ⟨0, la, Nat.zero_le _, rfl, rfl, HLO.out, HVY8.out, HOW8.out, HN8.out⟩
    case round =>
      obtain ⟨k, ls, hk, rfl, hlen, hls, hv, how, hbl⟩ := hrel
      obtain ⟨wq, hwq⟩ : ∃ wq, wq = wr := ⟨_, rfl⟩
      subst hwq
      have v0 := hv.out.c
      have v1 := hv.out.lt
      by_cases hlt : k < la.length
      · have hrow := how.out.1
        rw [hlen.out] at hrow
        have hkd : k < ls.length := by rw [hlen.out]; exact hlt
        obtain ⟨g, hq, hg1, hg2, c0, c1, c2, fz⟩ := owns_file hrow k hkd (by omega)
        subst hq
        obtain ⟨xs, hxs⟩ := how.out.2 ls[k] (List.getElem_mem _)
        obtain ⟨p3, c3, hov⟩ := owns_shape hxs
        have f1 := fz (k * 3 + 1)
        have hgY : g ≠ Y := fun e => not_at hrow hv.out (by decide) (by rw [← e]; rfl)
        obtain ⟨m, hm⟩ : ∃ m, ls[k].opens.length = m := ⟨_, rfl⟩
        have hmb : m ≤ 2097152 := hm ▸ hls.out ls[k] (List.getElem_mem _)
        rw [hm] at hov
        have hnx : ∃ le : List Rw, OwnW (wq.setCell ⟨g, k * 3 + 1, none⟩ (.string ⟨#[111, 116, 104, 101, 114]⟩)) wo.heap.size (.slice (some ⟨g, 0, none⟩) la.length c) le ∧ le.length = la.length ∧ (∀ r ∈ le, r.opens.length ≤ 2097152) ∧ ∃ h : k < le.length, le[k].ov = .slice p3 m c3 ∧ le[k].opens.length = m := by
          refine ⟨_, how.out.name hlen.out.symm hkd ⟨#[111, 116, 104, 101, 114]⟩, by rw [List.length_set]; exact hlen.out, fun r hr => ?_, by rw [List.length_set]; exact hkd, by simpa using hov, by simpa using hm⟩
          rcases List.mem_or_eq_of_mem_set hr with hr | rfl
          · exact hls.out r hr
          · show ls[k].opens.length ≤ _
            exact hls.out _ (List.getElem_mem hkd)
        have hv1 := hv.out.far hgY (k * 3 + 1) (.string ⟨#[111, 116, 104, 101, 114]⟩)
        have hb1 := nb_set hg1 hbl.out (k * 3 + 1) (.string ⟨#[111, 116, 104, 101, 114]⟩)
        obtain ⟨le, hle, hle1, hle2, hle3, hle4, hle5⟩ := hnx
        have HLE := Lib.hid hle
        have HLE1 := Lib.hid hle1
        have HLE2 := Lib.hid hle2
        have HV1 := Lib.hid hv1
        have HB1 := Lib.hid hb1
        have HLE4 := Lib.hid hle4
        have HLE5 := Lib.hid hle5
        have HGY := Lib.hid hgY
        have HHM := Lib.hid hm
        have HOV := Lib.hid hov
        clear hle hle1 hle2 hle4 hle5 hv1 hb1 hgY hm hov hxs hrow fz c0 c2 hlen hls how hbl hv
        go_wp2_with fail
        revert HLE HV1 HB1
        generalize wq.setCell ⟨g, k * 3 + 1, none⟩ (.string ⟨#[111, 116, 104, 101, 114]⟩) = W1
        intro HLE HV1 HB1
        go_loopw [15] (fun j wr => ∃ t : Nat, t ≤ m ∧ j = .int .i64 t ∧ Hid (VarAt wr Y (.slice (some ⟨g, 0, none⟩) la.length c)) ∧ Hid (OwnW wr wo.heap.size (.slice (some ⟨g, 0, none⟩) la.length c) le) ∧ Hid (Below wo.heap.size wo wr)) (fun j _ => m - (intOf j).toNat)
        case atStart => exact ⟨0, Nat.zero_le _, rfl, HV1.out, HLE.out, HB1.out⟩
        case round =>
          obtain ⟨t, ht, rfl, hv2, how2, hbl2⟩ := hrel
          have x0 := hv2.out.c
          have x1 := hv2.out.lt
          have hrow2 := how2.out.1
          rw [HLE1.out] at hrow2
          obtain ⟨g', hq', _, hg2', _, _, c2, _⟩ := owns_file hrow2 k hle3 (by omega)
          obtain rfl : g = g' := by simpa using hq'
          rw [HLE4.out] at c2
          clear hrow2 hq'
          by_cases htm : t < m
          · obtain ⟨ys, hys⟩ := how2.out.2 le[k] (List.getElem_mem _)
            rw [HLE4.out, HLE5.out] at hys
            obtain ⟨g3, hp3, hB3, hg3, ⟨u0, d0⟩, fz3⟩ := owns_at hys t htm
            subst hp3
            have f3 := fz3 (t * 2)
            have hgY3 : g3 ≠ Y := fun e => not_at hys hv2.out (by decide) (by rw [← e]; rfl)
            have hv3 := hv2.out.far hgY3 (t * 2) (.int .i64 (-9))
            have how3 := how2.out.write (j := t * 2) (x := .int .i64 (-9)) hys
            have hbl3 := nb_set hB3 hbl2.out (t * 2) (.int .i64 (-9))
            have HV3 := Lib.hid hv3
            have HOW3 := Lib.hid how3
            have HBL3 := Lib.hid hbl3
            clear hv3 how3 hbl3 hys fz3 hgY3
            go_wp2_with fail
            go_roundw
            case rel => exact ⟨t + 1, by omega, by go_num, HV3.out, HOW3.out, HBL3.out⟩
            case measure => simp [intOf]; omega
          · go_wp2_with fail
            go_roundw
            case rel => exact ⟨k + 1, le, by omega, by go_num, HLE1.out, HLE2.out, hv2.out, how2.out, hbl2.out⟩
            case measure => simp [intOf]; omega
      · obtain ⟨z1, z2⟩ := HV.out wq hbl.out
        have z3 := lt_of_cell z1
        have z4 := lt_of_cell z2
        go_wp2_with (go_at_call 15; refine (HSM.out _ hbl.out).mono ?_; rintro e w9 ⟨rfl, N9, _⟩)
        go_ret
        exact ⟨rfl, below_then HBO.out N9⟩
end Go.Proofs.Ytfpdfhncifcghaa
