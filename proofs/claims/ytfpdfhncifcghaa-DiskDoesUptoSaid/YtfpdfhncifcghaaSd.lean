/- The reference's copy of a disk. -/
import Derived.Test.YtfpdfhncifcghaaSc
namespace Go
open Go.RowKit
theorem wpList_append_first {P : Program} {w : World} {ops : Array Oper} {rest : List Oper} {o : Oper} {a : Act} {Q : Exit → Act → World → Prop} (hgd : o.guard = none) (s x : Operand) (t : TypeId)
    (ho : o.op = .call { callee := .builtin .append, args := #[s, x], argTypes := #[t, t] })
    (base : Nat) (e : TypeId) (i : TypeInfo) (z : Value) (size bytes : Nat) (ht : P.underlying t = some (.slice e)) (hi : P.info? e = some i) (hz : i.zero = some z)
    (hsize : i.size = size) (hby : i.bytes = bytes) (hzs : z.cells.size = size) (hsz : 0 < size)
    (g : Nat) (hs : a.eval s = .slice (some ⟨g, 0, none⟩) 0 0) (hown : w.ownsRow base e size (.slice (some ⟨g, 0, none⟩) 0 0) 0 [])
    (src : Value) (m : Nat) (cells : List Value) (hx : a.eval x = src) (hr : Proofs.Ytfpdfhncifcghaa.Reads w src size m cells) (h1 : ∀ u ∈ cells, u.oneCell' = true)
    (h63 : m ≤ maxLen) (hbytes : m * bytes ≤ 140737488355328) (hbase : base ≤ w.heap.size)
    (h : ∀ p cap w', Hid (w'.ownsRow base e size (.slice p m cap) m cells) → w.grownBy w' (some g) → wpList P ops Q rest (a.put o.dst (.slice p m cap)) w') : wpList P ops Q (o :: rest) a w := by
  obtain ⟨hl, hr⟩ := hr
  rcases hr with ⟨rfl, rfl⟩ | ⟨ad, cap, rfl, _, _, hc⟩
  · have hnil : cells = [] := List.eq_nil_of_length_eq_zero (by simpa using hl)
    subst hnil
    exact wpList_append_own_none hgd s x t ho base e i size ht hi _ 0 [] hs hown hx (h _ _ w hown ⟨rfl, rfl, rfl, Nat.le_refl _, fun _ _ _ => rfl⟩)
  · refine wpList_append_own w hgd s x t ho base e i z size bytes ht hi hz hsize hby hzs hsz _ 0 [] hs hown ad m cap cells hx hl hc h1 (by omega) (by rw [Nat.zero_add]; exact hbytes) hbase ?_
    intro v' w' h2 h3 _
    rw [Nat.zero_add, List.nil_append] at h2
    obtain ⟨p, cap', rfl⟩ : ∃ p cap', v' = .slice p m cap' := by
      rcases h2.2 with ⟨h4, h5⟩ | ⟨g, cap', _, h4, _⟩
      · exact ⟨_, _, h5 ▸ h4⟩
      · exact ⟨_, _, h4⟩
    exact h p cap' w' h2 h3
end Go
namespace Go.Proofs.Ytfpdfhncifcghaa
open Go.RowKit Go.Deep Go.Joins

/-- A disk in rows of the call's own (two files may share no row, or may: nothing is said of it). -/
def OwnR (w : World) (B : Nat) (v : Value) (l : List Rw) : Prop :=
  w.ownsRow B 35 3 v l.length (rowCells l) ∧ ∀ r ∈ l, w.ownsRow B 37 2 r.ov r.opens.length (wrCells r.opens)
theorem OwnR.below {w w' : World} {B : Nat} {v : Value} {l : List Rw} (h : OwnR w B v l) (hb : Below w.heap.size w w') : OwnR w' B v l := ⟨owns_below h.1 hb, fun r hr => owns_below (h.2 r hr) hb⟩
theorem OwnR.mono {w : World} {B B' : Nat} {v : Value} {l : List Rw} (h : OwnR w B v l) (hB : B' ≤ B) : OwnR w B' v l := ⟨owns_mono h.1 hB, fun r hr => owns_mono (h.2 r hr) hB⟩
theorem OwnR.opens {w : World} {B : Nat} {v : Value} {l : List Rw} (h : OwnR w B v l) : Opens w l := fun r hr => reads_of_owns (h.2 r hr)
theorem OwnR.set {w : World} {B b : Nat} {u v : Value} {l : List Rw} (h : OwnR w B v l) (hv : VarAt w b u) (x : Value) : OwnR (w.setCell ⟨b, 0, none⟩ x) B v l :=
  ⟨owns_other h.1 (not_at h.1 hv (by decide)) _ _, fun r hr => owns_other (h.2 r hr) (not_at (h.2 r hr) hv (by decide)) _ _⟩
theorem OwnE.toR {w : World} {B : Nat} {v : Value} {l : List Rw} (h : OwnE w B v l) : OwnR w B v l := ⟨h.1, h.2.1⟩
/-- The row of files grows by one. -/
theorem OwnR.grow {w w' : World} {B : Nat} {v v' : Value} {l : List Rw} {r : Rw} (h : OwnR w B v l) (hr : w.ownsRow B 37 2 r.ov r.opens.length (wrCells r.opens)) (hg : w.grownBy w' v.ownBlock)
    (ho : w'.ownsRow B 35 3 v' (l.length + 1) (rowCells l ++ [.string r.name, .string r.safe, r.ov])) : OwnR w' B v' (l ++ [r]) := by
  refine ⟨?_, fun x hx => ?_⟩
  · have e : rowCells (l ++ [r]) = rowCells l ++ [.string r.name, .string r.safe, r.ov] := by simp [rowCells]
    rw [e, List.length_append]
    exact ho
  · rcases List.mem_append.1 hx with hx | hx
    · exact wider (h.2 x hx) h.1 (by decide) hg
    · rw [List.mem_singleton] at hx
      subst hx
      exact wider hr h.1 (by decide) hg

/-- What a round of the copy leaves: the file's variable and its own open writes. -/
structure CopyAt (wr W : World) (ov : Value) (name safe : ByteArray) (opens : List Wr) : Prop where
  below : Below wr.heap.size wr W
  lies : W.heap[wr.heap.size]? = some (.cells #[.string name, .string safe, ov] 35 (0, 0))
  own : W.ownsRow (wr.heap.size + 1) 37 2 ov opens.length (wrCells opens)
theorem copy_at {wr w5 : World} {ov v2 : Value} {name safe : ByteArray} {opens : List Wr}
    (hg : ((wr.alloc (.cells #[.string name, .string safe, ov] 35)).alloc (.cells #[] 37)).grownBy w5 (some (wr.heap.size + 1))) (ho : w5.ownsRow (wr.heap.size + 1) 37 2 v2 opens.length (wrCells opens)) :
    w5.heap[wr.heap.size]? = some (.cells #[.string name, .string safe, ov] 35 (0, 0)) ∧ CopyAt wr (w5.setCell ⟨wr.heap.size, 2, none⟩ v2) v2 name safe opens := by
  have h0 : w5.heap[wr.heap.size]? = some (.cells #[.string name, .string safe, ov] 35 (0, 0)) := by
    refine (hg.block _ (by simp; omega) (by simp)).trans ?_
    exact (heap_alloc_old _ _ (by simp)).trans (heap_alloc_new _ _)
  refine ⟨h0, ?_, ?_, ?_⟩
  · exact ((below2 wr _ _).grown hg (by simp; omega) fun k hk => by cases hk; omega).setCell (Nat.le_refl _) _
  · rw [heap_setCell_same w5 _ 2 _ 35 _ h0]; rfl
  · exact owns_other ho (fun hb => by have := (ho.lt _ hb).1; omega) _ _

theorem new_cells {w : World} {a : Addr} {x : Value} {cs : Array Value} {t : TypeId} : ((w.setCell a x).alloc (.cells cs t)).heap[w.heap.size]? = some (.cells cs t (0, 0)) := by
  have h := heap_alloc_new (w.setCell a x) (.cells cs t)
  rwa [World.size_setCell] at h
theorem copy_var {wr W5 w6 : World} {B Z : Nat} {u ov : Value} {d : List Rw} {name safe : ByteArray} {opens : List Wr} {o : Obj} (hcp : CopyAt wr W5 ov name safe opens) (hown : OwnR wr B u d) (hu : VarAt wr Z u)
    (hg : (W5.alloc o).grownBy w6 u.ownBlock) : VarAt w6 Z u :=
  VarAt.grown ((hu.keep hcp.below).old o) (owns_below (owns_below hown.1 hcp.below) (below1 W5 o)) (by decide) hg
theorem copy_next {wr W5 w6 : World} {B Z : Nat} {u ov v6 : Value} {d : List Rw} {name safe : ByteArray} {opens : List Wr} {o : Obj} (hcp : CopyAt wr W5 ov name safe opens) (hown : OwnR wr B u d) (hu : VarAt wr Z u) (hZ : Z ≤ B) (hB : B ≤ wr.heap.size)
    (hg : (W5.alloc o).grownBy w6 u.ownBlock) (ho : w6.ownsRow B 35 3 v6 (d.length + 1) (rowCells d ++ [.string name, .string safe, ov])) :
    OwnR (w6.setCell ⟨Z, 0, none⟩ v6) B v6 (d ++ [⟨name, safe, ov, opens⟩]) ∧ VarAt (w6.setCell ⟨Z, 0, none⟩ v6) Z v6 ∧ Below Z wr (w6.setCell ⟨Z, 0, none⟩ v6) := by
  have hv := copy_var hcp hown hu hg
  have h1 := (hown.below hcp.below).below (below1 W5 o)
  have h2 : (W5.alloc o).ownsRow B 37 2 ov opens.length (wrCells opens) := owns_mono (owns_below hcp.own (below1 W5 o)) (by omega)
  refine ⟨(h1.grow (r := ⟨name, safe, ov, opens⟩) h2 hg ho).set hv _, hv.same _, ?_⟩
  have hz : Below Z wr W5 := hcp.below.mono (by omega)
  exact ((hz.alloc (by have := hcp.below.size; omega) o).grown hg (by have := hcp.below.size; simp; omega) fun k hk => by have := (h1.1.lt k hk).1; omega).setCell (Nat.le_refl _) _

set_option maxRecDepth 100000 in
set_option maxHeartbeats 1000000 in
theorem copy2_any (l : List Rw) (v : Value) (w : World) (hr : Reads w v 3 l.length (rowCells l)) (ho : Opens w l) (hok : ∀ r ∈ l, r.opens.length ≤ 1099511627776) (hm : l.length ≤ 1099511627776) :
    Calls Try.prog 12 #[.agg #[v]] w fun e w' => ∃ v' l', e = .returned (.agg #[v']) ∧ l'.map core = l.map core ∧ OwnR w' w.heap.size v' l' ∧ Below w.heap.size w w' := by
  obtain ⟨p, cap, rfl⟩ := hr.is
  obtain ⟨i0, hi, hz0, hz1, hz2⟩ := info_parts (show (Try.prog.info? 35).map (fun i => (i.zero, i.size, i.bytes)) = some (some (.agg #[.string .empty, .string .empty, .slice none 0 0]), 3, 56) by kernel_rfl)
  obtain ⟨i1, hj, hy0, hy1, hy2⟩ := info_parts (show (Try.prog.info? 37).map (fun i => (i.zero, i.size, i.bytes)) = some (some (.agg #[.int .i64 0, .string .empty]), 2, 24) by kernel_rfl)
  go_enter Try.func12, Try.ntmps12
  go_wp2_with fail
  generalize hw0 : ((w.alloc (Obj.cells #[.slice p l.length cap] 24)).alloc (Obj.cells #[.slice none 0 0] 24)).alloc (Obj.cells #[.slice none 0 0] 24) = w0
  have hs0 : w0.heap.size = w.heap.size + 3 := by rw [← hw0]; simp
  have hb0 : Below w.heap.size w w0 := by
    rw [← hw0]
    exact (below2 w _ _).alloc (by simp; omega) _
  have hd0 : VarAt w0 w.heap.size (.slice p l.length cap) := by rw [← hw0]; exact ((VarAt.new _ _).old _).old _
  have hr0 : VarAt w0 (w.heap.size + 1) (.slice none 0 0) := by rw [← hw0]; exact (VarAt.new2 _ _ _).old _
  have ho0 : VarAt w0 (w.heap.size + 1 + 1) (.slice none 0 0) := by
    have h := VarAt.new ((w.alloc (Obj.cells #[.slice p l.length cap] 24)).alloc (Obj.cells #[.slice none 0 0] 24)) (.slice none 0 0)
    rw [hw0] at h
    simpa using h
  have HB0 := Lib.hid hb0
  have HD0 := Lib.hid hd0
  have HR0 := Lib.hid hr0
  have HO0 := Lib.hid ho0
  clear hw0 hb0 hd0 hr0 ho0
  go_wp2_with fail
  go_loopw [4] (fun i wr => ∃ (k : Nat) (u : Value) (d : List Rw), k ≤ l.length ∧ i = .int .i64 k ∧ Hid (d.length = k) ∧ Hid (d.map core = (l.take k).map core) ∧ Hid (VarAt wr (w.heap.size + 1 + 1) u) ∧ Hid (OwnR wr (w.heap.size + 3) u d) ∧ Hid (Below (w.heap.size + 1 + 1) w0 wr)) (fun i _ => l.length - (intOf i).toNat)
  case atStart => exact ⟨0, _, [], Nat.zero_le _, rfl, rfl, rfl, HO0, ⟨World.ownsRow_nil _ _ _ _, fun r hr => by cases hr⟩, Below.refl _ _⟩
  case round =>
    obtain ⟨k, u, d, hk, rfl, hdl, hdc, hu, hown, hbl⟩ := hrel
    obtain ⟨q, qc, rfl⟩ := owns_shape hown.out.1
    have HBW := Lib.hid (HB0.out.trans (hbl.out.mono (by omega)))
    have hD : VarAt wr w.heap.size (.slice p l.length cap) := (hbl.out.block _ (by omega)).trans HD0.out
    have hR : VarAt wr (w.heap.size + 1) (.slice none 0 0) := (hbl.out.block _ (by omega)).trans HR0.out
    have f0 := hD.c
    have f1 := hR.c
    have z1 := hR.f
    have f2 := hu.out.c
    have z2 := hu.out.f
    have l0 := hD.lt
    have l1 := hR.lt
    have l2 := hu.out.lt
    clear hD hR
    by_cases hlt : k < l.length
    · obtain ⟨b1, off1, cap1, hv, _, _, hb1, c0, c1, c2⟩ := (hr.below HBW.out).file k hlt
      obtain ⟨rfl, rfl⟩ : p = some ⟨b1, off1, none⟩ ∧ cap = cap1 := by simpa using hv
      have hop := (ho l[k] (List.getElem_mem _)).below HBW.out
      obtain ⟨p3, cap3, hov⟩ := hop.is
      rw [hov] at c2 hop
      have HOP := Lib.hid hop
      have hol := hok l[k] (List.getElem_mem _)
      clear hv hop hov
      go_wp2_with (first | (at_builtin; refine wpList_append_first rfl _ _ 33 rfl (wr.heap.size + 1) 37 i1 (.agg #[.int .i64 0, .string .empty]) 2 24 Try.underlying33 hj hy0 hy1 hy2 rfl (by decide) (wr.heap.size + 1) rfl ?c1 _ l[k].opens.length (wrCells l[k].opens) rfl ?c2 (wr_one _) ?c3 ?c4 ?c5 ?_; rotate_right 1; intro q2 qc2 w5 hown5 hg5; obtain ⟨x0, hcp⟩ := copy_at hg5 hown5.out; have HCP := Lib.hid hcp; have e0 : w5.cell? ⟨wr.heap.size, 0, none⟩ = some (.string l[k].name) := (by simp [World.cell?, x0]); have e1 : w5.cell? ⟨wr.heap.size, 1, none⟩ = some (.string l[k].safe) := (by simp [World.cell?, x0]); have e2 : w5.cell? ⟨wr.heap.size, 2, none⟩ = some (.slice p3 l[k].opens.length cap3) := (by simp [World.cell?, x0]); have e3 : w5.frozen? ⟨wr.heap.size, 2, none⟩ = false := (by simp [World.frozen?, x0]); have e4 := (Array.getElem?_eq_some_iff.1 x0).1; have U5 : VarAt w5 (w.heap.size + 1 + 1) (.slice q d.length qc) := (hg5.block _ (by simp; omega) (by simp; omega)).trans ((((hu.out).old _).old _)); have u0 := U5.c; have u1 := U5.f; have u2 := U5.lt; clear x0 hcp hown5) | (at_builtin; refine wpList_append_own _ rfl _ _ 22 rfl (w.heap.size + 3) 35 i0 (.agg #[.string .empty, .string .empty, .slice none 0 0]) 3 56 Try.underlying22 hi hz0 hz1 hz2 rfl (by decide) _ d.length (rowCells d) rfl ?g1 ⟨w5.heap.size, 0, none⟩ 1 1 [.string l[k].name, .string l[k].safe, .slice q2 l[k].opens.length qc2] rfl rfl ?g2 ?g3 ?g4 ?g5 ?g6 ?_; rotate_right 1; intro v6 w6 hown6 hg6 _; obtain ⟨q6, qc6, rfl⟩ := owns_shape hown6; have HO6 := Lib.hid hown6; have V6 := copy_var HCP.out hown.out hu.out hg6; have v0 := V6.c; have v1 := V6.f; have v2 := V6.lt; clear hown6))
      case c1 => exact owns_empty (by have := heap_alloc_new (wr.alloc (.cells #[.string l[k].name, .string l[k].safe, .slice p3 l[k].opens.length cap3] 35)) (.cells #[] 37); simpa using this) (Nat.le_refl _)
      case c2 => exact HOP.out.below (below2 wr _ _)
      case c3 => unfold maxLen; omega
      case c4 => omega
      case c5 => simp
      case g1 => exact owns_below (owns_below hown.out.1 HCP.out.below) (below1 _ _)
      case g2 =>
        intro j u hu
        rw [add_lit, Nat.zero_add, cell_of_row _ _ _ _ 35 _ new_cells]
        simpa using hu
      case g3 =>
        intro u hu
        simp at hu
        rcases hu with rfl | rfl | rfl <;> rfl
      case g4 => have := hdl.out; unfold maxLen; omega
      case g5 => have := hdl.out; omega
      case g6 => have := HCP.out.below.size; have := hbl.out.size; simp at *; omega
      go_roundw
      case rel =>
        have hbs := hbl.out.size
        obtain ⟨k1, k2, k3⟩ := copy_next HCP.out hown.out hu.out (Nat.le_succ _) (by omega) hg6 HO6.out
        refine ⟨k + 1, _, d ++ [Rw.mk l[k].name l[k].safe (.slice q2 l[k].opens.length qc2) l[k].opens], by omega, by go_num, ?_, ?_, k2, k1, hbl.out.trans k3⟩
        · show _ = _; simp [hdl.out]
        · show _ = _
          rw [List.map_append, hdc.out, List.take_succ_eq_append_getElem hlt, List.map_append]; rfl
      case measure => simp [intOf]; omega
    · obtain rfl : k = l.length := by omega
      go_wp2_with fail
      refine bodyPost_ret (v := .agg #[.slice q d.length qc]) (by simp [results, Try.results12, go_sem, f1]) rfl
        ⟨_, d, rfl, by rw [hdc.out, List.take_length], (hown.out.mono (by omega)).set (u := .slice none 0 0) ?_ _, HBW.out.setCell (by simp) _⟩
      exact (hbl.out.block _ (by omega)).trans HR0.out
end Go.Proofs.Ytfpdfhncifcghaa
