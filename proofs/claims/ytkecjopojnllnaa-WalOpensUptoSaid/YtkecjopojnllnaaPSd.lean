/- The disk of the reference, and what of the disk the log calls (my own, from the seat of the disk): Sd. -/
import Derived.Test.YtkecjopojnllnaaPSc
namespace Go.Proofs.Ytkecjopojnllnaa
open Go.RowKit Go.Deep Go.Joins
set_option maxRecDepth 100000 in
set_option maxHeartbeats 1000000 in
theorem copy2_any (l : List Rw) (v : Value) (w : World) (hr : Reads w v 3 l.length (rowCells l)) (ho : Opens w l) (hok : ∀ r ∈ l, r.opens.length ≤ 1099511627776) (hm : l.length ≤ 1099511627776) :
    Calls Try.prog 10 #[.agg #[v]] w fun e w' => ∃ v' l', e = .returned (.agg #[v']) ∧ l'.map core = l.map core ∧ OwnR w' w.heap.size v' l' ∧ Below w.heap.size w w' := by
  obtain ⟨p, cap, rfl⟩ := hr.is
  obtain ⟨i0, hi, hz0, hz1, hz2⟩ := info_parts (show (Try.prog.info? 58).map (fun i => (i.zero, i.size, i.bytes)) = some (some (.agg #[.string .empty, .string .empty, .slice none 0 0]), 3, 56) by kernel_rfl)
  obtain ⟨i1, hj, hy0, hy1, hy2⟩ := info_parts (show (Try.prog.info? 76).map (fun i => (i.zero, i.size, i.bytes)) = some (some (.agg #[.int .i64 0, .string .empty]), 2, 24) by kernel_rfl)
  go_enter Try.func10, Try.ntmps10
  go_wp2_with fail
  generalize hw0 : ((w.alloc (Obj.cells #[.slice p l.length cap] 24)).alloc (Obj.cells #[.slice none 0 0] 24)).alloc (Obj.cells #[.slice none 0 0] 24) = w0
  have hs0 : w0.heap.size = w.heap.size + 3 := by rw [← hw0]; simp
  have hb0 : Below w.heap.size w w0 := by
    rw [← hw0]
    exact (below2 w _ _).alloc (by simp; omega) _
  have hd0 : VarAt w0 w.heap.size (.slice p l.length cap) := by rw [← hw0]; exact ((VarAt.new _ _).old _).old _
  have hr0 : VarAt w0 (w.heap.size + 1) (.slice none 0 0) := by rw [← hw0]; exact (VarAt.new2 _ _ _).old _
  have ho0 : VarAt w0 (w.heap.size + 1 + 1) (.slice none 0 0) := by
    have h := VarAt.new ((w.alloc (Obj.cells #[.slice p l.length cap] 24)).alloc (Obj.cells #[.slice none 0 0] 24)) (.slice none 0 0)
    rw [hw0] at h
    simpa using h
  have HB0 := Lib.hid hb0
  have HD0 := Lib.hid hd0
  have HR0 := Lib.hid hr0
  have HO0 := Lib.hid ho0
  clear hw0 hb0 hd0 hr0 ho0
  go_wp2_with fail
  go_loopw [4] (fun i wr => ∃ (k : Nat) (u : Value) (d : List Rw), k ≤ l.length ∧ i = .int .i64 k ∧ Hid (d.length = k) ∧ Hid (d.map core = (l.take k).map core) ∧ Hid (VarAt wr (w.heap.size + 1 + 1) u) ∧ Hid (OwnR wr (w.heap.size + 3) u d) ∧ Hid (Below (w.heap.size + 1 + 1) w0 wr)) (fun i _ => l.length - (intOf i).toNat)
  case atStart => exact ⟨0, _, [], Nat.zero_le _, rfl, rfl, rfl, HO0, ⟨World.ownsRow_nil _ _ _ _, fun r hr => by cases hr⟩, Below.refl _ _⟩
  case round =>
    obtain ⟨k, u, d, hk, rfl, hdl, hdc, hu, hown, hbl⟩ := hrel
    obtain ⟨q, qc, rfl⟩ := owns_shape hown.out.1
    have HBW := Lib.hid (HB0.out.trans (hbl.out.mono (by omega)))
    have hD : VarAt wr w.heap.size (.slice p l.length cap) := (hbl.out.block _ (by omega)).trans HD0.out
    have hR : VarAt wr (w.heap.size + 1) (.slice none 0 0) := (hbl.out.block _ (by omega)).trans HR0.out
    have f0 := hD.c
    have f1 := hR.c
    have z1 := hR.f
    have f2 := hu.out.c
    have z2 := hu.out.f
    have l0 := hD.lt
    have l1 := hR.lt
    have l2 := hu.out.lt
    clear hD hR
    by_cases hlt : k < l.length
    · obtain ⟨b1, off1, cap1, hv, _, _, hb1, c0, c1, c2⟩ := (hr.below HBW.out).file k hlt
      obtain ⟨rfl, rfl⟩ : p = some ⟨b1, off1, none⟩ ∧ cap = cap1 := by simpa using hv
      have hop := (ho l[k] (List.getElem_mem _)).below HBW.out
      obtain ⟨p3, cap3, hov⟩ := hop.is
      rw [hov] at c2 hop
      have HOP := Lib.hid hop
      have hol := hok l[k] (List.getElem_mem _)
      clear hv hop hov
      go_wp2_with (first | (at_builtin; refine wpList_append_first rfl _ _ 56 rfl (wr.heap.size + 1) 76 i1 (.agg #[.int .i64 0, .string .empty]) 2 24 Try.underlying56 hj hy0 hy1 hy2 rfl (by decide) (wr.heap.size + 1) rfl ?c1 _ l[k].opens.length (wrCells l[k].opens) rfl ?c2 (wr_one _) ?c3 ?c4 ?c5 ?_; rotate_right 1; intro q2 qc2 w5 hown5 hg5; obtain ⟨x0, hcp⟩ := copy_at hg5 hown5.out; have HCP := Lib.hid hcp; have e0 : w5.cell? ⟨wr.heap.size, 0, none⟩ = some (.string l[k].name) := (by simp [World.cell?, x0]); have e1 : w5.cell? ⟨wr.heap.size, 1, none⟩ = some (.string l[k].safe) := (by simp [World.cell?, x0]); have e2 : w5.cell? ⟨wr.heap.size, 2, none⟩ = some (.slice p3 l[k].opens.length cap3) := (by simp [World.cell?, x0]); have e3 : w5.frozen? ⟨wr.heap.size, 2, none⟩ = false := (by simp [World.frozen?, x0]); have e4 := (Array.getElem?_eq_some_iff.1 x0).1; have U5 : VarAt w5 (w.heap.size + 1 + 1) (.slice q d.length qc) := (hg5.block _ (by simp; omega) (by simp; omega)).trans ((((hu.out).old _).old _)); have u0 := U5.c; have u1 := U5.f; have u2 := U5.lt; clear x0 hcp hown5) | (at_builtin; refine wpList_append_own _ rfl _ _ 22 rfl (w.heap.size + 3) 58 i0 (.agg #[.string .empty, .string .empty, .slice none 0 0]) 3 56 Try.underlying22 hi hz0 hz1 hz2 rfl (by decide) _ d.length (rowCells d) rfl ?g1 ⟨w5.heap.size, 0, none⟩ 1 1 [.string l[k].name, .string l[k].safe, .slice q2 l[k].opens.length qc2] rfl rfl ?g2 ?g3 ?g4 ?g5 ?g6 ?_; rotate_right 1; intro v6 w6 hown6 hg6 _; obtain ⟨q6, qc6, rfl⟩ := owns_shape hown6; have HO6 := Lib.hid hown6; have V6 := copy_var HCP.out hown.out hu.out hg6; have v0 := V6.c; have v1 := V6.f; have v2 := V6.lt; clear hown6))
      case c1 => exact owns_empty (by have := heap_alloc_new (wr.alloc (.cells #[.string l[k].name, .string l[k].safe, .slice p3 l[k].opens.length cap3] 58)) (.cells #[] 76); simpa using this) (Nat.le_refl _)
      case c2 => exact HOP.out.below (below2 wr _ _)
      case c3 => unfold maxLen; omega
      case c4 => omega
      case c5 => simp
      case g1 => exact owns_below (owns_below hown.out.1 HCP.out.below) (below1 _ _)
      case g2 =>
        intro j u hu
        rw [add_lit, Nat.zero_add, cell_of_row _ _ _ _ 58 _ new_cells]
        simpa using hu
      case g3 =>
        intro u hu
        simp at hu
        rcases hu with rfl | rfl | rfl <;> rfl
      case g4 => have := hdl.out; unfold maxLen; omega
      case g5 => have := hdl.out; omega
      case g6 => have := HCP.out.below.size; have := hbl.out.size; simp at *; omega
      go_roundw
      case rel =>
        have hbs := hbl.out.size
        obtain ⟨k1, k2, k3⟩ := copy_next HCP.out hown.out hu.out (Nat.le_succ _) (by omega) hg6 HO6.out
        refine ⟨k + 1, _, d ++ [Rw.mk l[k].name l[k].safe (.slice q2 l[k].opens.length qc2) l[k].opens], by omega, by go_num, ?_, ?_, k2, k1, hbl.out.trans k3⟩
        · show _ = _; simp [hdl.out]
        · show _ = _
          rw [List.map_append, hdc.out, List.take_succ_eq_append_getElem hlt, List.map_append]; rfl
      case measure => simp [intOf]; omega
    · obtain rfl : k = l.length := by omega
      go_wp2_with fail
      refine bodyPost_ret (v := .agg #[.slice q d.length qc]) (by simp [results, Try.results10, go_sem, f1]) rfl
        ⟨_, d, rfl, by rw [hdc.out, List.take_length], (hown.out.mono (by omega)).set (u := .slice none 0 0) ?_ _, HBW.out.setCell (by simp) _⟩
      exact (hbl.out.block _ (by omega)).trans HR0.out
end Go.Proofs.Ytkecjopojnllnaa
