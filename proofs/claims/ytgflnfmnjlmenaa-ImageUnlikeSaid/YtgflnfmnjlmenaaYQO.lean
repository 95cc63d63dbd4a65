/- A copy of a machine, and what is turned in it. -/
import Derived.Test.YtgflnfmnjlmenaaYZA
namespace Go.Proofs.Ytgflnfmnjlmenaa
open Go.RowKit Go.Deep Go.Joins
set_option maxRecDepth 100000
/-- A machine in a variable, made since the world Wc. -/
structure Cp (Wc w : World) (z : Nat) (m : Mc) (p : Pt) : Prop where
  ms : MS w Wc.heap.size z m p
  hb : Below Wc.heap.size Wc w
theorem Cp.next {Wc w w' : World} {z : Nat} {m : Mc} {p : Pt} (k : Cp Wc w z m p) (h : Below w.heap.size w w') : Cp Wc w' z m p := ⟨k.ms.next h, below_then k.hb h⟩
theorem Cp.put {Wc w : World} {z : Nat} {m : Mc} {p : Pt} (k : Cp Wc w z m p) (m' : Mc) (hb : m'.b = m.b) (hd : m'.dv = m.dv) (hm : m'.mv = m.mv) (ho : m'.ov = m.ov) : Cp Wc (w.setRow z (mcC m')) z m' p :=
  ⟨⟨k.ms.box.put rfl, k.ms.big, by rw [hb]; exact k.ms.fr.over k.ms.box (by decide) _, by rw [hd]; exact owns_over k.ms.d k.ms.box (by decide) _, by rw [hm]; exact owns_over k.ms.mm k.ms.box (by decide) _, by rw [ho]; exact owns_over k.ms.o k.ms.box (by decide) _⟩, below_setRow k.hb k.ms.big _⟩
/-- A machine's parts that were made by a call are laid into the variable. -/
theorem Cp.lay {Wc w w' : World} {z : Nat} {m n : Mc} {p q : Pt} (k : Cp Wc w z m p) (h : Below w.heap.size w w') (hf : FT w' w.heap.size (.slice n.b.fp n.b.fn n.b.fc) q.F) (hd : OwnD w' w.heap.size n.dv q.D) (hm : OwnM w' w.heap.size n.mv q.M) (ho : w'.ownsRow w.heap.size 52 3 n.ov q.O.length (oC q.O)) : Cp Wc (w'.setRow z (mcC n)) z n q := by
  have kb := k.hb.size
  have k' := k.next h
  exact ⟨⟨k'.ms.box.put rfl, k.ms.big, (hf.base kb).over k'.ms.box (by decide) _, owns_base (owns_over hd k'.ms.box (by decide) _) kb, owns_base (owns_over hm k'.ms.box (by decide) _) kb, owns_base (owns_over ho k'.ms.box (by decide) _) kb⟩, below_setRow k'.hb k.ms.big _⟩
theorem Cp.new {Wc w' : World} {n : Mc} {q : Pt} {cs : Array Value} (h : Below Wc.heap.size Wc w') (hf : FT w' Wc.heap.size (.slice n.b.fp n.b.fn n.b.fc) q.F) (hd : OwnD w' Wc.heap.size n.dv q.D) (hm : OwnM w' Wc.heap.size n.mv q.M) (ho : w'.ownsRow Wc.heap.size 52 3 n.ov q.O.length (oC q.O)) : Cp Wc ((w'.alloc (.cells cs 42)).setRow w'.heap.size (mcC n)) w'.heap.size n q := by
  have hz : (w'.alloc (.cells cs 42)).heap[w'.heap.size]? = some (.cells cs 42 (0, 0)) := heap_alloc_last w' _
  have b := below1 w' (.cells cs 42)
  refine ⟨⟨setRow_heap _ _ _ _ 42 (0, 0) hz, h.size, ?_, owns_over (owns_below hd b) hz (by decide) _, owns_over (owns_below hm b) hz (by decide) _, owns_over (owns_below ho b) hz (by decide) _⟩, below_setRow (below_then h b) h.size _⟩
  exact (hf.keep fun g cur _ hg => b.block g (Array.getElem?_eq_some_iff.1 hg).1).over hz (by decide) _
/-- One cell of a row is stored. -/
theorem store_row {e t : Nat} {w : World} {B n cap h j : Nat} {xs : List Value} (ht : (Try.prog.info? t).map (·.size) = some 1) (ho : w.ownsRow B e 1 (.slice (some ⟨h, 0, none⟩) n cap) n xs) (hj : j < n) (v : Value) (h1 : v.oneCell' = true) (hc : v.cells = #[v]) :
    ∃ cur cur', w.heap[h]? = some (.cells cur e (0, 0)) ∧ (Instr.storeAt t (.pointer (some ⟨h, j, none⟩)) v).run Try.prog w = .ok () (w.setRow h cur') ∧ (w.setRow h cur').ownsRow B e 1 (.slice (some ⟨h, 0, none⟩) n cap) n (xs.set j v) ∧ B ≤ h := by
  rcases ho.2 with ⟨h', _⟩ | ⟨g', cap', cur, h', hb, hg, hnc, hcm, hcs, htake⟩
  · simp at h'
  · simp only [Value.slice.injEq, Option.some.injEq, Addr.mk.injEq, and_true, true_and] at h'
    obtain ⟨rfl, rfl⟩ := h'
    have s := (World.ownsRow.stored ho j v).1
    rw [setCell_eq_setRow w h j cur e (0, 0) v hg] at s
    exact ⟨cur, _, hg, run_store_cell w h j t e cur v hg ht (by omega) h1 hc, s, hb⟩
theorem Cp.mark {Wc w : World} {z : Nat} {m : Mc} {p : Pt} (k : Cp Wc w z m p) {j : Nat} (hj : j < p.M.length) (e : Int) :
    ∃ h cap cur, m.mv = .slice (some ⟨h, 0, none⟩) p.M.length cap ∧ (Instr.storeAt 22 (.pointer (some ⟨h, j, none⟩)) (.int .u64 e)).run Try.prog w = .ok () (w.setRow h cur) ∧ Cp Wc (w.setRow h cur) z m { p with M := p.M.set j e } := by
  have hm := k.ms.mm
  unfold OwnM at hm
  rcases hm.2 with ⟨_, h0⟩ | ⟨h, cap, _, e1, _⟩
  · omega
  rw [e1] at hm
  obtain ⟨cur, cur', hg, hr, ho, hB⟩ := store_row (t := 22) (by kernel_rfl) hm hj (.int .u64 e) rfl rfl
  have e2 : (mC p.M).set j (.int .u64 e) = mC (p.M.set j e) := by
    apply List.ext_getElem (by simp [mC])
    intro k h1 h2
    simp only [mC, List.getElem_set, List.getElem_map]
    split <;> rfl
  rw [e2] at ho
  have hz : z ≠ h := fun x => by
    subst x
    have := hg.symm.trans k.ms.box
    simp at this
  refine ⟨h, cap, cur', e1, hr, ⟨k.ms.box.over hz _, k.ms.big, k.ms.fr.over hg (by decide) _, owns_over k.ms.d hg (by decide) _, ?_, owns_over k.ms.o hg (by decide) _⟩, below_setRow k.hb hB _⟩
  show (w.setRow h cur').ownsRow _ _ _ _ _ _
  rw [e1, List.length_set]
  exact ho
theorem Cp.byte {Wc w : World} {z : Nat} {m : Mc} {p : Pt} (k : Cp Wc w z m p) {j : Nat} (hj : j < p.D.length) (b : UInt8) :
    ∃ h cap cur, m.dv = .slice (some ⟨h, 0, none⟩) p.D.length cap ∧ w.cell? ⟨h, j, none⟩ = some (.int .u8 (p.D[j].toNat : Nat)) ∧ (Instr.storeAt 5 (.pointer (some ⟨h, j, none⟩)) (.int .u8 (b.toNat : Nat))).run Try.prog w = .ok () (w.setRow h cur) ∧ Cp Wc (w.setRow h cur) z m { p with D := p.D.set j b } := by
  have hm := k.ms.d
  unfold OwnD at hm
  rcases hm.2 with ⟨_, h0⟩ | ⟨h, cap, _, e1, _⟩
  · omega
  rw [e1] at hm
  obtain ⟨cur, cur', hg, hr, ho, hB⟩ := store_row (t := 5) (by kernel_rfl) hm hj (.int .u8 (b.toNat : Nat)) rfl rfl
  have hcell := hm.cells (g := h) rfl j (.int .u8 (p.D[j].toNat : Nat)) (by rw [dC, List.getElem?_map, List.getElem?_eq_getElem hj]; rfl)
  rw [show (⟨h, 0, none⟩ : Addr).add j = ⟨h, j, none⟩ from by unfold Addr.add; split <;> simp_all] at hcell
  have e2 : (dC p.D).set j (.int .u8 (b.toNat : Nat)) = dC (p.D.set j b) := by
    apply List.ext_getElem (by simp [dC])
    intro k h1 h2
    simp only [dC, List.getElem_set, List.getElem_map]
    split <;> rfl
  rw [e2] at ho
  have hz : z ≠ h := fun x => by
    subst x
    have := hg.symm.trans k.ms.box
    simp at this
  refine ⟨h, cap, cur', e1, hcell, hr, ⟨k.ms.box.over hz _, k.ms.big, k.ms.fr.over hg (by decide) _, ?_, owns_over k.ms.mm hg (by decide) _, owns_over k.ms.o hg (by decide) _⟩, below_setRow k.hb hB _⟩
  show (w.setRow h cur').ownsRow _ _ _ _ _ _
  rw [e1, List.length_set]
  exact ho
theorem Cp.more {Wc w : World} {z : Nat} {m : Mc} {p : Pt} (k : Cp Wc w z m p) (r : Rec) (hO : (p.O.length + 1) * 32 ≤ 140737488355328) (ty : TypeId) :
    ∃ q c w2, (Builtin.append_ #[40, 40] ty #[m.ov, .slice (some ⟨w.heap.size, 0, none⟩) 1 1]).run Try.prog (w.alloc (.cells (rcC r) 52)) = .ok (.slice q (p.O.length + 1) c) w2 ∧ MBox w2 z m ∧ Cp Wc (w2.setRow z (mcC { m with ov := .slice q (p.O.length + 1) c })) z { m with ov := .slice q (p.O.length + 1) c } { p with O := p.O ++ [r] } := by
  obtain ⟨i, hi, hz, hs, hby⟩ := info52
  have k1 := k.next (below1 w (.cells (rcC r) 52))
  have ha := heap_alloc_last w (.cells (rcC r) 52)
  obtain ⟨v', w2, hrun, ho, hgr, _⟩ := run_append_own (P := Try.prog) (w := w.alloc (.cells (rcC r) 52)) Wc.heap.size 40 ty 52 i (.agg rcZ) 3 32 Try.underlying40 hi hz hs hby rfl (by omega) m.ov p.O.length (oC p.O) k1.ms.o ⟨w.heap.size, 0, none⟩ 1 1 [.int .u64 r.1, .int .i64 r.2.1, .string r.2.2] rfl
    (fun j u hu => by
      rw [show (⟨w.heap.size, 0, none⟩ : Addr).add j = ⟨w.heap.size, j, none⟩ from by unfold Addr.add; split <;> simp_all, cell_of_row _ w.heap.size j _ 52 (0, 0) ha]
      simpa using hu)
    (by intro u hu; simp only [List.mem_cons, List.not_mem_nil, or_false] at hu; rcases hu with rfl | rfl | rfl <;> rfl) (by unfold maxLen; omega) hO k1.hb.size
  have ht := touch_of_grown hgr
  obtain ⟨q, c, rfl⟩ := owns_shape ho
  have hbx : MBox w2 z m := k1.ms.box.touch ht fun h => not_at k1.ms.o k1.ms.box (by decide) h.symm
  have eo : oC p.O ++ [.int .u64 r.1, .int .i64 r.2.1, .string r.2.2] = oC (p.O ++ [r]) := by rw [oC_append]; rfl
  rw [eo] at ho
  have hfr : FT w2 Wc.heap.size (.slice m.b.fp m.b.fn m.b.fc) p.F := k1.ms.fr.keep fun g cur _ hg => ht.block g (Array.getElem?_eq_some_iff.1 hg).1 fun h => by
    obtain ⟨c2, h2⟩ := owns_block k1.ms.o h.symm
    rw [h2] at hg
    simp at hg
  refine ⟨q, c, w2, hrun, hbx, ⟨⟨hbx.put rfl, k.ms.big, hfr.over hbx (by decide) _, owns_over (owns_touch k1.ms.d ht fun g hg h => rows_apart k1.ms.d k1.ms.o (by decide) hg h.symm) hbx (by decide) _, owns_over (owns_touch k1.ms.mm ht fun g hg h => rows_apart k1.ms.mm k1.ms.o (by decide) hg h.symm) hbx (by decide) _, ?_⟩, ?_⟩⟩
  · show (w2.setRow z _).ownsRow _ _ _ _ _ _
    rw [List.length_append]
    exact owns_over ho hbx (by decide) _
  · exact below_setRow (Touch.below k1.hb ht (fun g hg => (owns_lt k1.ms.o hg.symm).1) k1.hb.size) k.ms.big _
theorem mc_reg (m : Mc) (i : Nat) (hi : i < 32) (v : Int) (m' : Mc) (h1 : m'.h.x = m.h.x.set i v) (h2 : tailL m'.h = tailL m.h) (hb : m'.b = m.b) (ht : mcT m' = mcT m) : (mcC m).setIfInBounds i (.int .u64 v) = mcC m' := by
  unfold mcC mcL hartL
  rw [List.setIfInBounds_toArray, List.append_assoc, List.set_append_left _ _ (by rw [xL_length]; exact hi), h2, hb, ht, List.append_assoc]
  congr 2
  unfold xL
  rw [h1, List.map_set]
theorem MBox.store_x {w : World} {g : Nat} {m : Mc} (k : MBox w g m) {i : Nat} (hi : i < 32) (v : Int) (m' : Mc) (h1 : m'.h.x = m.h.x.set i v) (h2 : tailL m'.h = tailL m.h) (hb : m'.b = m.b) (ht : mcT m' = mcT m) : (Instr.storeAt 22 (.pointer (some ⟨g, i, none⟩)) (.int .u64 v)).run Try.prog w = .ok () (w.setRow g (mcC m')) :=
  (run_store_cell w g i 22 42 (mcC m) _ k size22 (by rw [mcC_size]; omega) rfl rfl).trans (by rw [mc_reg m i hi v m' h1 h2 hb ht])
theorem MBox.store_E {w : World} {g : Nat} {m : Mc} (k : MBox w g m) (e : Int) : (Instr.storeAt 22 (.pointer (some ⟨g, 75, none⟩)) (.int .u64 e)).run Try.prog w = .ok () (w.setRow g (mcC { m with E := e })) :=
  (run_store_cell w g 75 22 42 (mcC m) _ k size22 (by rw [mcC_size]; omega) rfl rfl).trans (by rw [mc_set m { m with E := e } 2 _ rfl rfl rfl])
theorem MBox.load_E {w : World} {g : Nat} {m : Mc} (k : MBox w g m) : (Instr.loadAt 22 (.pointer (some ⟨g, 75, none⟩))).run Try.prog w = .ok (.int .u64 m.E) w :=
  run_load_cell w g 75 22 42 (mcC m) _ _ k Try.underlying22 rfl (mcC_t m 2)
theorem MBox.load_mv' {w : World} {g : Nat} {m : Mc} (k : MBox w g m) {v : Value} (e : m.mv = v) : (Instr.loadAt 37 (.pointer (some ⟨g, 74, none⟩))).run Try.prog w = .ok v w := by
  subst e
  exact run_load_cell w g 74 37 42 (mcC m) _ _ k Try.underlying37 rfl (mcC_t m 1)
theorem MBox.load_dv' {w : World} {g : Nat} {m : Mc} (k : MBox w g m) {v : Value} (e : m.dv = v) : (Instr.loadAt 36 (.pointer (some ⟨g, 73, none⟩))).run Try.prog w = .ok v w := by
  subst e
  exact run_load_cell w g 73 36 42 (mcC m) _ _ k Try.underlying36 rfl (mcC_t m 0)
theorem MBox.cell_x {w : World} {g : Nat} {m : Mc} (k : MBox w g m) {i : Nat} (hi : i < 32) : w.cell? ⟨g, i, none⟩ = some (.int .u64 (m.h.x.getD i 0)) :=
  (cell_of_row w g i (mcC m) 42 (0, 0) k).trans (by
    rw [mcC_h m i (by omega), hartC_x m.h i hi, xL, List.getElem?_map, List.getD_eq_getElem?_getD, List.getElem?_eq_getElem (by rw [m.h.hx]; exact hi)]
    rfl)
end Go.Proofs.Ytgflnfmnjlmenaa
