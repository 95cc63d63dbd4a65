/- Step, when it takes an interrupt. -/
import Derived.Test.YtjohcpokmdofkaaGreatDoorYHA
namespace Go.Proofs.YtjohcpokmdofkaaGreatDoor
open Go.RowKit Go.Deep Go.Joins
theorem MBox.store_cnt {w : World} {g : Nat} {m : Mc} (k : MBox w g m) (n : Int) : (Instr.storeAt 22 (.pointer (some ⟨g, 76, none⟩)) (.int .u64 n)).run Tryz.prog w = .ok () (w.setRow g (mcC { m with cnt := n })) := by
  exact (run_store_cell w g 76 22 42 (mcC m) _ k size22 (by rw [mcC_size]; omega) rfl rfl).trans (by rw [mc_set m { m with cnt := n } 3 _ rfl rfl rfl])
/-- A machine behind a step that takes an interrupt. -/
def hintM (m : Mc) (n : Nat) : Mc := { m with h := Tr.takeF m.h n true 0, cnt := IntKind.u64.wrap (m.cnt + 1) }
/-- A machine's block turned, its parts are where they were. -/
theorem MS.turn {W w : World} {B z : Nat} {m m' : Mc} {p : Pt} (K : MS W B z m p) (hb : m'.b = m.b) (hd : m'.dv = m.dv) (hm : m'.mv = m.mv) (ho : m'.ov = m.ov) (h : Touch W w (fun k => k = z)) (hx : MBox w z m') : MS w B z m' p := by
  have ne : ∀ (g : Nat) (cs : Array Value) (t : TypeId), W.heap[g]? = some (.cells cs t (0, 0)) → t ≠ 42 → w.heap[g]? = W.heap[g]? := fun g cs t hg ht => h.block g (Array.getElem?_eq_some_iff.1 hg).1 fun e => by
    rw [e, K.box] at hg
    simp only [Option.some.injEq, Obj.cells.injEq] at hg
    exact ht hg.2.1.symm
  have d1 : OwnD w B m.dv p.D := owns_same K.d fun g hg => by
    obtain ⟨cur, hc⟩ := owns_block K.d hg
    exact ne g cur 5 hc (by decide)
  have d2 : OwnM w B m.mv p.M := owns_same K.mm fun g hg => by
    obtain ⟨cur, hc⟩ := owns_block K.mm hg
    exact ne g cur 22 hc (by decide)
  have d3 : w.ownsRow B 175 3 m.ov p.O.length (oC p.O) := owns_same K.o fun g hg => by
    obtain ⟨cur, hc⟩ := owns_block K.o hg
    exact ne g cur 175 hc (by decide)
  have d4 : FT w B (.slice m.b.fp m.b.fn m.b.fc) p.F := K.fr.keep fun g cur _ hg => ne g cur 9 hg (by decide)
  refine ⟨hx, K.big, ?_, ?_, ?_, ?_⟩
  · rw [hb]; exact d4
  · rw [hd]; exact d1
  · rw [hm]; exact d2
  · rw [ho]; exact d3
set_option maxRecDepth 100000 in
set_option maxHeartbeats 4000000 in
theorem hstep_int (z B : Nat) (m : Mc) (p : Pt) (n : Nat) (W : World) (K : MS W B z m p) (hp : Tr.pendV m.h (linesV m p) = n) (hn : n ≤ 63) : Calls Tryz.prog 10 #[.pointer (some ⟨z, 0, none⟩)] W fun e W' => e = .returned (.tuple #[]) ∧ MS W' B z (hintM m n) p ∧ Touch W W' (fun k => k = z) := by
  have CL := Lib.hid (fun w => lines_m m p w K.len)
  have HK := Lib.hid K
  have HP := Lib.hid hp
  have HN := Lib.hid hn
  clear K hp hn
  generalize linesV m p = l at CL HP
  have X := Lib.hid (Below.refl W.heap.size W)
  go_enter Tryz.func10, Tryz.ntmps10
  go_upto_region 2 with (first | (with_reducible refine wpList_load_by rfl rfl (MBox.load (HK.out.box.next X.out)) rfl ?_) | (go_at_call 23; (with_reducible refine (CL.out _).mono ?_); rintro e wb ⟨rfl, kk⟩; have X := Lib.hid (below_then X.out kk); clear kk) | fail)
  have X := Lib.hid (below_then X.out (below1 wb (wkO z l)))
  have kw : (wb.alloc (wkO z l)).heap[wb.heap.size]? = some (wkO z l) := heap_alloc_last wb _
  generalize wb.heap.size = wk at kw ⊢
  generalize hwc : wb.alloc (wkO z l) = wc at X kw
  have e : wb.alloc (.cells #[.pointer (some ⟨z, 0, none⟩), .int .i64 0, .int .i64 0, .int .i64 0, .int .i64 0, .int .i64 0, .int .u32 0, .int .u64 0, .int .u64 l] 75) = wc := hwc
  rw [e]
  clear e hwc
  have C3 := Lib.hid (step_int z wk m l n wc (HK.out.box.next X.out) kw HP.out HN.out)
  have hne : wk ≠ z := fun e => by
    have k := HK.out.box.next X.out
    rw [e, k] at kw
    simp only [Option.some.injEq, Obj.cells.injEq] at kw
    exact absurd kw.2.1 (by decide)
  have KW := Lib.hid kw
  have HNE := Lib.hid hne
  clear kw hne
  go_upto_region 3 with (first | (go_at_call 24; (with_reducible refine C3.out.mono ?_); rintro e wd ⟨rfl, hh⟩; have hh := Lib.hid hh) | fail)
  obtain ⟨wx, kk, hw⟩ := hh.out
  have hk2 : wd.heap[wk]? = some (wkO z l) := by rw [hw]; exact (setRow_other _ _ _ _ HNE.out).trans ((kk.block wk (Array.getElem?_eq_some_iff.1 KW.out).1).trans KW.out)
  have hz2 : MBox wd z (intM m n) := (HK.out.box.next (below_then X.out kk)).put hw
  have T2 := Lib.hid (show Touch W wd (fun k => k = z) by rw [hw]; exact (touch_of_below (below_then X.out kk) (fun k => k = z)).setRow (.inl rfl) _)
  have m_w : wd.cell? ⟨wk, 0, none⟩ = some (.pointer (some ⟨z, 0, none⟩)) := cell_of_row _ _ 0 _ 75 (0, 0) hk2
  have HZ := Lib.hid hz2
  clear hk2 hz2 kk hw hh
  go_wp2_with (first | (with_reducible refine wpList_load_by rfl rfl (MBox.load_cnt HZ.out) rfl ?_) | (with_reducible refine wpList_store_by rfl rfl (MBox.store_cnt HZ.out _) rfl rfl ?_) | fail)
  refine bodyPost_end (results_none rfl _ _ _) rfl ⟨rfl, ?_⟩
  have t3 := T2.out.setRow (.inl rfl) (mcC { intM m n with cnt := IntKind.u64.wrap (m.cnt + 1) })
  exact ⟨HK.out.turn rfl rfl rfl rfl t3 (HZ.out.put rfl), t3⟩

end Go.Proofs.YtjohcpokmdofkaaGreatDoor
