/- A step that takes an interrupt. -/
import Derived.Test.YtjohcpokmdofkaaGreatDoorYTF
import Derived.Test.YtjohcpokmdofkaaGreatDoorYBLN
namespace Go.Proofs.YtjohcpokmdofkaaGreatDoor
open Go.RowKit Go.Deep Go.Joins
theorem MBox.hcell {w : World} {g : Nat} {m : Mc} (k : MBox w g m) (j : Nat) (hj : j < 20) : w.cell? ⟨g, 32 + j, none⟩ = (tailL m.h)[j]? :=
  (cell_of_row w g (32 + j) (mcC m) 42 (0, 0) k).trans ((mcC_h m (32 + j) (by omega)).trans (hartC_tail m.h j))
theorem MBox.store_hart {w : World} {g : Nat} {m : Mc} (k : MBox w g m) (h : Hart) : (Instr.storeAt 27 (.pointer (some ⟨g, 0, none⟩)) (hartV h)).run Tryz.prog w = .ok () (w.setRow g (mcC { m with h := h })) :=
  run_store_part w g 0 42 27 (mcC m) (mcC { m with h := h }) (hartC h) k (by rw [size27, hartC_size]) (hart_one h) (by rw [hartC_size, mcC_size]; omega)
    (by
      show mcL _ = (mcL m).take 0 ++ _ ++ (mcL m).drop _
      rw [hartC_size]
      exact take_mid [] (hartL m.h) ((bdC m.b).toList ++ mcT m) (hartL h) 0 52 rfl (hartL_length _))
theorem mc_setH (m m' : Mc) (k : Nat) (v : Value) (hk : k < 52) (hb : m'.b = m.b) (ht : mcT m' = mcT m) (he : hartL m'.h = (hartL m.h).set k v) : (mcC m).setIfInBounds k v = mcC m' := by
  unfold mcC mcL
  rw [List.setIfInBounds_toArray, List.set_append_left _ _ (by rw [hartL_length]; exact hk), he, hb, ht]
theorem hart_setT (h g : Hart) (j : Nat) (v : Value) (hx : g.x = h.x) (ht : tailL g = (tailL h).set j v) : hartL g = (hartL h).set (32 + j) v := by
  unfold hartL
  rw [List.set_append_right _ _ (by rw [xL_length]; omega), xL_length, ht]
  unfold xL
  rw [hx]
  congr 2
  omega
/-- A number of the processor, stored. -/
theorem MBox.store_h {w : World} {g : Nat} {m m' : Mc} (k : MBox w g m) (ty j : Nat) (v : Value) (hu : (Tryz.prog.info? ty).map (·.size) = some 1) (hc : v.cells = #[v]) (h1 : v.oneCell' = true) (hj : j < 20) (hb : m'.b = m.b) (ht : mcT m' = mcT m) (hx : m'.h.x = m.h.x) (he : tailL m'.h = (tailL m.h).set j v) : (Instr.storeAt ty (.pointer (some ⟨g, 32 + j, none⟩)) v).run Tryz.prog w = .ok () (w.setRow g (mcC m')) := by
  rw [← mc_setH m m' (32 + j) v (by omega) hb ht (hart_setT m.h m'.h j v hx he)]
  exact run_store_cell w g (32 + j) ty 42 (mcC m) v k hu (by rw [mcC_size]; omega) h1 hc
/-- What a step works on, as it begins. -/
def wkC (z : Nat) (l : Int) : Array Value := #[.pointer (some ⟨z, 0, none⟩), .int .i64 0, .int .i64 0, .int .i64 0, .int .i64 0, .int .i64 0, .int .u32 0, .int .u64 0, .int .u64 l]
abbrev wkO (z : Nat) (l : Int) : Obj := .cells (wkC z l) 75
/-- A machine's step in an interrupt. -/
def intM (m : Mc) (n : Nat) : Mc := { m with h := Tr.takeF m.h n true 0 }
set_option maxRecDepth 100000 in
set_option maxHeartbeats 4000000 in
theorem step_int (z wk : Nat) (m : Mc) (l : Int) (n : Nat) (W : World) (K : MBox W z m) (Kw : W.heap[wk]? = some (wkO z l)) (hp : Tr.pendV m.h l = n) (hn : n ≤ 63) : Calls Tryz.prog 24 #[.pointer (some ⟨wk, 0, none⟩)] W fun e W' => e = .returned (.tuple #[]) ∧ ∃ wx, Below W.heap.size W wx ∧ W' = wx.setRow z (mcC (intM m n)) := by
  have C1 := Lib.hid (fun W' => hp ▸ Tr.pend_any m.h l W')
  have C2 := Lib.hid (fun W' => Tr.take_any m.h n true 0 hn W')
  have hne : ((n : Int) != -1) = true := bne_iff_ne.2 (by omega)
  have KM := Lib.hid (fun w (h : Below W.heap.size W w) => K.next h)
  have KW := Lib.hid (fun w (h : Below W.heap.size W w) => (h.block wk (Array.getElem?_eq_some_iff.1 Kw).1).trans Kw)
  have HS := Lib.hid (fun w (h : Below W.heap.size W w) => (And.intro (KM.out w h) (KW.out w h) : MBox w z m ∧ w.heap[wk]? = some (wkO z l)))
  have P0 := Lib.hid (fun w (h : MBox w z m ∧ w.heap[wk]? = some (wkO z l)) => run_load_cell (P := Tryz.prog) w wk 0 48 75 (wkC z l) (.pointer (some ⟨z, 0, none⟩)) _ h.2 Tryz.underlying48 rfl rfl)
  have P8 := Lib.hid (fun w (h : MBox w z m ∧ w.heap[wk]? = some (wkO z l)) => run_load_cell (P := Tryz.prog) w wk 8 22 75 (wkC z l) (.int .u64 l) _ h.2 Tryz.underlying22 rfl rfl)
  have Q0 := Lib.hid (fun w (h : w.heap[wk]? = some (wkO z l)) => run_load_cell (P := Tryz.prog) w wk 0 48 75 (wkC z l) (.pointer (some ⟨z, 0, none⟩)) _ h Tryz.underlying48 rfl rfl)
  have HNE := Lib.hid (show wk ≠ z from fun e => by rw [e, K] at Kw; simp only [Option.some.injEq, Obj.cells.injEq] at Kw; exact absurd Kw.2.1 (by decide))
  clear K Kw hp
  generalize hm : intM m n = m1
  have HM := Lib.hid hm
  clear hm
  have X := Lib.hid (Below.refl W.heap.size W)
  go_enter Tryz.func24, Tryz.ntmps24
  go_upto_region 0 with (fail)
  refine dr (fun w => MBox w z m ∧ w.heap[wk]? = some (wkO z l)) fun wz hzz => ?_
  have X := Lib.hid (below_then X.out hzz)
  clear hzz
  have hS := HS.out _ X.out
  refine tk 0 hS ?_
  refine tk 1 hS ?_
  refine tk 2 hS ?_
  refine tk 3 hS ?_
  refine tl 4 hS P0.out ?_
  refine tk 5 hS ?_
  refine tk 6 hS ?_
  refine tl 7 hS (fun w hw => MBox.load_hart hw.1) ?_
  refine tk 8 hS ?_
  refine tk 9 hS ?_
  refine tk 10 hS ?_
  refine tl 11 hS P8.out ?_
  refine hc 12 (calls_told (C1.out _)) ?_
  rintro v' wb ⟨rfl, kk⟩
  have X := Lib.hid (below_then X.out kk)
  refine ⟨HS.out _ X.out, fun hS => ?_⟩
  clear kk
  simp only [puts]
  refine tk 13 hS ?_
  refine wpAnyH_done (by kernel_rfl) ?_ _
  clear hS
  go_upto_region 2 with (fail)
  refine dr (fun w => w.heap[wk]? = some (wkO z l)) fun wz hzz => ?_
  have X := Lib.hid (below_then X.out hzz)
  clear hzz
  have hS := KW.out _ X.out
  refine tk 0 hS ?_
  refine tk 1 hS ?_
  refine tk 2 hS ?_
  refine tk 3 hS ?_
  refine tl 4 hS Q0.out ?_
  refine tk 5 hS ?_
  refine tk 6 hS ?_
  refine tk 7 hS ?_
  refine tk 8 hS ?_
  refine tl 9 hS Q0.out ?_
  refine tk 10 hS ?_
  refine tk 11 hS ?_
  refine tk 13 hS ?_
  refine hl 12 (MBox.load_hart (KM.out _ X.out)) hS ?_
  refine hc 14 (calls_told (C2.out _)) ?_
  rintro v' wb ⟨rfl, kk⟩
  have X := Lib.hid (below_then X.out kk)
  refine ⟨KW.out _ X.out, fun hS => ?_⟩
  clear kk
  simp only [puts]
  refine tk 15 hS ?_
  refine tk 16 hS ?_
  refine hs 17 (MBox.store_hart (KM.out _ X.out) _) fun wy hw => ?_
  have hS2 : wy.heap[wk]? = some (wkO z l) := by rw [hw]; exact (setRow_other _ _ _ _ HNE.out).trans hS
  refine ⟨hS2, fun hS => wpAnyH_done (by kernel_rfl) ?_ _⟩
  go_wp2_with fail
  refine bodyPost_ret (results_none rfl _ _ _) rfl ⟨rfl, _, X.out, ?_⟩
  rw [← HM.out]
  exact hw

end Go.Proofs.YtjohcpokmdofkaaGreatDoor
