/- Do. -/
import Derived.Test.YtfpdfhncifcghaaU
namespace Go.Proofs.Ytfpdfhncifcghaa
open Go.RowKit

def dopCells (l : List DOp) : List Value := l.flatMap fun r => [.int .i64 r.kind, .string r.name, .int .i64 r.pos, .string r.bytes]
theorem dopCells_length (l : List DOp) : (dopCells l).length = l.length * 4 := by
  induction l with
  | nil => rfl
  | cons x l ih => simp only [dopCells, List.flatMap_cons, List.length_append, List.length_cons, List.length_nil] at *; omega
theorem dopCells_get (l : List DOp) (k : Nat) (h : k < l.length) :
    (dopCells l)[k * 4]? = some (.int .i64 l[k].kind) ∧ (dopCells l)[k * 4 + 1]? = some (.string l[k].name) ∧ (dopCells l)[k * 4 + 2]? = some (.int .i64 l[k].pos) ∧ (dopCells l)[k * 4 + 3]? = some (.string l[k].bytes) := by
  induction l generalizing k with
  | nil => simp at h
  | cons x l ih =>
    have e : dopCells (x :: l) = .int .i64 x.kind :: .string x.name :: .int .i64 x.pos :: .string x.bytes :: dopCells l := rfl
    rw [e]
    cases k with
    | zero => simp
    | succ k =>
      have := ih k (by simpa using h)
      rw [show (k + 1) * 4 = k * 4 + 1 + 1 + 1 + 1 by omega]
      simpa using this
theorem Reads.dop {w : World} {v : Value} {l : List DOp} (h : Reads w v 4 l.length (dopCells l)) (k : Nat) (hk : k < l.length) :
    ∃ b off cap, v = .slice (some ⟨b, off, none⟩) l.length cap ∧ b < w.heap.size ∧ w.cell? ⟨b, off + k * 4, none⟩ = some (.int .i64 l[k].kind) ∧ w.cell? ⟨b, off + k * 4 + 1, none⟩ = some (.string l[k].name) ∧
      w.cell? ⟨b, off + k * 4 + 2, none⟩ = some (.int .i64 l[k].pos) ∧ w.cell? ⟨b, off + k * 4 + 3, none⟩ = some (.string l[k].bytes) := by
  obtain ⟨b, off, cap, hv, _, _, hb, hc⟩ := h.at (by omega)
  obtain ⟨g0, g1, g2, g3⟩ := dopCells_get l k hk
  exact ⟨b, off, cap, hv, hb, hc _ _ g0, hc _ _ g1, hc _ _ g2, hc _ _ g3⟩

theorem fits_of {l : List Rw} {n m : Nat} (h : FitsF (l.map core) n m) (hn : n ≤ 1099511627776) (hm : m ≤ 1099511627776) : Fits l := by
  refine ⟨?_, fun r hr => ?_, fun r hr => ⟨h.safe (core r) (List.mem_map_of_mem hr), h.bytes (core r) (List.mem_map_of_mem hr), ?_⟩⟩
  · have := h.files; rw [List.length_map] at this; omega
  · have : r.opens.length ≤ m := h.opens (core r) (List.mem_map_of_mem hr); omega
  · have : r.opens.length ≤ m := h.opens (core r) (List.mem_map_of_mem hr); omega
theorem ownE_mono {w : World} {B B' : Nat} {v : Value} {l : List Rw} (h : OwnE w B v l) (hB : B' ≤ B) : OwnE w B' v l :=
  ⟨owns_mono h.1 hB, fun r hr => owns_mono (h.2.1 r hr) hB, h.2.2⟩

theorem below_of_only {B B' pb : Nat} {a b : World} (h : Only B pb a b) (hB : B' ≤ B) (hp : B' ≤ pb) : Below B' a b :=
  ⟨h.os, h.tape, h.output, h.size, fun k hk => h.block k (by omega) (by omega)⟩
/-- The rest of the operations from number k on. -/
def Rest (fs : List Fl) (ops : List DOp) (k : Nat) (gs : List Fl) : Prop := doF fs ops = ((doF gs (ops.drop k)).1, (doF gs (ops.drop k)).2.1 + k, (doF gs (ops.drop k)).2.2)
theorem doF_nil (fs : List Fl) : doF fs [] = (fs, 0, 0) := rfl
theorem doF_cons (fs : List Fl) (o : DOp) (r : List DOp) : doF fs (o :: r) = if (changeF fs o).2 ≠ 0 then ((changeF fs o).1, 0, (changeF fs o).2) else ((doF (changeF fs o).1 r).1, (doF (changeF fs o).1 r).2.1 + 1, (doF (changeF fs o).1 r).2.2) := rfl
theorem rest_step {fs gs : List Fl} {ops : List DOp} {k : Nat} (h : Rest fs ops k gs) (hk : k < ops.length) (he : (changeF gs ops[k]).2 = 0) : Rest fs ops (k + 1) (changeF gs ops[k]).1 := by
  unfold Rest at *
  rw [h, List.drop_eq_getElem_cons hk, doF_cons, if_neg (by simpa using he)]
  refine Prod.ext rfl (Prod.ext ?_ rfl)
  show (doF (changeF gs ops[k]).1 (ops.drop (k + 1))).2.1 + 1 + (k : Int) = (doF (changeF gs ops[k]).1 (ops.drop (k + 1))).2.1 + ((k + 1 : Nat) : Int)
  omega
theorem rest_stop {fs gs : List Fl} {ops : List DOp} {k : Nat} (h : Rest fs ops k gs) (hk : k < ops.length) (he : (changeF gs ops[k]).2 ≠ 0) : doF fs ops = ((changeF gs ops[k]).1, (k : Int), (changeF gs ops[k]).2) := by
  unfold Rest at h
  rw [h, List.drop_eq_getElem_cons hk, doF_cons, if_pos he]
  simp
theorem rest_end {fs gs : List Fl} {ops : List DOp} (h : Rest fs ops ops.length gs) : doF fs ops = (gs, (ops.length : Int), 0) := by
  unfold Rest at h
  rw [h, List.drop_length, doF_nil]
  simp

set_option maxHeartbeats 1000000 in
theorem do_any (l : List Rw) (v : Value) (ops : List DOp) (ov : Value) (n m : Nat) (w : World) (hr : Reads w v 3 l.length (rowCells l)) (ho : Opens w l) (hov : Reads w ov 4 ops.length (dopCells ops)) (hF : FitsF (l.map core) n m)
    (hn : n + ops.length ≤ 1099511627776) (hm : m + ops.length ≤ 1099511627776) (hops : ∀ o ∈ ops, o.pos ≤ 9223372036854775807 ∧ o.name.size ≤ 9223372036854775807) :
    Calls Try.prog 13 #[.agg #[v], ov] w fun e w' => ∃ v' l', e = .returned (.tuple #[.agg #[v'], .int .i64 (doF (l.map core) ops).2.1, .int .i64 (doF (l.map core) ops).2.2]) ∧
      l'.map core = (doF (l.map core) ops).1 ∧ OwnE w' w.heap.size v' l' ∧ Below w.heap.size w w' := by
  obtain ⟨p, cap, rfl⟩ := hov.is
  have hfit := fits_of hF (by omega) (by omega)
  have hcopy := copy_any l v ((w.alloc (.cells #[v] 24)).alloc (.cells #[.slice none 0 0] 24)) (hr.below (below2 w _ _)) (ho.below (below2 w _ _)) hfit.okay (by have := hfit.files; omega)
  have HC := Lib.hid hcopy
  clear hcopy
  go_enter Try.func13, Try.ntmps13
  go_wp2_with fail
  refine HC.out.mono ?_
  rintro e w1 ⟨v1, l1, rfl, hc1, hd1, hb1⟩
  obtain ⟨q1, qc1, rfl⟩ := owns_shape hd1.1
  have hs1 := hb1.size
  simp only [World.size_alloc] at hs1
  have x1 := hb1.block w.heap.size (by simp; omega)
  have x2 : w1.heap[w.heap.size]? = some (.cells #[v] 24 (0, 0)) := x1.trans ((heap_alloc_old _ _ (by simp)).trans (heap_alloc_new w _))
  have x3 : w1.cell? ⟨w.heap.size, 0, none⟩ = some v := by rw [cell_of_row w1 _ 0 _ 24 _ x2]; rfl
  have x4 := frozen_of_row w1 w.heap.size 0 _ 24 x2
  have y2 : w1.heap[w.heap.size + 1]? = some (.cells #[.slice none 0 0] 24 (0, 0)) := (hb1.block (w.heap.size + 1) (by simp)).trans (by have := heap_alloc_new (w.alloc (.cells #[v] 24)) (.cells #[.slice none 0 0] 24); simpa using this)
  have hd1' : OwnE (w1.setCell ⟨w.heap.size, 0, none⟩ (.slice q1 l1.length qc1)) (w.heap.size + 2) (.slice q1 l1.length qc1) l1 := by
    have h : OwnE w1 (w.heap.size + 2) (.slice q1 l1.length qc1) l1 := by
      have h := hd1.toE
      simpa using h
    exact ⟨ownsRow_setCell_below h.1 (show w.heap.size < _ by omega) _, fun r hr => ownsRow_setCell_below (h.2.1 r hr) (show w.heap.size < _ by omega) _, h.2.2⟩
  have hbw : Below w.heap.size w w1 := (below2 w _ _).trans (hb1.mono (by simp; omega))
  have hp1 : (w1.setCell ⟨w.heap.size, 0, none⟩ (.slice q1 l1.length qc1)).heap[w.heap.size]? = some (.cells #[.slice q1 l1.length qc1] 24 (0, 0)) := by
    rw [heap_setCell_same w1 _ 0 _ 24 _ x2]; rfl
  have hy1 : (w1.setCell ⟨w.heap.size, 0, none⟩ (.slice q1 l1.length qc1)).heap[w.heap.size + 1]? = some (.cells #[.slice none 0 0] 24 (0, 0)) := by
    rw [heap_setCell_other w1 _ _ _ (by simp)]; exact y2
  have HC1 := Lib.hid hc1
  have HD1 := Lib.hid hd1'
  have HP1 := Lib.hid hp1
  have HY1 := Lib.hid hy1
  have HBW := Lib.hid hbw
  clear hc1 hd1 hd1' hb1 x1 x2 y2 hp1 hy1 hbw HC
  go_wp2_with fail
  go_loopw [14] (fun i wr => ∃ (k : Nat) (gs : List Fl) (v2 : Value) (l2 : List Rw), k ≤ ops.length ∧ i = .int .i64 k ∧ Hid (Rest (l.map core) ops k gs) ∧ Hid (FitsF gs (n + k) (m + k)) ∧
    Hid (wr.heap[w.heap.size]? = some (.cells #[v2] 24 (0, 0))) ∧ Hid (OwnE wr (w.heap.size + 2) v2 l2) ∧ Hid (l2.map core = gs) ∧ Hid (Only (w.heap.size + 2) w.heap.size (w1.setCell ⟨w.heap.size, 0, none⟩ (.slice q1 l1.length qc1)) wr)) (fun i _ => ops.length - (intOf i).toNat)
  case atStart =>
    refine ⟨0, l.map core, .slice q1 l1.length qc1, l1, Nat.zero_le _, rfl, ?_, hF, HP1.out, HD1.out, HC1.out, ⟨rfl, rfl, rfl, Nat.le_refl _, fun _ _ _ => rfl⟩⟩
    show _ = _
    simp
  case round =>
    obtain ⟨k, gs, v2, l2, hk, rfl, hrest, hfits, hpb, hD, hcore, honly⟩ := hrel
    have hbr : Below w.heap.size w wr := (HBW.out.setCell (Nat.le_refl _) _).trans (below_of_only honly.out (by omega) (Nat.le_refl _))
    have hsr : w.heap.size + 1 < wr.heap.size := by have := honly.out.size; simp [World.setCell] at this; omega
    have r6 : wr.heap[w.heap.size + 1]? = some (.cells #[.slice none 0 0] 24 (0, 0)) := (honly.out.block _ (by omega) (by omega)).trans HY1.out
    have r7 : wr.cell? ⟨w.heap.size + 1, 0, none⟩ = some (.slice none 0 0) := by rw [cell_of_row wr _ 0 _ 24 _ r6]; rfl
    have r8 := frozen_of_row wr (w.heap.size + 1) 0 _ 24 r6
    have r9 : wr.cell? ⟨w.heap.size, 0, none⟩ = some v2 := by rw [cell_of_row wr _ 0 _ 24 _ hpb.out]; rfl
    have HR6 := Lib.hid r6
    clear r6
    obtain ⟨q2, qc2, rfl⟩ := owns_shape hD.out.1
    by_cases hlt : k < ops.length
    · obtain ⟨b1, off1, cap1, hv, hb1, c0, c1, c2, c3⟩ := (hov.below hbr).dop k hlt
      obtain ⟨rfl, rfl⟩ : p = some ⟨b1, off1, none⟩ ∧ cap = cap1 := by simpa using hv
      have hop := hops ops[k] (List.getElem_mem _)
      have hcall := fun W (hW : Below wr.heap.size wr W) => change_any l2 (.slice q2 l2.length qc2) w.heap.size (w.heap.size + 2) ops[k] W (hD.out.below hW) ((hW.block _ (by omega)).trans hpb.out) (by have := hW.size; omega) (fits_of (hcore.out ▸ hfits.out) (by omega) (by omega)) hop.1 hop.2
      have HCALL := Lib.hid hcall
      have HBR := Lib.hid hbr
      clear hcall hv hov hr ho hbr
      by_cases he : (changeF (l2.map core) ops[k]).2 = 0
      · have HE := Lib.hid he
        clear he
        go_wp2_with (go_at_call 23; refine (HCALL.out _ (below1 wr _)).mono ?_; rintro e w2 ⟨rfl, v3, l3, hpb3, hD3, hc3, ho3⟩; rw [HE.out]; have HPB3 := Lib.hid hpb3; have HD3 := Lib.hid hD3; have HC3 := Lib.hid hc3; have HO3 := Lib.hid ho3; clear hpb3 hD3 hc3 ho3)
        go_roundw
        case rel =>
          refine ⟨k + 1, (changeF (l2.map core) ops[k]).1, v3, l3, by omega, by go_num, ?_, ?_, HPB3.out, HD3.out, HC3.out, ?_⟩
          · exact rest_step (hcore.out ▸ hrest.out) hlt HE.out
          · exact hcore.out ▸ changeF_fits hfits.out ops[k]
          · exact (honly.out.trans (only_of_below (below1 wr _) (by omega))).trans HO3.out
        case measure => simp [intOf]; omega
      · have hne : ((changeF (l2.map core) ops[k]).2 != 0) = true := by simpa using he
        have HE := Lib.hid he
        clear he
        go_wp2_with (go_at_call 23; refine (HCALL.out _ (below1 wr _)).mono ?_; rintro e w2 ⟨rfl, v3, l3, hpb3, hD3, hc3, ho3⟩; obtain ⟨q3, qc3, rfl⟩ := owns_shape hD3.1; have a1 : w2.cell? ⟨w.heap.size, 0, none⟩ = some (.slice q3 l3.length qc3) := (by rw [cell_of_row w2 _ 0 _ 24 _ hpb3]; rfl); have a2 : w2.heap[w.heap.size + 1]? = some (.cells #[.slice none 0 0] 24 (0, 0)) := ((ho3.block _ (by omega) (by omega)).trans (((below1 wr _).block _ hsr).trans HR6.out)); have a3 : w2.cell? ⟨w.heap.size + 1, 0, none⟩ = some (.slice none 0 0) := (by rw [cell_of_row w2 _ 0 _ 24 _ a2]; rfl); have a4 := frozen_of_row w2 (w.heap.size + 1) 0 _ 24 a2; have HPB3 := Lib.hid hpb3; have HD3 := Lib.hid hD3; have HC3 := Lib.hid hc3; have HO3 := Lib.hid ho3; clear hpb3 hD3 hc3 ho3 a2)
        have hd := rest_stop (hcore.out ▸ hrest.out) hlt HE.out
        have hb2 : Below w.heap.size w w2 := HBR.out.trans (((below1 wr _).mono (by omega)).trans (below_of_only HO3.out (by omega) (Nat.le_refl _)))
        refine bodyPost_ret (v := .tuple #[.agg #[.slice q3 l3.length qc3], .int .i64 (k : Int), .int .i64 (changeF (l2.map core) ops[k]).2]) (by simp [results, Try.results13, go_sem, a3]) rfl
          ⟨.slice q3 l3.length qc3, l3, by rw [hd], by rw [hd]; exact HC3.out, ownE_mono ⟨ownsRow_setCell_below HD3.out.1 (show w.heap.size + 1 < _ by omega) _, fun r hr => ownsRow_setCell_below (HD3.out.2.1 r hr) (show w.heap.size + 1 < _ by omega) _, HD3.out.2.2⟩ (by omega), hb2.setCell (show w.heap.size ≤ w.heap.size + 1 by omega) _⟩
    · obtain rfl : k = ops.length := by omega
      have hd := rest_end (hcore.out ▸ hrest.out)
      have HDD := Lib.hid hd
      have HBR := Lib.hid hbr
      clear hd hbr hov hr ho
      go_wp2_with fail
      refine bodyPost_ret (v := .tuple #[.agg #[.slice q2 l2.length qc2], .int .i64 (ops.length : Int), .int .i64 0]) (by simp [results, Try.results13, go_sem, r7]) rfl
        ⟨.slice q2 l2.length qc2, l2, by rw [HDD.out], by rw [HDD.out], ownE_mono ⟨ownsRow_setCell_below hD.out.1 (show w.heap.size + 1 < _ by omega) _, fun r hr => ownsRow_setCell_below (hD.out.2.1 r hr) (show w.heap.size + 1 < _ by omega) _, hD.out.2.2⟩ (by omega), HBR.out.setCell (show w.heap.size ≤ w.heap.size + 1 by omega) _⟩
end Go.Proofs.Ytfpdfhncifcghaa
