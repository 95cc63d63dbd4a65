/- The disk of the reference, and what of the disk the log calls (my own, from the seat of the disk): V. -/
import Derived.Test.YtkecjopojnllnaaPU
namespace Go.Proofs.Ytkecjopojnllnaa
open Go.RowKit Go.Deep Go.Joins
def dopCells (l : List DOp) : List Value := l.flatMap fun r => [.int .i64 r.kind, .string r.name, .int .i64 r.pos, .string r.bytes]
theorem dopCells_length (l : List DOp) : (dopCells l).length = l.length * 4 := by
  induction l with
  | nil => rfl
  | cons x l ih => simp only [dopCells, List.flatMap_cons, List.length_append, List.length_cons, List.length_nil] at *; omega
theorem dopCells_get (l : List DOp) (k : Nat) (h : k < l.length) :
    (dopCells l)[k * 4]? = some (.int .i64 l[k].kind) ∧ (dopCells l)[k * 4 + 1]? = some (.string l[k].name) ∧ (dopCells l)[k * 4 + 2]? = some (.int .i64 l[k].pos) ∧ (dopCells l)[k * 4 + 3]? = some (.string l[k].bytes) := by
  induction l generalizing k with
  | nil => simp at h
  | cons x l ih =>
    have e : dopCells (x :: l) = .int .i64 x.kind :: .string x.name :: .int .i64 x.pos :: .string x.bytes :: dopCells l := rfl
    rw [e]
    cases k with
    | zero => simp
    | succ k =>
      have := ih k (by simpa using h)
      rw [show (k + 1) * 4 = k * 4 + 1 + 1 + 1 + 1 by omega]
      simpa using this
theorem Reads.dop {w : World} {v : Value} {l : List DOp} (h : Reads w v 4 l.length (dopCells l)) (k : Nat) (hk : k < l.length) :
    ∃ b off cap, v = .slice (some ⟨b, off, none⟩) l.length cap ∧ b < w.heap.size ∧ w.cell? ⟨b, off + k * 4, none⟩ = some (.int .i64 l[k].kind) ∧ w.cell? ⟨b, off + k * 4 + 1, none⟩ = some (.string l[k].name) ∧
      w.cell? ⟨b, off + k * 4 + 2, none⟩ = some (.int .i64 l[k].pos) ∧ w.cell? ⟨b, off + k * 4 + 3, none⟩ = some (.string l[k].bytes) := by
  obtain ⟨b, off, cap, hv, _, _, hb, hc⟩ := h.at (by omega)
  obtain ⟨g0, g1, g2, g3⟩ := dopCells_get l k hk
  exact ⟨b, off, cap, hv, hb, hc _ _ g0, hc _ _ g1, hc _ _ g2, hc _ _ g3⟩
theorem fits_of {l : List Rw} {n m : Nat} (h : FitsF (l.map core) n m) (hn : n ≤ 1099511627776) (hm : m ≤ 1099511627776) : Fits l := by
  refine ⟨?_, fun r hr => ?_, fun r hr => ⟨h.safe (core r) (List.mem_map_of_mem hr), h.bytes (core r) (List.mem_map_of_mem hr), ?_⟩⟩
  · have := h.files; rw [List.length_map] at this; omega
  · have : r.opens.length ≤ m := h.opens (core r) (List.mem_map_of_mem hr); omega
  · have : r.opens.length ≤ m := h.opens (core r) (List.mem_map_of_mem hr); omega
theorem ownE_mono {w : World} {B B' : Nat} {v : Value} {l : List Rw} (h : OwnE w B v l) (hB : B' ≤ B) : OwnE w B' v l :=
  ⟨owns_mono h.1 hB, fun r hr => owns_mono (h.2.1 r hr) hB, h.2.2⟩
theorem below_of_only {B B' pb : Nat} {a b : World} (h : Only B pb a b) (hB : B' ≤ B) (hp : B' ≤ pb) : Below B' a b :=
  ⟨h.os, h.tape, h.output, h.size, fun k hk => h.block k (by omega) (by omega)⟩
/-- The rest of the operations from number k on. -/
def Rest (fs : List Fl) (ops : List DOp) (k : Nat) (gs : List Fl) : Prop := doF fs ops = ((doF gs (ops.drop k)).1, (doF gs (ops.drop k)).2.1 + k, (doF gs (ops.drop k)).2.2)
theorem doF_nil (fs : List Fl) : doF fs [] = (fs, 0, 0) := rfl
theorem doF_cons (fs : List Fl) (o : DOp) (r : List DOp) : doF fs (o :: r) = if (changeF fs o).2 ≠ 0 then ((changeF fs o).1, 0, (changeF fs o).2) else ((doF (changeF fs o).1 r).1, (doF (changeF fs o).1 r).2.1 + 1, (doF (changeF fs o).1 r).2.2) := rfl
theorem rest_step {fs gs : List Fl} {ops : List DOp} {k : Nat} (h : Rest fs ops k gs) (hk : k < ops.length) (he : (changeF gs ops[k]).2 = 0) : Rest fs ops (k + 1) (changeF gs ops[k]).1 := by
  unfold Rest at *
  rw [h, List.drop_eq_getElem_cons hk, doF_cons, if_neg (by simpa using he)]
  refine Prod.ext rfl (Prod.ext ?_ rfl)
  show (doF (changeF gs ops[k]).1 (ops.drop (k + 1))).2.1 + 1 + (k : Int) = (doF (changeF gs ops[k]).1 (ops.drop (k + 1))).2.1 + ((k + 1 : Nat) : Int)
  omega
theorem rest_stop {fs gs : List Fl} {ops : List DOp} {k : Nat} (h : Rest fs ops k gs) (hk : k < ops.length) (he : (changeF gs ops[k]).2 ≠ 0) : doF fs ops = ((changeF gs ops[k]).1, (k : Int), (changeF gs ops[k]).2) := by
  unfold Rest at h
  rw [h, List.drop_eq_getElem_cons hk, doF_cons, if_pos he]
  simp
theorem rest_end {fs gs : List Fl} {ops : List DOp} (h : Rest fs ops ops.length gs) : doF fs ops = (gs, (ops.length : Int), 0) := by
  unfold Rest at h
  rw [h, List.drop_length, doF_nil]
  simp
end Go.Proofs.Ytkecjopojnllnaa
