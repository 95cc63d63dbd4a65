/- The segments' rows; what the sort is made of, plain. -/
import Derived.Test.YtkecjopojnllnaaA
namespace Go.Proofs.Ytkecjopojnllnaa
open Go.RowKit Go.Deep Go.Joins

/-- A segment, as it lies in memory. -/
structure Sg where
  num : Int
  name : ByteArray
  safe : ByteArray
  op : Option Addr
  ol : Nat
  oc : Nat
abbrev Sg.ov (s : Sg) : Value := .slice s.op s.ol s.oc
def Sg.cells (s : Sg) : List Value := [.int .i64 s.num, .string s.name, .string s.safe, s.ov]
def Sg.val (s : Sg) : Value := .agg #[.int .i64 s.num, .string s.name, .string s.safe, s.ov]
def segCells (l : List Sg) : List Value := l.flatMap Sg.cells
theorem segCells_nil : segCells [] = [] := rfl
theorem segCells_cons (x : Sg) (l : List Sg) : segCells (x :: l) = .int .i64 x.num :: .string x.name :: .string x.safe :: x.ov :: segCells l := rfl
theorem segCells_append (a b : List Sg) : segCells (a ++ b) = segCells a ++ segCells b := by simp [segCells]
theorem segCells_length (l : List Sg) : (segCells l).length = l.length * 4 := by
  induction l with
  | nil => rfl
  | cons x l ih => rw [segCells_cons]; simp only [List.length_cons, ih]; omega
theorem segCells_get (l : List Sg) (k : Nat) (h : k < l.length) :
    (segCells l)[k * 4]? = some (.int .i64 l[k].num) ∧ (segCells l)[k * 4 + 1]? = some (.string l[k].name) ∧ (segCells l)[k * 4 + 2]? = some (.string l[k].safe) ∧ (segCells l)[k * 4 + 3]? = some l[k].ov := by
  induction l generalizing k with
  | nil => simp at h
  | cons x l ih =>
    rw [segCells_cons]
    cases k with
    | zero => simp
    | succ k =>
      have := ih k (by simpa using h)
      rw [show (k + 1) * 4 = k * 4 + 1 + 1 + 1 + 1 by omega]
      simpa using this
theorem segCells_set (l : List Sg) (k : Nat) (r : Sg) (h : k < l.length) :
    ((((segCells l).set (k * 4) (.int .i64 r.num)).set (k * 4 + 1) (.string r.name)).set (k * 4 + 2) (.string r.safe)).set (k * 4 + 3) r.ov = segCells (l.set k r) := by
  induction l generalizing k with
  | nil => simp at h
  | cons x l ih =>
    cases k with
    | zero => rfl
    | succ k =>
      have h0 := ih k (by simpa using h)
      have e : ∀ (L : List Value) (j : Nat) (v : Value), (.int .i64 x.num :: .string x.name :: .string x.safe :: x.ov :: L : List Value).set (j + 4) v = .int .i64 x.num :: .string x.name :: .string x.safe :: x.ov :: L.set j v := fun _ _ _ => rfl
      rw [segCells_cons, show (k + 1) * 4 = k * 4 + 4 by omega, show k * 4 + 4 + 1 = (k * 4 + 1) + 4 by omega, show k * 4 + 4 + 2 = (k * 4 + 2) + 4 by omega, show k * 4 + 4 + 3 = (k * 4 + 3) + 4 by omega, e, e, e, e, h0]
      rfl
/-- The row of segments that the call owns. -/
def OwnS (w : World) (B g n cap : Nat) (l : List Sg) : Prop := n = l.length ∧ w.ownsRow B 84 4 (.slice (some ⟨g, 0, none⟩) n cap) n (segCells l)
theorem OwnS.at {w : World} {B g n cap : Nat} {l : List Sg} (h : OwnS w B g n cap l) (k : Nat) (hk : k < l.length) :
    w.cell? ⟨g, k * 4, none⟩ = some (.int .i64 l[k].num) ∧ w.cell? ⟨g, k * 4 + 1, none⟩ = some (.string l[k].name) ∧ w.cell? ⟨g, k * 4 + 2, none⟩ = some (.string l[k].safe) ∧ w.cell? ⟨g, k * 4 + 3, none⟩ = some l[k].ov := by
  obtain ⟨h1, h2⟩ := h
  obtain ⟨g0, g1, g2, g3⟩ := segCells_get l k hk
  have hl := segCells_length l
  refine ⟨?_, ?_, ?_, ?_⟩
  · rw [h2.cellAt _ (by omega)]; exact g0
  · rw [h2.cellAt _ (by omega)]; exact g1
  · rw [h2.cellAt _ (by omega)]; exact g2
  · rw [h2.cellAt _ (by omega)]; exact g3
theorem OwnS.fz {w : World} {B g n cap : Nat} {l : List Sg} (h : OwnS w B g n cap l) (j : Nat) : w.frozen? ⟨g, j, none⟩ = false := h.2.frozenAt j
theorem OwnS.lt {w : World} {B g n cap : Nat} {l : List Sg} (h : OwnS w B g n cap l) : B ≤ g ∧ g < w.heap.size := h.2.lt g rfl
theorem OwnS.below {w w' : World} {B g n cap : Nat} {l : List Sg} (h : OwnS w B g n cap l) (hb : Below w.heap.size w w') : OwnS w' B g n cap l := ⟨h.1, owns_below h.2 hb⟩
theorem OwnS.store {w : World} {B g n cap k : Nat} {l : List Sg} (h : OwnS w B g n cap l) (hk : k < l.length) (r : Sg) :
    OwnS ((((w.setCell ⟨g, k * 4, none⟩ (.int .i64 r.num)).setCell ⟨g, k * 4 + 1, none⟩ (.string r.name)).setCell ⟨g, k * 4 + 2, none⟩ (.string r.safe)).setCell ⟨g, k * 4 + 3, none⟩ r.ov) B g n cap (l.set k r) := by
  obtain ⟨h1, h2⟩ := h
  refine ⟨by rw [List.length_set]; exact h1, ?_⟩
  rw [← segCells_set l k r hk]
  exact ((((h2.stored (k * 4) _).1.stored (k * 4 + 1) _).1.stored (k * 4 + 2) _).1.stored (k * 4 + 3) _).1

/-- Two places exchanged. -/
theorem swap_lists (A B C : List Sg) (x y : Sg) : ((A ++ x :: (B ++ y :: C)).set A.length y).set (A.length + 1 + B.length) x = A ++ y :: (B ++ x :: C) := by
  rw [List.set_append_right (h := Nat.le_refl _), Nat.sub_self, List.set_cons_zero, List.set_append_right (h := by omega), show A.length + 1 + B.length - A.length = B.length + 1 by omega, List.set_cons_succ, List.set_append_right (h := Nat.le_refl _), Nat.sub_self, List.set_cons_zero]
end Go.Proofs.Ytkecjopojnllnaa
