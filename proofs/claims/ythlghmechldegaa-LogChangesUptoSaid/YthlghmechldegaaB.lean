/- Sets and numbers in memory; Count of both sides. -/
import Derived.Test.YthlghmechldegaaA
import Derived.Test.YthlghmechldegaaRows
import Derived.Below
import Derived.Deep.Draws
import Derived.Deep.Slices
import Derived.BigQuiet
import Derived.Carry
import Derived.ChangeMaps
import Derived.ChangeKeysEq
import Derived.Deep.AppendSrc
import Derived.Deep.DeepCutAuto
import Derived.Deep.RegionHeld3
import Derived.Deep.RegionLaw
import Derived.Deep.RegionWith
import Derived.Deep.WholeRow
import Derived.IntWalk
import Derived.JoinedCond
import Derived.Laws.AppendOwnNone
import Derived.Laws.CopyOwn
import Derived.Laws.ResultCell
import Derived.Laws.StructEq
import Derived.Laws.IdiomStrings
import Derived.Lib.Hide
import Derived.Lib.SmallJoins
import Derived.OpenShut
import Derived.ProofKit
import Derived.SizedLaws
import Derived.StillTailTactics
import Derived.WalkKit
import Derived.WalkLawsBesides
namespace Go

/-- A load, by what it does. -/
theorem wpList_load_by {P : Program} {w : World} {ops : Array Oper} {rest : List Oper} {o : Oper} {a : Act} {Q : Exit → Act → World → Prop} (hgd : o.guard = none) {t : TypeId} {p : Operand} (ho : o.op = .load t p) {v r : Value}
    (hrun : (Instr.loadAt t v).run P w = .ok r w) (hp : a.eval p = v) (h : wpList P ops Q rest (a.put o.dst r) w) : wpList P ops Q (o :: rest) a w := by
  refine wpList_plain hgd fun K hK => ?_
  unfold Oper.wp
  simp [execOp, ho, hp, hrun, Result.andThen]
  exact hK _ _ h
theorem wpList_load_wanted {P : Program} {w : World} {ops : Array Oper} {rest : List Oper} {o : Oper} {a : Act} {Q : Exit → Act → World → Prop} (hgd : Region.wanted o (yielded ops a.tmps) = true) {t : TypeId} {p : Operand} (ho : o.op = .load t p) {v r : Value}
    (hrun : (Instr.loadAt t v).run P w = .ok r w) (hp : a.eval p = v) (h : wpList P ops Q rest (a.put o.dst r) w) : wpList P ops Q (o :: rest) a w := by
  refine wpList_step fun K hK => ?_
  rw [if_pos hgd]
  unfold Oper.wp
  simp [execOp, ho, hp, hrun, Result.andThen]
  exact hK _ _ h
theorem wpList_store_by {P : Program} {w w' : World} {ops : Array Oper} {rest : List Oper} {o : Oper} {a : Act} {Q : Exit → Act → World → Prop} (hgd : o.guard = none) {t : TypeId} {p x : Operand} (ho : o.op = .store t p x) {v u : Value}
    (hrun : (Instr.storeAt t v u).run P w = .ok () w') (hp : a.eval p = v) (hx : a.eval x = u) (h : wpList P ops Q rest (a.put o.dst undef) w') : wpList P ops Q (o :: rest) a w := by
  refine wpList_plain hgd fun K hK => ?_
  unfold Oper.wp
  simp [execOp, ho, hp, hx, hrun, Result.andThen]
  exact hK _ _ h
theorem setRow_alloc_old (w : World) (g : Nat) (cs : Array Value) (o : Obj) (h : g < w.heap.size) : (w.alloc o).setRow g cs = (w.setRow g cs).alloc o := by
  simp only [World.setRow, World.alloc]
  congr 1
  apply Array.ext_getElem?
  intro i
  rw [Array.getElem?_modify, Array.getElem?_push, Array.getElem?_push, Array.getElem?_modify]
  by_cases hi : g = i
  · subst hi
    have h1 : ¬ g = w.heap.size := by omega
    simp [h1]
  · simp [hi]
theorem run_store_cell {P : Program} (w : World) (b k : Nat) (t ty : TypeId) (cur : Array Value) (v : Value) (hb : w.heap[b]? = some (.cells cur ty (0, 0))) (hi : (P.info? t).map (·.size) = some 1) (hk : k < cur.size) (h1 : v.oneCell' = true) (hc : v.cells = #[v]) :
    (Instr.storeAt t (.pointer (some ⟨b, k, none⟩)) v).run P w = .ok () (w.setRow b (cur.setIfInBounds k v)) := by
  have hcell : w.cell? ⟨b, k, none⟩ = some cur[k] := by simp [World.cell?, hb, hk]
  have hfro : w.frozen? ⟨b, k, none⟩ = false := by simp [World.frozen?, hb]
  have hadd : (⟨b, k, none⟩ : Addr).add 0 = ⟨b, k, none⟩ := by unfold Addr.add; split <;> simp_all
  cases hq : P.info? t with
  | none => simp [hq] at hi
  | some i =>
    have hs : i.size = 1 := by simpa [hq] using hi
    simp [Instr.storeAt, Instr.sureAddr, storeVar, sizeOf, typeInfo, hq, hs, hc, storeCells, Sem.run_bind, Result.andThen, run_store P w _ v _ h1, hadd, hcell, hfro, setCell_eq_setRow w b k cur ty (0, 0) v hb]
theorem run_load_cell {P : Program} (w : World) (b k : Nat) (t ty : TypeId) (cur : Array Value) (v : Value) (d : TypeDesc) (hb : w.heap[b]? = some (.cells cur ty (0, 0))) (hu : P.underlying t = some d) (hd : (match d with | .struct _ | .array _ _ => true | _ => false) = false) (hk : cur[k]? = some v) :
    (Instr.loadAt t (.pointer (some ⟨b, k, none⟩))).run P w = .ok v w := by
  have hcell : w.cell? ⟨b, k, none⟩ = some v := by simp [World.cell?, hb, hk]
  have hagg : (isAgg t).run P w = .ok false w := by
    unfold isAgg
    rw [Sem.run_bind, run_underlying hu w]
    cases d <;> simp_all
  simp [Instr.loadAt, Instr.sureAddr, loadVar, Sem.run_bind, Result.andThen, hagg, run_load, hcell]
theorem run_load_rowAt {P : Program} (w : World) (g k : Nat) (t ty : TypeId) (cs : Array Value) (part : List Value) (d : TypeDesc) (hg : w.heap[g]? = some (.cells cs t (0, 0)))
    (hu : P.underlying ty = some d) (hd : (match d with | .struct _ | .array _ _ => true | _ => false) = true) (hi : (P.info? ty).map (·.size) = some part.length) (hp : ∀ j v, part[j]? = some v → cs[k + j]? = some v) :
    (Instr.loadAt ty (.pointer (some ⟨g, k, none⟩))).run P w = .ok (.agg part.toArray) w := by
  have hl : (loadCells ⟨g, k, none⟩ part.length).run P w = .ok part.toArray w :=
    run_loadCells_list (P := P) w ⟨g, k, none⟩ part (fun j v hv => by
      have hadd : (⟨g, k, none⟩ : Addr).add j = ⟨g, k + j, none⟩ := by unfold Addr.add; split <;> simp_all
      rw [hadd, cell_of_row w g (k + j) cs t (0, 0) hg]
      exact hp j v hv)
  cases hq : P.info? ty with
  | none => simp [hq] at hi
  | some i =>
    have hs : i.size = part.length := by simpa [hq] using hi
    have hagg : (isAgg ty).run P w = .ok true w := by
      unfold isAgg
      rw [Sem.run_bind, run_underlying hu w]
      cases d <;> simp_all
    simp [Instr.loadAt, Instr.sureAddr, loadVar, Sem.run_bind, hagg, sizeOf, typeInfo, hq, hs, hl, Result.andThen]

end Go
namespace Go.Proofs.Ythlghmechldegaa
open Go.RowKit Go.Deep Go.Joins
theorem ret_int {k : IntKind} {a b : Int} (h : a = b) : Ending.returned (.int k a) = .returned (.int k b) := by rw [h]
theorem ret_bool {a b : Bool} (h : a = b) : Ending.returned (.bool a) = .returned (.bool b) := by rw [h]
theorem below_then {B : Nat} {a b c : World} (h : Below B a b) (hB : B ≤ a.heap.size) (k : Below b.heap.size b c) : Below B a c := h.trans (k.mono (Nat.le_trans hB h.size))
/-- The cells of a set. -/
def setL (f : Nat → Bool) : List Value := [.bool (f 0), .bool (f 1), .bool (f 2), .bool (f 3), .bool (f 4), .bool (f 5), .bool (f 6)]
def setC (f : Nat → Bool) : Array Value := (setL f).toArray
abbrev setV (f : Nat → Bool) : Value := .agg (setC f)
abbrev setO (f : Nat → Bool) : Obj := .cells (setC f) 24
/-- The cells of seven numbers. -/
def numL (h : Nat → Int) : List Value := [.int .u64 (h 0), .int .u64 (h 1), .int .u64 (h 2), .int .u64 (h 3), .int .u64 (h 4), .int .u64 (h 5), .int .u64 (h 6)]
def numC (h : Nat → Int) : Array Value := (numL h).toArray
abbrev numV (h : Nat → Int) : Value := .agg (numC h)
abbrev numO (h : Nat → Int) : Obj := .cells (numC h) 54
theorem setC_size (f : Nat → Bool) : (setC f).size = 7 := rfl
theorem numC_size (h : Nat → Int) : (numC h).size = 7 := rfl
theorem setL_at (f : Nat → Bool) (k : Nat) (hk : k < 7) : (setL f)[k]? = some (.bool (f k)) := by
  rcases (show k = 0 ∨ k = 1 ∨ k = 2 ∨ k = 3 ∨ k = 4 ∨ k = 5 ∨ k = 6 by omega) with rfl | rfl | rfl | rfl | rfl | rfl | rfl <;> rfl
theorem numL_at (h : Nat → Int) (k : Nat) (hk : k < 7) : (numL h)[k]? = some (.int .u64 (h k)) := by
  rcases (show k = 0 ∨ k = 1 ∨ k = 2 ∨ k = 3 ∨ k = 4 ∨ k = 5 ∨ k = 6 by omega) with rfl | rfl | rfl | rfl | rfl | rfl | rfl <;> rfl
theorem setC_at (f : Nat → Bool) (k : Nat) (hk : k < 7) : (setC f)[k]? = some (.bool (f k)) := by unfold setC; rw [List.getElem?_toArray]; exact setL_at f k hk
theorem numC_at (h : Nat → Int) (k : Nat) (hk : k < 7) : (numC h)[k]? = some (.int .u64 (h k)) := by unfold numC; rw [List.getElem?_toArray]; exact numL_at h k hk
theorem seven (k : Nat) (hk : k < 7) : k = 0 ∨ k = 1 ∨ k = 2 ∨ k = 3 ∨ k = 4 ∨ k = 5 ∨ k = 6 := by omega
theorem idx_set (f : Nat → Bool) (k : Nat) (hk : k < 7) (w : World) : (Instr.index 24 (.agg (setC f)) (.int .i64 k)).run Try.prog w = .ok (.bool (f k)) w := by
  rcases seven k hk with rfl | rfl | rfl | rfl | rfl | rfl | rfl <;> exact (by kernel_rfl)
theorem idx_num (h : Nat → Int) (k : Nat) (hk : k < 7) (w : World) : (Instr.index 54 (.agg (numC h)) (.int .i64 k)).run Try.prog w = .ok (.int .u64 (h k)) w := by
  rcases seven k hk with rfl | rfl | rfl | rfl | rfl | rfl | rfl <;> exact (by kernel_rfl)
theorem size24 : (Try.prog.info? 24).map (·.size) = some 7 := by kernel_rfl
theorem size54 : (Try.prog.info? 54).map (·.size) = some 7 := by kernel_rfl
theorem size4 : (Try.prog.info? 4).map (·.size) = some 1 := by kernel_rfl
theorem size22 : (Try.prog.info? 22).map (·.size) = some 1 := by kernel_rfl
/-- A block that holds this set. -/
def SBox (w : World) (b : Nat) (f : Nat → Bool) : Prop := w.heap[b]? = some (setO f)
/-- A block that holds these numbers. -/
def NBox (w : World) (b : Nat) (h : Nat → Int) : Prop := w.heap[b]? = some (numO h)
theorem SBox.lt {w : World} {b : Nat} {f : Nat → Bool} (k : SBox w b f) : b < w.heap.size := (Array.getElem?_eq_some_iff.1 k).1
theorem NBox.lt {w : World} {b : Nat} {f : Nat → Int} (k : NBox w b f) : b < w.heap.size := (Array.getElem?_eq_some_iff.1 k).1
theorem SBox.next {w w' : World} {b : Nat} {f : Nat → Bool} (k : SBox w b f) (j : Below w.heap.size w w') : SBox w' b f := (j.block b k.lt).trans k
theorem NBox.next {w w' : World} {b : Nat} {f : Nat → Int} (k : NBox w b f) (j : Below w.heap.size w w') : NBox w' b f := (j.block b k.lt).trans k
theorem SBox.new (w : World) (f : Nat → Bool) : SBox (w.alloc (setO f)) w.heap.size f := heap_alloc_last w _
theorem NBox.new (w : World) (h : Nat → Int) : NBox (w.alloc (numO h)) w.heap.size h := heap_alloc_last w _
theorem SBox.alloc {w : World} {b : Nat} {f : Nat → Bool} (k : SBox w b f) (o : Obj) : SBox (w.alloc o) b f := k.next ((Below.refl _ _).alloc (Nat.le_refl _) o)
theorem NBox.alloc {w : World} {b : Nat} {f : Nat → Int} (k : NBox w b f) (o : Obj) : NBox (w.alloc o) b f := k.next ((Below.refl _ _).alloc (Nat.le_refl _) o)
theorem SBox.load {w : World} {b : Nat} {f : Nat → Bool} (k : SBox w b f) : (Instr.loadAt 24 (.pointer (some ⟨b, 0, none⟩))).run Try.prog w = .ok (setV f) w := by
  simp only [Instr.loadAt, Instr.sureAddr, Sem.run_bind, Sem.run_pure, Result.andThen]
  exact run_loadVar_row w b 24 24 (setC f) (0, 0) _ k Try.underlying24 rfl (by rw [size24, setC_size])
theorem NBox.load {w : World} {b : Nat} {f : Nat → Int} (k : NBox w b f) : (Instr.loadAt 54 (.pointer (some ⟨b, 0, none⟩))).run Try.prog w = .ok (numV f) w := by
  simp only [Instr.loadAt, Instr.sureAddr, Sem.run_bind, Sem.run_pure, Result.andThen]
  exact run_loadVar_row w b 54 54 (numC f) (0, 0) _ k Try.underlying54 rfl (by rw [size54, numC_size])
theorem SBox.result {w : World} {b : Nat} {f : Nat → Bool} (k : SBox w b f) : (loadVar 24 ⟨b, 0, none⟩).run Try.prog w = .ok (setV f) w :=
  run_loadVar_row w b 24 24 (setC f) (0, 0) _ k Try.underlying24 rfl (by rw [size24, setC_size])
theorem SBox.cell {w : World} {b : Nat} {f : Nat → Bool} (k : SBox w b f) (i : Nat) (hi : i < 7) : (Instr.loadAt 4 (.pointer (some ⟨b, i, none⟩))).run Try.prog w = .ok (.bool (f i)) w :=
  run_load_cell w b i 4 24 (setC f) _ _ k Try.underlying4 rfl (setC_at f i hi)
theorem NBox.cell {w : World} {b : Nat} {f : Nat → Int} (k : NBox w b f) (i : Nat) (hi : i < 7) : (Instr.loadAt 22 (.pointer (some ⟨b, i, none⟩))).run Try.prog w = .ok (.int .u64 (f i)) w :=
  run_load_cell w b i 22 54 (numC f) _ _ k Try.underlying22 rfl (numC_at f i hi)
/-- The set with one member more or less. -/
def upd (f : Nat → Bool) (k : Nat) (b : Bool) : Nat → Bool := fun i => if i = k then b else f i
theorem setC_set (f : Nat → Bool) (k : Nat) (hk : k < 7) (b : Bool) : (setC f).setIfInBounds k (.bool b) = setC (upd f k b) := by
  unfold setC
  rw [List.setIfInBounds_toArray]
  congr 1
  rcases seven k hk with rfl | rfl | rfl | rfl | rfl | rfl | rfl <;> simp [setL, upd]
theorem SBox.put {w : World} {b : Nat} {f : Nat → Bool} (k : SBox w b f) (i : Nat) (hi : i < 7) (x : Bool) : (Instr.storeAt 4 (.pointer (some ⟨b, i, none⟩)) (.bool x)).run Try.prog w = .ok () (w.setRow b (setC (upd f i x))) := by
  rw [← setC_set f i hi]
  exact run_store_cell w b i 4 24 (setC f) (.bool x) k size4 (by rw [setC_size]; exact hi) rfl rfl
theorem SBox.mine {w : World} {g : Nat} {f : Nat → Bool} (k : SBox w g f) (h : Nat → Bool) : SBox (w.setRow g (setC h)) g h := setRow_heap w g _ (setC h) 24 (0, 0) k
theorem SBox.over {w : World} {b g : Nat} {h : Nat → Bool} (k : SBox w b h) (hg : b ≠ g) (cs : Array Value) : SBox (w.setRow g cs) b h := (setRow_other w g b cs hg).trans k
theorem NBox.over {w : World} {b g : Nat} {h : Nat → Int} (k : NBox w b h) (hg : b ≠ g) (cs : Array Value) : NBox (w.setRow g cs) b h := (setRow_other w g b cs hg).trans k
end Go.Proofs.Ythlghmechldegaa
