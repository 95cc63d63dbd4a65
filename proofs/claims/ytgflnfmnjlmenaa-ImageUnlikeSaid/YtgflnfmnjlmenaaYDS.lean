/- A board in memory; frames. -/
import Derived.Test.YtgflnfmnjlmenaaYRD
import Derived.Deep.WholeRow
import Derived.Laws.ResultCell
import Derived.Laws.Closers25b
import Derived.ChangeKeysEq
import Derived.Laws.StructEq
import Derived.IntWalk
import Derived.Laws.BitsAllLaws
namespace Go.Proofs.Ytgflnfmnjlmenaa
open Go.RowKit Go.Deep Go.Joins
/-- The state of the interrupts' part of a board: nine numbers. -/
structure Pl where
  p0 : Int
  p1 : Int
  p2 : Int
  p3 : Int
  e0 : Int
  e1 : Int
  l0 : Int
  l1 : Int
  c : Int
/-- A board. -/
structure Bd where
  msip : Bool
  cmp : Int
  inn : ByteArray
  ier : Bool
  sec : ByteArray
  sector : Int
  addr : Int
  done : Bool
  bad : Bool
  fp : Option Addr
  fn : Nat
  fc : Nat
  nicA : Int
  nicL : Int
  pl : Pl
def plL (p : Pl) : List Value := [.int .u32 p.p0, .int .u32 p.p1, .int .u32 p.p2, .int .u32 p.p3, .int .u32 p.e0, .int .u32 p.e1, .int .u32 p.l0, .int .u32 p.l1, .int .u32 p.c]
def plC (p : Pl) : Array Value := (plL p).toArray
def bdL (b : Bd) : List Value := [.bool b.msip, .int .u64 b.cmp, .string b.inn, .bool b.ier, .string b.sec, .int .u64 b.sector, .int .u64 b.addr, .bool b.done, .bool b.bad, .slice b.fp b.fn b.fc, .int .u64 b.nicA, .int .u64 b.nicL]
def bdC (b : Bd) : Array Value := (bdL b ++ plL b.pl).toArray
abbrev bdV (b : Bd) : Value := .agg (bdC b)
abbrev bdO (b : Bd) : Obj := .cells (bdC b) 35
def bdZ : Bd := ⟨false, 0, ⟨#[]⟩, false, ⟨#[]⟩, 0, 0, false, false, none, 0, 0, 0, 0, ⟨0, 0, 0, 0, 0, 0, 0, 0, 0⟩⟩
/-- The same board with another list of frames. -/
def Bd.at (b : Bd) (p : Option Addr) (n c : Nat) : Bd := { b with fp := p, fn := n, fc := c }
theorem bdC_size (b : Bd) : (bdC b).size = 21 := by unfold bdC bdL plL; rfl
theorem bdC_head (b : Bd) (k : Nat) (hk : k < 12) : (bdC b)[k]? = (bdL b)[k]? := by
  unfold bdC
  rw [List.getElem?_toArray, List.getElem?_append_left (by simpa [bdL] using hk)]
theorem bdC_tail (b : Bd) (k : Nat) : (bdC b)[12 + k]? = (plL b.pl)[k]? := by
  unfold bdC
  rw [List.getElem?_toArray, List.getElem?_append_right (by simp [bdL])]
  congr 1
  simp [bdL]
theorem bdC_set (b g : Bd) (k : Nat) (v : Value) (hk : k < 12) (hp : g.pl = b.pl) (ht : bdL g = (bdL b).set k v) : (bdC b).setIfInBounds k v = bdC g := by
  unfold bdC
  rw [List.setIfInBounds_toArray, List.set_append_left _ _ (by simpa [bdL] using hk), hp, ht]
theorem bd_one (b : Bd) : (bdC b).all (·.oneCell') = true := by
  unfold bdC bdL plL
  simp [Value.oneCell']
theorem size35 : (Try.prog.info? 35).map (·.size) = some 21 := by kernel_rfl
theorem size33 : (Try.prog.info? 33).map (·.size) = some 9 := by kernel_rfl
theorem size28 : (Try.prog.info? 28).map (·.size) = some 1 := by kernel_rfl
theorem size22 : (Try.prog.info? 22).map (·.size) = some 1 := by kernel_rfl
theorem size9 : (Try.prog.info? 9).map (·.size) = some 1 := by kernel_rfl
theorem size4 : (Try.prog.info? 4).map (·.size) = some 1 := by kernel_rfl
theorem size3 : (Try.prog.info? 3).map (·.size) = some 1 := by kernel_rfl
abbrev zeroC : Array Value := #[.bool false, .int .u64 0, .string ⟨#[]⟩, .bool false, .string ⟨#[]⟩, .int .u64 0, .int .u64 0, .bool false, .bool false, .slice none 0 0, .int .u64 0, .int .u64 0, .int .u32 0, .int .u32 0, .int .u32 0, .int .u32 0, .int .u32 0, .int .u32 0, .int .u32 0, .int .u32 0, .int .u32 0]
abbrev zeroO : Obj := .cells zeroC 35
theorem bdZ_cells : bdC bdZ = zeroC := rfl

end Go.Proofs.Ytgflnfmnjlmenaa
namespace Go
/-- A load, by what it does. -/
theorem wpList_load_by {P : Program} {w : World} {ops : Array Oper} {rest : List Oper} {o : Oper} {a : Act} {Q : Exit → Act → World → Prop} (hgd : o.guard = none) {t : TypeId} {p : Operand} (ho : o.op = .load t p) {v r : Value}
    (hrun : (Instr.loadAt t v).run P w = .ok r w) (hp : a.eval p = v) (h : wpList P ops Q rest (a.put o.dst r) w) : wpList P ops Q (o :: rest) a w := by
  refine wpList_plain hgd fun K hK => ?_
  unfold Oper.wp
  simp [execOp, ho, hp, hrun, Result.andThen]
  exact hK _ _ h
theorem wpList_load_wanted {P : Program} {w : World} {ops : Array Oper} {rest : List Oper} {o : Oper} {a : Act} {Q : Exit → Act → World → Prop} (hgd : Region.wanted o (yielded ops a.tmps) = true) {t : TypeId} {p : Operand} (ho : o.op = .load t p) {v r : Value}
    (hrun : (Instr.loadAt t v).run P w = .ok r w) (hp : a.eval p = v) (h : wpList P ops Q rest (a.put o.dst r) w) : wpList P ops Q (o :: rest) a w := by
  refine wpList_step fun K hK => ?_
  rw [if_pos hgd]
  unfold Oper.wp
  simp [execOp, ho, hp, hrun, Result.andThen]
  exact hK _ _ h
theorem wpList_store_by {P : Program} {w w' : World} {ops : Array Oper} {rest : List Oper} {o : Oper} {a : Act} {Q : Exit → Act → World → Prop} (hgd : o.guard = none) {t : TypeId} {p x : Operand} (ho : o.op = .store t p x) {v u : Value}
    (hrun : (Instr.storeAt t v u).run P w = .ok () w') (hp : a.eval p = v) (hx : a.eval x = u) (h : wpList P ops Q rest (a.put o.dst undef) w') : wpList P ops Q (o :: rest) a w := by
  refine wpList_plain hgd fun K hK => ?_
  unfold Oper.wp
  simp [execOp, ho, hp, hx, hrun, Result.andThen]
  exact hK _ _ h
theorem setRow_alloc_old (w : World) (g : Nat) (cs : Array Value) (o : Obj) (h : g < w.heap.size) : (w.alloc o).setRow g cs = (w.setRow g cs).alloc o := by
  simp only [World.setRow, World.alloc]
  congr 1
  apply Array.ext_getElem?
  intro i
  rw [Array.getElem?_modify, Array.getElem?_push, Array.getElem?_push, Array.getElem?_modify]
  by_cases hi : g = i
  · subst hi
    have h1 : ¬ g = w.heap.size := by omega
    simp [h1]
  · simp [hi]
theorem run_store_cell {P : Program} (w : World) (b k : Nat) (t ty : TypeId) (cur : Array Value) (v : Value) (hb : w.heap[b]? = some (.cells cur ty (0, 0))) (hi : (P.info? t).map (·.size) = some 1) (hk : k < cur.size) (h1 : v.oneCell' = true) (hc : v.cells = #[v]) :
    (Instr.storeAt t (.pointer (some ⟨b, k, none⟩)) v).run P w = .ok () (w.setRow b (cur.setIfInBounds k v)) := by
  have hcell : w.cell? ⟨b, k, none⟩ = some cur[k] := by simp [World.cell?, hb, hk]
  have hfro : w.frozen? ⟨b, k, none⟩ = false := by simp [World.frozen?, hb]
  have hadd : (⟨b, k, none⟩ : Addr).add 0 = ⟨b, k, none⟩ := by unfold Addr.add; split <;> simp_all
  cases hq : P.info? t with
  | none => simp [hq] at hi
  | some i =>
    have hs : i.size = 1 := by simpa [hq] using hi
    simp [Instr.storeAt, Instr.sureAddr, storeVar, sizeOf, typeInfo, hq, hs, hc, storeCells, Sem.run_bind, Result.andThen, run_store P w _ v _ h1, hadd, hcell, hfro, setCell_eq_setRow w b k cur ty (0, 0) v hb]
theorem run_load_cell {P : Program} (w : World) (b k : Nat) (t ty : TypeId) (cur : Array Value) (v : Value) (d : TypeDesc) (hb : w.heap[b]? = some (.cells cur ty (0, 0))) (hu : P.underlying t = some d) (hd : (match d with | .struct _ | .array _ _ => true | _ => false) = false) (hk : cur[k]? = some v) :
    (Instr.loadAt t (.pointer (some ⟨b, k, none⟩))).run P w = .ok v w := by
  have hcell : w.cell? ⟨b, k, none⟩ = some v := by simp [World.cell?, hb, hk]
  have hagg : (isAgg t).run P w = .ok false w := by
    unfold isAgg
    rw [Sem.run_bind, run_underlying hu w]
    cases d <;> simp_all
  simp [Instr.loadAt, Instr.sureAddr, loadVar, Sem.run_bind, Result.andThen, hagg, run_load, hcell]
theorem run_load_rowAt {P : Program} (w : World) (g k : Nat) (t ty : TypeId) (cs : Array Value) (part : List Value) (d : TypeDesc) (hg : w.heap[g]? = some (.cells cs t (0, 0)))
    (hu : P.underlying ty = some d) (hd : (match d with | .struct _ | .array _ _ => true | _ => false) = true) (hi : (P.info? ty).map (·.size) = some part.length) (hp : ∀ j v, part[j]? = some v → cs[k + j]? = some v) :
    (Instr.loadAt ty (.pointer (some ⟨g, k, none⟩))).run P w = .ok (.agg part.toArray) w := by
  have hl : (loadCells ⟨g, k, none⟩ part.length).run P w = .ok part.toArray w :=
    run_loadCells_list (P := P) w ⟨g, k, none⟩ part (fun j v hv => by
      have hadd : (⟨g, k, none⟩ : Addr).add j = ⟨g, k + j, none⟩ := by unfold Addr.add; split <;> simp_all
      rw [hadd, cell_of_row w g (k + j) cs t (0, 0) hg]
      exact hp j v hv)
  cases hq : P.info? ty with
  | none => simp [hq] at hi
  | some i =>
    have hs : i.size = part.length := by simpa [hq] using hi
    have hagg : (isAgg ty).run P w = .ok true w := by
      unfold isAgg
      rw [Sem.run_bind, run_underlying hu w]
      cases d <;> simp_all
    simp [Instr.loadAt, Instr.sureAddr, loadVar, Sem.run_bind, hagg, sizeOf, typeInfo, hq, hs, hl, Result.andThen]


end Go
namespace Go.Proofs.Ytgflnfmnjlmenaa
open Go.RowKit Go.Deep Go.Joins
/-- A block that holds this board. -/
def Box (w : World) (g : Nat) (b : Bd) : Prop := w.heap[g]? = some (bdO b)
theorem Box.lt {w : World} {g : Nat} {b : Bd} (k : Box w g b) : g < w.heap.size := (Array.getElem?_eq_some_iff.1 k).1
theorem Box.next {w w' : World} {g : Nat} {b : Bd} (k : Box w g b) (j : Below w.heap.size w w') : Box w' g b := (j.block g k.lt).trans k
theorem Box.drew {w : World} {g : Nat} {b : Bd} (k : Box w g b) : Box w.drew g b := k
theorem Box.alloc {w : World} {g : Nat} {b : Bd} (k : Box w g b) (o : Obj) : Box (w.alloc o) g b := k.next ((Below.refl _ _).alloc (Nat.le_refl _) o)
theorem Box.new (w : World) (b : Bd) : Box (w.alloc (bdO b)) w.heap.size b := heap_alloc_last w _
theorem Box.over {w : World} {g h : Nat} {b : Bd} (k : Box w g b) (hg : g ≠ h) (cs : Array Value) : Box (w.setRow h cs) g b := (setRow_other w h g cs hg).trans k
theorem Box.mine {w : World} {g : Nat} {old : Array Value} (k : w.heap[g]? = some (.cells old 35 (0, 0))) (b : Bd) : Box (w.setRow g (bdC b)) g b := setRow_heap w g old (bdC b) 35 (0, 0) k
theorem Box.touch {w w' : World} {g : Nat} {b : Bd} {S : Nat → Prop} (k : Box w g b) (j : Touch w w' S) (hS : ¬ S g) : Box w' g b := (j.block g k.lt hS).trans k
theorem Box.load {w : World} {g : Nat} {b : Bd} (k : Box w g b) : (Instr.loadAt 35 (.pointer (some ⟨g, 0, none⟩))).run Try.prog w = .ok (bdV b) w := by
  simp only [Instr.loadAt, Instr.sureAddr, Sem.run_bind, Sem.run_pure, Result.andThen]
  exact run_loadVar_row w g 35 35 (bdC b) (0, 0) _ k Try.underlying35 rfl (by rw [size35, bdC_size])
theorem Box.result {w : World} {g : Nat} {b : Bd} (k : Box w g b) : (loadVar 35 ⟨g, 0, none⟩).run Try.prog w = .ok (bdV b) w :=
  run_loadVar_row w g 35 35 (bdC b) (0, 0) _ k Try.underlying35 rfl (by rw [size35, bdC_size])
theorem Box.load_pl {w : World} {g : Nat} {b : Bd} (k : Box w g b) : (Instr.loadAt 33 (.pointer (some ⟨g, 12, none⟩))).run Try.prog w = .ok (.agg (plC b.pl)) w :=
  run_load_rowAt w g 12 35 33 (bdC b) (plL b.pl) _ k Try.underlying33 rfl (by rw [size33]; rfl) fun j v hv => by rw [bdC_tail, hv]
theorem store_box (w : World) (g : Nat) (old : Array Value) (b : Bd) (k : w.heap[g]? = some (.cells old 35 (0, 0))) (ho : old.size = 21) : (Instr.storeAt 35 (.pointer (some ⟨g, 0, none⟩)) (bdV b)).run Try.prog w = .ok () (w.setRow g (bdC b)) := by
  simp only [Instr.storeAt, Instr.sureAddr, Sem.run_bind, Sem.run_pure, Result.andThen]
  exact run_storeVar_row w g 35 35 old (bdC b) k (by rw [size35, bdC_size]) (by rw [ho, bdC_size]) (bd_one b)
theorem Box.cell_msip {w : World} {g : Nat} {b : Bd} (k : Box w g b) : w.cell? ⟨g, 0, none⟩ = some (.bool b.msip) := (cell_of_row w g 0 (bdC b) 35 (0, 0) k).trans (bdC_head b 0 (by omega))
theorem Box.load_msip {w : World} {g : Nat} {b : Bd} (k : Box w g b) : (Instr.loadAt 4 (.pointer (some ⟨g, 0, none⟩))).run Try.prog w = .ok (.bool b.msip) w :=
  run_load_cell w g 0 4 35 (bdC b) _ _ k Try.underlying4 rfl (bdC_head b 0 (by omega))
theorem Box.store_msip {w : World} {g : Nat} {b : Bd} (k : Box w g b) (v : Bool) : (Instr.storeAt 4 (.pointer (some ⟨g, 0, none⟩)) (.bool v)).run Try.prog w = .ok () (w.setRow g (bdC ({ b with msip := v }))) :=
  (run_store_cell w g 0 4 35 (bdC b) _ k size4 (by rw [bdC_size]; omega) rfl rfl).trans (by rw [bdC_set b ({ b with msip := v }) 0 (.bool v) (by omega) rfl rfl])
theorem Box.w_msip {w : World} {g : Nat} {b : Bd} (k : Box w g b) {ops : Array Oper} {rest : List Oper} {o : Oper} {a : Act} {Q : Exit → Act → World → Prop} {v : Bool} (hgd : o.guard = none) {p' x : Operand} (ho : o.op = .store 4 p' x) (hp : a.eval p' = .pointer (some ⟨g, 0, none⟩)) (hx : a.eval x = .bool v)
    (h : ∀ wy, wy = w.setRow g (bdC ({ b with msip := v })) → wpList Try.prog ops Q rest (a.put o.dst undef) wy) : wpList Try.prog ops Q (o :: rest) a w :=
  wpList_store_by hgd ho (k.store_msip _) hp hx (h _ rfl)
theorem Box.cell_cmp {w : World} {g : Nat} {b : Bd} (k : Box w g b) : w.cell? ⟨g, 1, none⟩ = some (.int .u64 b.cmp) := (cell_of_row w g 1 (bdC b) 35 (0, 0) k).trans (bdC_head b 1 (by omega))
theorem Box.load_cmp {w : World} {g : Nat} {b : Bd} (k : Box w g b) : (Instr.loadAt 22 (.pointer (some ⟨g, 1, none⟩))).run Try.prog w = .ok (.int .u64 b.cmp) w :=
  run_load_cell w g 1 22 35 (bdC b) _ _ k Try.underlying22 rfl (bdC_head b 1 (by omega))
theorem Box.store_cmp {w : World} {g : Nat} {b : Bd} (k : Box w g b) (v : Int) : (Instr.storeAt 22 (.pointer (some ⟨g, 1, none⟩)) (.int .u64 v)).run Try.prog w = .ok () (w.setRow g (bdC ({ b with cmp := v }))) :=
  (run_store_cell w g 1 22 35 (bdC b) _ k size22 (by rw [bdC_size]; omega) rfl rfl).trans (by rw [bdC_set b ({ b with cmp := v }) 1 (.int .u64 v) (by omega) rfl rfl])
theorem Box.w_cmp {w : World} {g : Nat} {b : Bd} (k : Box w g b) {ops : Array Oper} {rest : List Oper} {o : Oper} {a : Act} {Q : Exit → Act → World → Prop} {v : Int} (hgd : o.guard = none) {p' x : Operand} (ho : o.op = .store 22 p' x) (hp : a.eval p' = .pointer (some ⟨g, 1, none⟩)) (hx : a.eval x = .int .u64 v)
    (h : ∀ wy, wy = w.setRow g (bdC ({ b with cmp := v })) → wpList Try.prog ops Q rest (a.put o.dst undef) wy) : wpList Try.prog ops Q (o :: rest) a w :=
  wpList_store_by hgd ho (k.store_cmp _) hp hx (h _ rfl)
theorem Box.cell_inn {w : World} {g : Nat} {b : Bd} (k : Box w g b) : w.cell? ⟨g, 2, none⟩ = some (.string b.inn) := (cell_of_row w g 2 (bdC b) 35 (0, 0) k).trans (bdC_head b 2 (by omega))
theorem Box.load_inn {w : World} {g : Nat} {b : Bd} (k : Box w g b) : (Instr.loadAt 9 (.pointer (some ⟨g, 2, none⟩))).run Try.prog w = .ok (.string b.inn) w :=
  run_load_cell w g 2 9 35 (bdC b) _ _ k Try.underlying9 rfl (bdC_head b 2 (by omega))
theorem Box.store_inn {w : World} {g : Nat} {b : Bd} (k : Box w g b) (v : ByteArray) : (Instr.storeAt 9 (.pointer (some ⟨g, 2, none⟩)) (.string v)).run Try.prog w = .ok () (w.setRow g (bdC ({ b with inn := v }))) :=
  (run_store_cell w g 2 9 35 (bdC b) _ k size9 (by rw [bdC_size]; omega) rfl rfl).trans (by rw [bdC_set b ({ b with inn := v }) 2 (.string v) (by omega) rfl rfl])
theorem Box.w_inn {w : World} {g : Nat} {b : Bd} (k : Box w g b) {ops : Array Oper} {rest : List Oper} {o : Oper} {a : Act} {Q : Exit → Act → World → Prop} {v : ByteArray} (hgd : o.guard = none) {p' x : Operand} (ho : o.op = .store 9 p' x) (hp : a.eval p' = .pointer (some ⟨g, 2, none⟩)) (hx : a.eval x = .string v)
    (h : ∀ wy, wy = w.setRow g (bdC ({ b with inn := v })) → wpList Try.prog ops Q rest (a.put o.dst undef) wy) : wpList Try.prog ops Q (o :: rest) a w :=
  wpList_store_by hgd ho (k.store_inn _) hp hx (h _ rfl)
theorem Box.cell_ier {w : World} {g : Nat} {b : Bd} (k : Box w g b) : w.cell? ⟨g, 3, none⟩ = some (.bool b.ier) := (cell_of_row w g 3 (bdC b) 35 (0, 0) k).trans (bdC_head b 3 (by omega))
theorem Box.load_ier {w : World} {g : Nat} {b : Bd} (k : Box w g b) : (Instr.loadAt 4 (.pointer (some ⟨g, 3, none⟩))).run Try.prog w = .ok (.bool b.ier) w :=
  run_load_cell w g 3 4 35 (bdC b) _ _ k Try.underlying4 rfl (bdC_head b 3 (by omega))
theorem Box.store_ier {w : World} {g : Nat} {b : Bd} (k : Box w g b) (v : Bool) : (Instr.storeAt 4 (.pointer (some ⟨g, 3, none⟩)) (.bool v)).run Try.prog w = .ok () (w.setRow g (bdC ({ b with ier := v }))) :=
  (run_store_cell w g 3 4 35 (bdC b) _ k size4 (by rw [bdC_size]; omega) rfl rfl).trans (by rw [bdC_set b ({ b with ier := v }) 3 (.bool v) (by omega) rfl rfl])
theorem Box.w_ier {w : World} {g : Nat} {b : Bd} (k : Box w g b) {ops : Array Oper} {rest : List Oper} {o : Oper} {a : Act} {Q : Exit → Act → World → Prop} {v : Bool} (hgd : o.guard = none) {p' x : Operand} (ho : o.op = .store 4 p' x) (hp : a.eval p' = .pointer (some ⟨g, 3, none⟩)) (hx : a.eval x = .bool v)
    (h : ∀ wy, wy = w.setRow g (bdC ({ b with ier := v })) → wpList Try.prog ops Q rest (a.put o.dst undef) wy) : wpList Try.prog ops Q (o :: rest) a w :=
  wpList_store_by hgd ho (k.store_ier _) hp hx (h _ rfl)
theorem Box.cell_sec {w : World} {g : Nat} {b : Bd} (k : Box w g b) : w.cell? ⟨g, 4, none⟩ = some (.string b.sec) := (cell_of_row w g 4 (bdC b) 35 (0, 0) k).trans (bdC_head b 4 (by omega))
theorem Box.load_sec {w : World} {g : Nat} {b : Bd} (k : Box w g b) : (Instr.loadAt 9 (.pointer (some ⟨g, 4, none⟩))).run Try.prog w = .ok (.string b.sec) w :=
  run_load_cell w g 4 9 35 (bdC b) _ _ k Try.underlying9 rfl (bdC_head b 4 (by omega))
theorem Box.store_sec {w : World} {g : Nat} {b : Bd} (k : Box w g b) (v : ByteArray) : (Instr.storeAt 9 (.pointer (some ⟨g, 4, none⟩)) (.string v)).run Try.prog w = .ok () (w.setRow g (bdC ({ b with sec := v }))) :=
  (run_store_cell w g 4 9 35 (bdC b) _ k size9 (by rw [bdC_size]; omega) rfl rfl).trans (by rw [bdC_set b ({ b with sec := v }) 4 (.string v) (by omega) rfl rfl])
theorem Box.w_sec {w : World} {g : Nat} {b : Bd} (k : Box w g b) {ops : Array Oper} {rest : List Oper} {o : Oper} {a : Act} {Q : Exit → Act → World → Prop} {v : ByteArray} (hgd : o.guard = none) {p' x : Operand} (ho : o.op = .store 9 p' x) (hp : a.eval p' = .pointer (some ⟨g, 4, none⟩)) (hx : a.eval x = .string v)
    (h : ∀ wy, wy = w.setRow g (bdC ({ b with sec := v })) → wpList Try.prog ops Q rest (a.put o.dst undef) wy) : wpList Try.prog ops Q (o :: rest) a w :=
  wpList_store_by hgd ho (k.store_sec _) hp hx (h _ rfl)
theorem Box.cell_sector {w : World} {g : Nat} {b : Bd} (k : Box w g b) : w.cell? ⟨g, 5, none⟩ = some (.int .u64 b.sector) := (cell_of_row w g 5 (bdC b) 35 (0, 0) k).trans (bdC_head b 5 (by omega))
theorem Box.load_sector {w : World} {g : Nat} {b : Bd} (k : Box w g b) : (Instr.loadAt 22 (.pointer (some ⟨g, 5, none⟩))).run Try.prog w = .ok (.int .u64 b.sector) w :=
  run_load_cell w g 5 22 35 (bdC b) _ _ k Try.underlying22 rfl (bdC_head b 5 (by omega))
theorem Box.store_sector {w : World} {g : Nat} {b : Bd} (k : Box w g b) (v : Int) : (Instr.storeAt 22 (.pointer (some ⟨g, 5, none⟩)) (.int .u64 v)).run Try.prog w = .ok () (w.setRow g (bdC ({ b with sector := v }))) :=
  (run_store_cell w g 5 22 35 (bdC b) _ k size22 (by rw [bdC_size]; omega) rfl rfl).trans (by rw [bdC_set b ({ b with sector := v }) 5 (.int .u64 v) (by omega) rfl rfl])
theorem Box.w_sector {w : World} {g : Nat} {b : Bd} (k : Box w g b) {ops : Array Oper} {rest : List Oper} {o : Oper} {a : Act} {Q : Exit → Act → World → Prop} {v : Int} (hgd : o.guard = none) {p' x : Operand} (ho : o.op = .store 22 p' x) (hp : a.eval p' = .pointer (some ⟨g, 5, none⟩)) (hx : a.eval x = .int .u64 v)
    (h : ∀ wy, wy = w.setRow g (bdC ({ b with sector := v })) → wpList Try.prog ops Q rest (a.put o.dst undef) wy) : wpList Try.prog ops Q (o :: rest) a w :=
  wpList_store_by hgd ho (k.store_sector _) hp hx (h _ rfl)
theorem Box.cell_addr {w : World} {g : Nat} {b : Bd} (k : Box w g b) : w.cell? ⟨g, 6, none⟩ = some (.int .u64 b.addr) := (cell_of_row w g 6 (bdC b) 35 (0, 0) k).trans (bdC_head b 6 (by omega))
theorem Box.load_addr {w : World} {g : Nat} {b : Bd} (k : Box w g b) : (Instr.loadAt 22 (.pointer (some ⟨g, 6, none⟩))).run Try.prog w = .ok (.int .u64 b.addr) w :=
  run_load_cell w g 6 22 35 (bdC b) _ _ k Try.underlying22 rfl (bdC_head b 6 (by omega))
theorem Box.store_addr {w : World} {g : Nat} {b : Bd} (k : Box w g b) (v : Int) : (Instr.storeAt 22 (.pointer (some ⟨g, 6, none⟩)) (.int .u64 v)).run Try.prog w = .ok () (w.setRow g (bdC ({ b with addr := v }))) :=
  (run_store_cell w g 6 22 35 (bdC b) _ k size22 (by rw [bdC_size]; omega) rfl rfl).trans (by rw [bdC_set b ({ b with addr := v }) 6 (.int .u64 v) (by omega) rfl rfl])
theorem Box.w_addr {w : World} {g : Nat} {b : Bd} (k : Box w g b) {ops : Array Oper} {rest : List Oper} {o : Oper} {a : Act} {Q : Exit → Act → World → Prop} {v : Int} (hgd : o.guard = none) {p' x : Operand} (ho : o.op = .store 22 p' x) (hp : a.eval p' = .pointer (some ⟨g, 6, none⟩)) (hx : a.eval x = .int .u64 v)
    (h : ∀ wy, wy = w.setRow g (bdC ({ b with addr := v })) → wpList Try.prog ops Q rest (a.put o.dst undef) wy) : wpList Try.prog ops Q (o :: rest) a w :=
  wpList_store_by hgd ho (k.store_addr _) hp hx (h _ rfl)
theorem Box.cell_done {w : World} {g : Nat} {b : Bd} (k : Box w g b) : w.cell? ⟨g, 7, none⟩ = some (.bool b.done) := (cell_of_row w g 7 (bdC b) 35 (0, 0) k).trans (bdC_head b 7 (by omega))
theorem Box.load_done {w : World} {g : Nat} {b : Bd} (k : Box w g b) : (Instr.loadAt 4 (.pointer (some ⟨g, 7, none⟩))).run Try.prog w = .ok (.bool b.done) w :=
  run_load_cell w g 7 4 35 (bdC b) _ _ k Try.underlying4 rfl (bdC_head b 7 (by omega))
theorem Box.store_done {w : World} {g : Nat} {b : Bd} (k : Box w g b) (v : Bool) : (Instr.storeAt 4 (.pointer (some ⟨g, 7, none⟩)) (.bool v)).run Try.prog w = .ok () (w.setRow g (bdC ({ b with done := v }))) :=
  (run_store_cell w g 7 4 35 (bdC b) _ k size4 (by rw [bdC_size]; omega) rfl rfl).trans (by rw [bdC_set b ({ b with done := v }) 7 (.bool v) (by omega) rfl rfl])
theorem Box.w_done {w : World} {g : Nat} {b : Bd} (k : Box w g b) {ops : Array Oper} {rest : List Oper} {o : Oper} {a : Act} {Q : Exit → Act → World → Prop} {v : Bool} (hgd : o.guard = none) {p' x : Operand} (ho : o.op = .store 4 p' x) (hp : a.eval p' = .pointer (some ⟨g, 7, none⟩)) (hx : a.eval x = .bool v)
    (h : ∀ wy, wy = w.setRow g (bdC ({ b with done := v })) → wpList Try.prog ops Q rest (a.put o.dst undef) wy) : wpList Try.prog ops Q (o :: rest) a w :=
  wpList_store_by hgd ho (k.store_done _) hp hx (h _ rfl)
theorem Box.cell_bad {w : World} {g : Nat} {b : Bd} (k : Box w g b) : w.cell? ⟨g, 8, none⟩ = some (.bool b.bad) := (cell_of_row w g 8 (bdC b) 35 (0, 0) k).trans (bdC_head b 8 (by omega))
theorem Box.load_bad {w : World} {g : Nat} {b : Bd} (k : Box w g b) : (Instr.loadAt 4 (.pointer (some ⟨g, 8, none⟩))).run Try.prog w = .ok (.bool b.bad) w :=
  run_load_cell w g 8 4 35 (bdC b) _ _ k Try.underlying4 rfl (bdC_head b 8 (by omega))
theorem Box.store_bad {w : World} {g : Nat} {b : Bd} (k : Box w g b) (v : Bool) : (Instr.storeAt 4 (.pointer (some ⟨g, 8, none⟩)) (.bool v)).run Try.prog w = .ok () (w.setRow g (bdC ({ b with bad := v }))) :=
  (run_store_cell w g 8 4 35 (bdC b) _ k size4 (by rw [bdC_size]; omega) rfl rfl).trans (by rw [bdC_set b ({ b with bad := v }) 8 (.bool v) (by omega) rfl rfl])
theorem Box.w_bad {w : World} {g : Nat} {b : Bd} (k : Box w g b) {ops : Array Oper} {rest : List Oper} {o : Oper} {a : Act} {Q : Exit → Act → World → Prop} {v : Bool} (hgd : o.guard = none) {p' x : Operand} (ho : o.op = .store 4 p' x) (hp : a.eval p' = .pointer (some ⟨g, 8, none⟩)) (hx : a.eval x = .bool v)
    (h : ∀ wy, wy = w.setRow g (bdC ({ b with bad := v })) → wpList Try.prog ops Q rest (a.put o.dst undef) wy) : wpList Try.prog ops Q (o :: rest) a w :=
  wpList_store_by hgd ho (k.store_bad _) hp hx (h _ rfl)
theorem Box.cell_fr {w : World} {g : Nat} {b : Bd} (k : Box w g b) : w.cell? ⟨g, 9, none⟩ = some (.slice b.fp b.fn b.fc) := (cell_of_row w g 9 (bdC b) 35 (0, 0) k).trans (bdC_head b 9 (by omega))
theorem Box.load_fr {w : World} {g : Nat} {b : Bd} (k : Box w g b) : (Instr.loadAt 28 (.pointer (some ⟨g, 9, none⟩))).run Try.prog w = .ok (.slice b.fp b.fn b.fc) w :=
  run_load_cell w g 9 28 35 (bdC b) _ _ k Try.underlying28 rfl (bdC_head b 9 (by omega))
theorem Box.store_fr {w : World} {g : Nat} {b : Bd} (k : Box w g b) (p : Option Addr) (n c : Nat) : (Instr.storeAt 28 (.pointer (some ⟨g, 9, none⟩)) (.slice p n c)).run Try.prog w = .ok () (w.setRow g (bdC (b.at p n c))) :=
  (run_store_cell w g 9 28 35 (bdC b) _ k size28 (by rw [bdC_size]; omega) rfl rfl).trans (by rw [bdC_set b (b.at p n c) 9 (.slice p n c) (by omega) rfl rfl])
theorem Box.w_fr {w : World} {g : Nat} {b : Bd} (k : Box w g b) {ops : Array Oper} {rest : List Oper} {o : Oper} {a : Act} {Q : Exit → Act → World → Prop} {p : Option Addr} {n c : Nat} (hgd : o.guard = none) {p' x : Operand} (ho : o.op = .store 28 p' x) (hp : a.eval p' = .pointer (some ⟨g, 9, none⟩)) (hx : a.eval x = .slice p n c)
    (h : ∀ wy, wy = w.setRow g (bdC (b.at p n c)) → wpList Try.prog ops Q rest (a.put o.dst undef) wy) : wpList Try.prog ops Q (o :: rest) a w :=
  wpList_store_by hgd ho (k.store_fr _ _ _) hp hx (h _ rfl)
theorem Box.cell_nicA {w : World} {g : Nat} {b : Bd} (k : Box w g b) : w.cell? ⟨g, 10, none⟩ = some (.int .u64 b.nicA) := (cell_of_row w g 10 (bdC b) 35 (0, 0) k).trans (bdC_head b 10 (by omega))
theorem Box.load_nicA {w : World} {g : Nat} {b : Bd} (k : Box w g b) : (Instr.loadAt 22 (.pointer (some ⟨g, 10, none⟩))).run Try.prog w = .ok (.int .u64 b.nicA) w :=
  run_load_cell w g 10 22 35 (bdC b) _ _ k Try.underlying22 rfl (bdC_head b 10 (by omega))
theorem Box.store_nicA {w : World} {g : Nat} {b : Bd} (k : Box w g b) (v : Int) : (Instr.storeAt 22 (.pointer (some ⟨g, 10, none⟩)) (.int .u64 v)).run Try.prog w = .ok () (w.setRow g (bdC ({ b with nicA := v }))) :=
  (run_store_cell w g 10 22 35 (bdC b) _ k size22 (by rw [bdC_size]; omega) rfl rfl).trans (by rw [bdC_set b ({ b with nicA := v }) 10 (.int .u64 v) (by omega) rfl rfl])
theorem Box.w_nicA {w : World} {g : Nat} {b : Bd} (k : Box w g b) {ops : Array Oper} {rest : List Oper} {o : Oper} {a : Act} {Q : Exit → Act → World → Prop} {v : Int} (hgd : o.guard = none) {p' x : Operand} (ho : o.op = .store 22 p' x) (hp : a.eval p' = .pointer (some ⟨g, 10, none⟩)) (hx : a.eval x = .int .u64 v)
    (h : ∀ wy, wy = w.setRow g (bdC ({ b with nicA := v })) → wpList Try.prog ops Q rest (a.put o.dst undef) wy) : wpList Try.prog ops Q (o :: rest) a w :=
  wpList_store_by hgd ho (k.store_nicA _) hp hx (h _ rfl)
theorem Box.cell_nicL {w : World} {g : Nat} {b : Bd} (k : Box w g b) : w.cell? ⟨g, 11, none⟩ = some (.int .u64 b.nicL) := (cell_of_row w g 11 (bdC b) 35 (0, 0) k).trans (bdC_head b 11 (by omega))
theorem Box.load_nicL {w : World} {g : Nat} {b : Bd} (k : Box w g b) : (Instr.loadAt 22 (.pointer (some ⟨g, 11, none⟩))).run Try.prog w = .ok (.int .u64 b.nicL) w :=
  run_load_cell w g 11 22 35 (bdC b) _ _ k Try.underlying22 rfl (bdC_head b 11 (by omega))
theorem Box.store_nicL {w : World} {g : Nat} {b : Bd} (k : Box w g b) (v : Int) : (Instr.storeAt 22 (.pointer (some ⟨g, 11, none⟩)) (.int .u64 v)).run Try.prog w = .ok () (w.setRow g (bdC ({ b with nicL := v }))) :=
  (run_store_cell w g 11 22 35 (bdC b) _ k size22 (by rw [bdC_size]; omega) rfl rfl).trans (by rw [bdC_set b ({ b with nicL := v }) 11 (.int .u64 v) (by omega) rfl rfl])
theorem Box.w_nicL {w : World} {g : Nat} {b : Bd} (k : Box w g b) {ops : Array Oper} {rest : List Oper} {o : Oper} {a : Act} {Q : Exit → Act → World → Prop} {v : Int} (hgd : o.guard = none) {p' x : Operand} (ho : o.op = .store 22 p' x) (hp : a.eval p' = .pointer (some ⟨g, 11, none⟩)) (hx : a.eval x = .int .u64 v)
    (h : ∀ wy, wy = w.setRow g (bdC ({ b with nicL := v })) → wpList Try.prog ops Q rest (a.put o.dst undef) wy) : wpList Try.prog ops Q (o :: rest) a w :=
  wpList_store_by hgd ho (k.store_nicL _) hp hx (h _ rfl)
theorem w_box {w : World} {g : Nat} {b r : Bd} (k : Box w g r) {ops : Array Oper} {rest : List Oper} {o : Oper} {a : Act} {Q : Exit → Act → World → Prop} (hgd : o.guard = none) {p x : Operand} (ho : o.op = .store 35 p x) (hp : a.eval p = .pointer (some ⟨g, 0, none⟩)) (hx : a.eval x = bdV b)
    (h : ∀ wy, wy = w.setRow g (bdC b) → wpList Try.prog ops Q rest (a.put o.dst undef) wy) : wpList Try.prog ops Q (o :: rest) a w :=
  wpList_store_by hgd ho (store_box w g _ b k (bdC_size r)) hp hx (h _ rfl)
/-- A function's own board and, behind it, the one that it is to tell. -/
structure KA (W wx : World) (b r : Bd) : Prop where
  own : Box wx W.heap.size b
  res : Box wx (W.heap.size + 1) r
  below : Below W.heap.size W wx
theorem KA.new (W : World) (b : Bd) : KA W ((W.alloc (bdO b)).alloc zeroO) b bdZ :=
  ⟨(Box.new W b).alloc _, by have k := Box.new (W.alloc (bdO b)) bdZ; rwa [World.size_alloc] at k, below2 W _ _⟩
theorem KA.next {W w w' : World} {b r : Bd} (k : KA W w b r) (j : Below w.heap.size w w') : KA W w' b r := ⟨k.own.next j, k.res.next j, below_then k.below j⟩
theorem KA.drew {W w : World} {b r : Bd} (k : KA W w b r) : KA W w.drew b r := k.next (Below.refl _ _).drew
theorem KA.put {W w w' : World} {b b' r : Bd} (k : KA W w b r) (h : w' = w.setRow W.heap.size (bdC b')) : KA W w' b' r := by
  subst h
  exact ⟨Box.mine k.own b', k.res.over (by omega) _, below_setRow k.below (Nat.le_refl _) _⟩
theorem KA.tell {W w w' : World} {b r r' : Bd} (k : KA W w b r) (h : w' = w.setRow (W.heap.size + 1) (bdC r')) : KA W w' b r' := by
  subst h
  exact ⟨k.own.over (by omega) _, Box.mine k.res r', below_setRow k.below (by omega) _⟩
/-- The same with one more board of the function's own, at z. -/
structure KB (W wx : World) (z : Nat) (b o r : Bd) : Prop where
  own : Box wx W.heap.size b
  res : Box wx (W.heap.size + 1) r
  out : Box wx z o
  far : W.heap.size + 1 < z
  below : Below W.heap.size W wx
theorem KB.next {W w w' : World} {z : Nat} {b o r : Bd} (k : KB W w z b o r) (j : Below w.heap.size w w') : KB W w' z b o r := ⟨k.own.next j, k.res.next j, k.out.next j, k.far, below_then k.below j⟩
theorem KB.drew {W w : World} {z : Nat} {b o r : Bd} (k : KB W w z b o r) : KB W w.drew z b o r := k.next (Below.refl _ _).drew
theorem KB.put {W w w' : World} {z : Nat} {b o o' r : Bd} (k : KB W w z b o r) (h : w' = w.setRow z (bdC o')) : KB W w' z b o' r := by
  have hf := k.far
  subst h
  exact ⟨k.own.over (by omega) _, k.res.over (by omega) _, Box.mine k.out o', hf, below_setRow k.below (by omega) _⟩
theorem KB.tell {W w w' : World} {z : Nat} {b o r r' : Bd} (k : KB W w z b o r) (h : w' = w.setRow (W.heap.size + 1) (bdC r')) : KB W w' z b o r' := by
  have hf := k.far
  subst h
  exact ⟨k.own.over (by omega) _, Box.mine k.res r', k.out.over (by omega) _, hf, below_setRow k.below (by omega) _⟩
theorem KA.more {W w : World} {b r : Bd} (k : KA W w b r) (o : Bd) : KB W (w.alloc (bdO o)) w.heap.size b o r :=
  ⟨k.own.alloc _, k.res.alloc _, Box.new w o, k.res.lt, k.below.alloc (Nat.le_of_lt k.own.lt) _⟩
/-! ### Frames -/
def sC (l : List ByteArray) : List Value := l.map .string
theorem sC_length (l : List ByteArray) : (sC l).length = l.length := List.length_map _
theorem sC_one (l : List ByteArray) : ∀ v ∈ sC l, v.oneCell' = true := fun v hv => by obtain ⟨_, _, rfl⟩ := List.mem_map.1 hv; rfl
/-- Frames, as a slice's value. -/
def FAt (w : World) (v : Value) (F : List ByteArray) : Prop := Reads w v 1 F.length (sC F)
theorem FAt.next {w w' : World} {v : Value} {F : List ByteArray} (h : FAt w v F) (hb : Below w.heap.size w w') : FAt w' v F := Reads.below h hb
theorem FAt.is {w : World} {v : Value} {F : List ByteArray} (h : FAt w v F) : ∃ p cap, v = .slice p F.length cap := Reads.is h
theorem FAt.len {w : World} {p : Option Addr} {n c : Nat} {F : List ByteArray} (h : FAt w (.slice p n c) F) : n = F.length := by
  obtain ⟨_, _, e⟩ := h.is
  simp only [Value.slice.injEq] at e
  exact e.2.1
theorem FAt.cell {w : World} {v : Value} {F : List ByteArray} (h : FAt w v F) (h0 : 0 < F.length) :
    ∃ b off cap, v = .slice (some ⟨b, off, none⟩) F.length cap ∧ F.length ≤ cap ∧ cap ≤ maxLen ∧ b < w.heap.size ∧ ∀ j (hj : j < F.length), w.cell? ⟨b, off + j, none⟩ = some (.string F[j]) := by
  obtain ⟨b, off, cap, h1, h2, h3, h4, h5⟩ := Reads.at h (by omega)
  exact ⟨b, off, cap, h1, h2, h3, h4, fun j hj => h5 j _ (by simp [sC, hj])⟩
def OwnF (w : World) (B : Nat) (v : Value) (F : List ByteArray) : Prop := w.ownsRow B 9 1 v F.length (sC F)
theorem OwnF.at {w : World} {B : Nat} {v : Value} {F : List ByteArray} (h : OwnF w B v F) : FAt w v F := reads_of_owns h
theorem OwnF.next {w w' : World} {B : Nat} {v : Value} {F : List ByteArray} (h : OwnF w B v F) (hb : Below w.heap.size w w') : OwnF w' B v F := owns_below h hb
theorem OwnF.not_box {w : World} {B g : Nat} {v : Value} {F : List ByteArray} {b : Bd} (h : OwnF w B v F) (k : Box w g b) : v.ownBlock ≠ some g := not_at h k (by decide)
theorem below_grown {w w' : World} (h : w.grownBy w' none) : Below w.heap.size w w' := ⟨h.os, h.tape, h.output, h.size, fun k hk => h.block k hk (by simp)⟩
theorem info9 : ∃ i, Try.prog.info? 9 = some i ∧ i.zero = some (.string .empty) ∧ i.size = 1 ∧ i.bytes = 16 := by
  obtain ⟨i, h1, h2, h3, h4⟩ := info_parts (show (Try.prog.info? 9).map (fun i => (i.zero, i.size, i.bytes)) = some (some (.string .empty), 1, 16) by kernel_rfl)
  exact ⟨i, h1, h2, h3, h4⟩
/-- append(nil, frames...). -/
theorem run_frames (w : World) (ty : TypeId) (q : Option Addr) (n c : Nat) (F : List ByteArray) (hr : FAt w (.slice q n c) F) (hF : F.length ≤ 8796093022208) :
    ∃ p cap w', (Builtin.append_ #[28, 28] ty #[.slice none 0 0, .slice q n c]).run Try.prog w = .ok (.slice p F.length cap) w' ∧ OwnF w' w.heap.size (.slice p F.length cap) F ∧ Below w.heap.size w w' := by
  obtain ⟨i, hi, hz, hs, hb⟩ := info9
  have hown : w.ownsRow w.heap.size 9 1 (.slice none 0 0) 0 [] := World.ownsRow_nil w _ _ _
  have hl := hr.1
  obtain rfl := hr.len
  rcases hr.2 with ⟨e1, e2⟩ | ⟨a, c2, e1, _, _, hc⟩
  · simp only [Value.slice.injEq] at e1
    obtain ⟨rfl, _, rfl⟩ := e1
    obtain rfl : F = [] := List.eq_nil_of_length_eq_zero e2
    exact ⟨_, _, w, run_append_owned_none (P := Try.prog) w w.heap.size 28 ty 9 i 1 Try.underlying28 hi _ 0 [] hown, hown, Below.refl _ _⟩
  · simp only [Value.slice.injEq, true_and] at e1
    obtain ⟨rfl, rfl⟩ := e1
    obtain ⟨v', w', hrun, ho, hgr, _⟩ := run_append_own (P := Try.prog) w w.heap.size 28 ty 9 i (.string .empty) 1 16 Try.underlying28 hi hz hs hb rfl (by omega) _ 0 [] hown a F.length c (sC F) hl hc (sC_one F) (by unfold maxLen; omega) (by omega) (Nat.le_refl _)
    rw [Nat.zero_add, List.nil_append] at ho
    obtain ⟨p, cap, rfl⟩ := owns_shape ho
    exact ⟨p, cap, w', hrun, ho, below_grown hgr⟩

end Go.Proofs.Ytgflnfmnjlmenaa
