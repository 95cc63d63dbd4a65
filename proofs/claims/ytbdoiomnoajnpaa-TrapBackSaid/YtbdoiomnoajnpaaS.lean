/- A processor in memory. -/
import Derived.Test.YtbdoiomnoajnpaaA
namespace Go.Proofs.Ytbdoiomnoajnpaa
open Go.RowKit Go.Deep Go.Joins
/-- A processor. -/
structure Hart where
  x : List Int
  hx : x.length = 32
  pc : Int
  mode : Int
  c : Reg
  held : Bool
  rat : Int
def xL (h : Hart) : List Value := h.x.map (.int .u64)
def tailL (h : Hart) : List Value := [.int .u64 h.pc, .int .i64 h.mode, .int .u64 h.c.s0, .int .u64 h.c.s1, .int .u64 h.c.s2, .int .u64 h.c.s3, .int .u64 h.c.s4, .int .u64 h.c.s5, .int .u64 h.c.s6, .int .u64 h.c.s7, .int .u64 h.c.s8, .int .u64 h.c.s9, .int .u64 h.c.s10, .int .u64 h.c.s11, .int .u64 h.c.s12, .int .u64 h.c.s13, .int .u64 h.c.s14, .int .u64 h.c.s15, .bool h.held, .int .u64 h.rat]
def hartL (h : Hart) : List Value := xL h ++ tailL h
def hartC (h : Hart) : Array Value := (hartL h).toArray
abbrev hartV (h : Hart) : Value := .agg (hartC h)
abbrev hartO (h : Hart) : Obj := .cells (hartC h) 27
def xC (h : Hart) : Array Value := (xL h).toArray
theorem xL_length (h : Hart) : (xL h).length = 32 := by unfold xL; simp [h.hx]
theorem hartC_size (h : Hart) : (hartC h).size = 52 := by unfold hartC hartL; simp [xL_length, tailL]
theorem hartC_tail (h : Hart) (k : Nat) : (hartC h)[32 + k]? = (tailL h)[k]? := by
  unfold hartC hartL
  rw [List.getElem?_toArray, List.getElem?_append_right (by rw [xL_length]; omega), xL_length]
  congr 1
  omega
theorem hartC_x (h : Hart) (k : Nat) (hk : k < 32) : (hartC h)[k]? = (xL h)[k]? := by
  unfold hartC hartL
  rw [List.getElem?_toArray, List.getElem?_append_left (by rw [xL_length]; omega)]
theorem hartC_set (h g : Hart) (k : Nat) (v : Value) (hx : xL g = xL h) (ht : tailL g = (tailL h).set k v) : (hartC h).setIfInBounds (32 + k) v = hartC g := by
  unfold hartC hartL
  rw [List.setIfInBounds_toArray, List.set_append_right _ _ (by rw [xL_length]; omega), xL_length, hx, ht]
  congr 4
  omega
theorem one_map (l : List Int) : (l.map (Value.int .u64)).all (·.oneCell') = true := by
  induction l with
  | nil => rfl
  | cons a l ih => simp [Value.oneCell']
theorem hart_one (h : Hart) : (hartC h).all (·.oneCell') = true := by
  unfold hartC hartL xL tailL
  simp [Value.oneCell']
theorem size27 : (Try.prog.info? 27).map (·.size) = some 52 := by kernel_rfl
theorem size23 : (Try.prog.info? 23).map (·.size) = some 32 := by kernel_rfl
theorem size25 : (Try.prog.info? 25).map (·.size) = some 16 := by kernel_rfl
theorem size22 : (Try.prog.info? 22).map (·.size) = some 1 := by kernel_rfl
theorem size3 : (Try.prog.info? 3).map (·.size) = some 1 := by kernel_rfl
theorem size4 : (Try.prog.info? 4).map (·.size) = some 1 := by kernel_rfl

end Go.Proofs.Ytbdoiomnoajnpaa
namespace Go

/-- A load, by what it does. -/
theorem wpList_load_by {P : Program} {w : World} {ops : Array Oper} {rest : List Oper} {o : Oper} {a : Act} {Q : Exit → Act → World → Prop} (hgd : o.guard = none) {t : TypeId} {p : Operand} (ho : o.op = .load t p) {v r : Value}
    (hrun : (Instr.loadAt t v).run P w = .ok r w) (hp : a.eval p = v) (h : wpList P ops Q rest (a.put o.dst r) w) : wpList P ops Q (o :: rest) a w := by
  refine wpList_plain hgd fun K hK => ?_
  unfold Oper.wp
  simp [execOp, ho, hp, hrun, Result.andThen]
  exact hK _ _ h
theorem wpList_load_wanted {P : Program} {w : World} {ops : Array Oper} {rest : List Oper} {o : Oper} {a : Act} {Q : Exit → Act → World → Prop} (hgd : Region.wanted o (yielded ops a.tmps) = true) {t : TypeId} {p : Operand} (ho : o.op = .load t p) {v r : Value}
    (hrun : (Instr.loadAt t v).run P w = .ok r w) (hp : a.eval p = v) (h : wpList P ops Q rest (a.put o.dst r) w) : wpList P ops Q (o :: rest) a w := by
  refine wpList_step fun K hK => ?_
  rw [if_pos hgd]
  unfold Oper.wp
  simp [execOp, ho, hp, hrun, Result.andThen]
  exact hK _ _ h
theorem wpList_store_by {P : Program} {w w' : World} {ops : Array Oper} {rest : List Oper} {o : Oper} {a : Act} {Q : Exit → Act → World → Prop} (hgd : o.guard = none) {t : TypeId} {p x : Operand} (ho : o.op = .store t p x) {v u : Value}
    (hrun : (Instr.storeAt t v u).run P w = .ok () w') (hp : a.eval p = v) (hx : a.eval x = u) (h : wpList P ops Q rest (a.put o.dst undef) w') : wpList P ops Q (o :: rest) a w := by
  refine wpList_plain hgd fun K hK => ?_
  unfold Oper.wp
  simp [execOp, ho, hp, hx, hrun, Result.andThen]
  exact hK _ _ h
theorem setRow_alloc_old (w : World) (g : Nat) (cs : Array Value) (o : Obj) (h : g < w.heap.size) : (w.alloc o).setRow g cs = (w.setRow g cs).alloc o := by
  simp only [World.setRow, World.alloc]
  congr 1
  apply Array.ext_getElem?
  intro i
  rw [Array.getElem?_modify, Array.getElem?_push, Array.getElem?_push, Array.getElem?_modify]
  by_cases hi : g = i
  · subst hi
    have h1 : ¬ g = w.heap.size := by omega
    simp [h1]
  · simp [hi]
theorem run_store_cell {P : Program} (w : World) (b k : Nat) (t ty : TypeId) (cur : Array Value) (v : Value) (hb : w.heap[b]? = some (.cells cur ty (0, 0))) (hi : (P.info? t).map (·.size) = some 1) (hk : k < cur.size) (h1 : v.oneCell' = true) (hc : v.cells = #[v]) :
    (Instr.storeAt t (.pointer (some ⟨b, k, none⟩)) v).run P w = .ok () (w.setRow b (cur.setIfInBounds k v)) := by
  have hcell : w.cell? ⟨b, k, none⟩ = some cur[k] := by simp [World.cell?, hb, hk]
  have hfro : w.frozen? ⟨b, k, none⟩ = false := by simp [World.frozen?, hb]
  have hadd : (⟨b, k, none⟩ : Addr).add 0 = ⟨b, k, none⟩ := by unfold Addr.add; split <;> simp_all
  cases hq : P.info? t with
  | none => simp [hq] at hi
  | some i =>
    have hs : i.size = 1 := by simpa [hq] using hi
    simp [Instr.storeAt, Instr.sureAddr, storeVar, sizeOf, typeInfo, hq, hs, hc, storeCells, Sem.run_bind, Result.andThen, run_store P w _ v _ h1, hadd, hcell, hfro, setCell_eq_setRow w b k cur ty (0, 0) v hb]
theorem run_load_cell {P : Program} (w : World) (b k : Nat) (t ty : TypeId) (cur : Array Value) (v : Value) (d : TypeDesc) (hb : w.heap[b]? = some (.cells cur ty (0, 0))) (hu : P.underlying t = some d) (hd : (match d with | .struct _ | .array _ _ => true | _ => false) = false) (hk : cur[k]? = some v) :
    (Instr.loadAt t (.pointer (some ⟨b, k, none⟩))).run P w = .ok v w := by
  have hcell : w.cell? ⟨b, k, none⟩ = some v := by simp [World.cell?, hb, hk]
  have hagg : (isAgg t).run P w = .ok false w := by
    unfold isAgg
    rw [Sem.run_bind, run_underlying hu w]
    cases d <;> simp_all
  simp [Instr.loadAt, Instr.sureAddr, loadVar, Sem.run_bind, Result.andThen, hagg, run_load, hcell]
theorem run_load_rowAt {P : Program} (w : World) (g k : Nat) (t ty : TypeId) (cs : Array Value) (part : List Value) (d : TypeDesc) (hg : w.heap[g]? = some (.cells cs t (0, 0)))
    (hu : P.underlying ty = some d) (hd : (match d with | .struct _ | .array _ _ => true | _ => false) = true) (hi : (P.info? ty).map (·.size) = some part.length) (hp : ∀ j v, part[j]? = some v → cs[k + j]? = some v) :
    (Instr.loadAt ty (.pointer (some ⟨g, k, none⟩))).run P w = .ok (.agg part.toArray) w := by
  have hl : (loadCells ⟨g, k, none⟩ part.length).run P w = .ok part.toArray w :=
    run_loadCells_list (P := P) w ⟨g, k, none⟩ part (fun j v hv => by
      have hadd : (⟨g, k, none⟩ : Addr).add j = ⟨g, k + j, none⟩ := by unfold Addr.add; split <;> simp_all
      rw [hadd, cell_of_row w g (k + j) cs t (0, 0) hg]
      exact hp j v hv)
  cases hq : P.info? ty with
  | none => simp [hq] at hi
  | some i =>
    have hs : i.size = part.length := by simpa [hq] using hi
    have hagg : (isAgg ty).run P w = .ok true w := by
      unfold isAgg
      rw [Sem.run_bind, run_underlying hu w]
      cases d <;> simp_all
    simp [Instr.loadAt, Instr.sureAddr, loadVar, Sem.run_bind, hagg, sizeOf, typeInfo, hq, hs, hl, Result.andThen]

end Go
namespace Go.Proofs.Ytbdoiomnoajnpaa
open Go.RowKit Go.Deep Go.Joins
/-- A block that holds this processor. -/
def Box (w : World) (b : Nat) (h : Hart) : Prop := w.heap[b]? = some (hartO h)
theorem Box.lt {w : World} {b : Nat} {h : Hart} (k : Box w b h) : b < w.heap.size := (Array.getElem?_eq_some_iff.1 k).1
theorem Box.next {w w' : World} {b : Nat} {h : Hart} (k : Box w b h) (j : Below w.heap.size w w') : Box w' b h := (j.block b k.lt).trans k
theorem Box.drew {w : World} {b : Nat} {h : Hart} (k : Box w b h) : Box w.drew b h := k
theorem Box.alloc {w : World} {b : Nat} {h : Hart} (k : Box w b h) (o : Obj) : Box (w.alloc o) b h := k.next ((Below.refl _ _).alloc (Nat.le_refl _) o)
theorem Box.new (w : World) (h : Hart) : Box (w.alloc (hartO h)) w.heap.size h := heap_alloc_last w _
theorem Box.over {w : World} {b g : Nat} {h : Hart} (k : Box w b h) (hg : b ≠ g) (cs : Array Value) : Box (w.setRow g cs) b h := (setRow_other w g b cs hg).trans k
theorem Box.mine {w : World} {g : Nat} {old : Array Value} (k : w.heap[g]? = some (.cells old 27 (0, 0))) (h : Hart) : Box (w.setRow g (hartC h)) g h := setRow_heap w g old (hartC h) 27 (0, 0) k
theorem Box.load {w : World} {b : Nat} {h : Hart} (k : Box w b h) : (Instr.loadAt 27 (.pointer (some ⟨b, 0, none⟩))).run Try.prog w = .ok (hartV h) w := by
  simp only [Instr.loadAt, Instr.sureAddr, Sem.run_bind, Sem.run_pure, Result.andThen]
  exact run_loadVar_row w b 27 27 (hartC h) (0, 0) _ k Try.underlying27 rfl (by rw [size27, hartC_size])
theorem Box.result {w : World} {b : Nat} {h : Hart} (k : Box w b h) : (loadVar 27 ⟨b, 0, none⟩).run Try.prog w = .ok (hartV h) w :=
  run_loadVar_row w b 27 27 (hartC h) (0, 0) _ k Try.underlying27 rfl (by rw [size27, hartC_size])
theorem Box.load_x {w : World} {b : Nat} {h : Hart} (k : Box w b h) : (Instr.loadAt 23 (.pointer (some ⟨b, 0, none⟩))).run Try.prog w = .ok (.agg (xC h)) w :=
  run_load_rowAt w b 0 27 23 (hartC h) (xL h) _ k Try.underlying23 rfl (by rw [size23, xL_length]) fun j v hv => by
    have hj : j < 32 := by have := (List.getElem?_eq_some_iff.1 hv).1; rwa [xL_length] at this
    rw [Nat.zero_add, hartC_x h j hj, hv]
theorem Box.load_c {w : World} {b : Nat} {h : Hart} (k : Box w b h) : (Instr.loadAt 25 (.pointer (some ⟨b, 34, none⟩))).run Try.prog w = .ok (regV h.c) w :=
  run_load_rowAt w b 34 27 25 (hartC h) [.int .u64 h.c.s0, .int .u64 h.c.s1, .int .u64 h.c.s2, .int .u64 h.c.s3, .int .u64 h.c.s4, .int .u64 h.c.s5, .int .u64 h.c.s6, .int .u64 h.c.s7, .int .u64 h.c.s8, .int .u64 h.c.s9, .int .u64 h.c.s10, .int .u64 h.c.s11, .int .u64 h.c.s12, .int .u64 h.c.s13, .int .u64 h.c.s14, .int .u64 h.c.s15] _ k Try.underlying25 rfl (by rw [size25]; rfl) fun j v hv => by
    rw [show 34 + j = 32 + (2 + j) from by omega, hartC_tail]
    match j, hv with
    | 0, hv => exact hv
    | 1, hv => exact hv
    | 2, hv => exact hv
    | 3, hv => exact hv
    | 4, hv => exact hv
    | 5, hv => exact hv
    | 6, hv => exact hv
    | 7, hv => exact hv
    | 8, hv => exact hv
    | 9, hv => exact hv
    | 10, hv => exact hv
    | 11, hv => exact hv
    | 12, hv => exact hv
    | 13, hv => exact hv
    | 14, hv => exact hv
    | 15, hv => exact hv
    | j + 16, hv => simp at hv
theorem Box.load_pc {w : World} {b : Nat} {h : Hart} (k : Box w b h) : (Instr.loadAt 22 (.pointer (some ⟨b, 32, none⟩))).run Try.prog w = .ok (.int .u64 h.pc) w :=
  run_load_cell w b 32 22 27 (hartC h) _ _ k Try.underlying22 rfl (hartC_tail h 0)
theorem Box.load_mode {w : World} {b : Nat} {h : Hart} (k : Box w b h) : (Instr.loadAt 3 (.pointer (some ⟨b, 33, none⟩))).run Try.prog w = .ok (.int .i64 h.mode) w :=
  run_load_cell w b 33 3 27 (hartC h) _ _ k Try.underlying3 rfl (hartC_tail h 1)
theorem Box.load_c_s0 {w : World} {b : Nat} {h : Hart} (k : Box w b h) : (Instr.loadAt 22 (.pointer (some ⟨b, 34, none⟩))).run Try.prog w = .ok (.int .u64 h.c.s0) w :=
  run_load_cell w b 34 22 27 (hartC h) _ _ k Try.underlying22 rfl (hartC_tail h 2)
theorem Box.load_c_s1 {w : World} {b : Nat} {h : Hart} (k : Box w b h) : (Instr.loadAt 22 (.pointer (some ⟨b, 35, none⟩))).run Try.prog w = .ok (.int .u64 h.c.s1) w :=
  run_load_cell w b 35 22 27 (hartC h) _ _ k Try.underlying22 rfl (hartC_tail h 3)
theorem Box.load_c_s2 {w : World} {b : Nat} {h : Hart} (k : Box w b h) : (Instr.loadAt 22 (.pointer (some ⟨b, 36, none⟩))).run Try.prog w = .ok (.int .u64 h.c.s2) w :=
  run_load_cell w b 36 22 27 (hartC h) _ _ k Try.underlying22 rfl (hartC_tail h 4)
theorem Box.load_c_s3 {w : World} {b : Nat} {h : Hart} (k : Box w b h) : (Instr.loadAt 22 (.pointer (some ⟨b, 37, none⟩))).run Try.prog w = .ok (.int .u64 h.c.s3) w :=
  run_load_cell w b 37 22 27 (hartC h) _ _ k Try.underlying22 rfl (hartC_tail h 5)
theorem Box.load_c_s4 {w : World} {b : Nat} {h : Hart} (k : Box w b h) : (Instr.loadAt 22 (.pointer (some ⟨b, 38, none⟩))).run Try.prog w = .ok (.int .u64 h.c.s4) w :=
  run_load_cell w b 38 22 27 (hartC h) _ _ k Try.underlying22 rfl (hartC_tail h 6)
theorem Box.load_c_s5 {w : World} {b : Nat} {h : Hart} (k : Box w b h) : (Instr.loadAt 22 (.pointer (some ⟨b, 39, none⟩))).run Try.prog w = .ok (.int .u64 h.c.s5) w :=
  run_load_cell w b 39 22 27 (hartC h) _ _ k Try.underlying22 rfl (hartC_tail h 7)
theorem Box.load_c_s6 {w : World} {b : Nat} {h : Hart} (k : Box w b h) : (Instr.loadAt 22 (.pointer (some ⟨b, 40, none⟩))).run Try.prog w = .ok (.int .u64 h.c.s6) w :=
  run_load_cell w b 40 22 27 (hartC h) _ _ k Try.underlying22 rfl (hartC_tail h 8)
theorem Box.load_c_s7 {w : World} {b : Nat} {h : Hart} (k : Box w b h) : (Instr.loadAt 22 (.pointer (some ⟨b, 41, none⟩))).run Try.prog w = .ok (.int .u64 h.c.s7) w :=
  run_load_cell w b 41 22 27 (hartC h) _ _ k Try.underlying22 rfl (hartC_tail h 9)
theorem Box.load_c_s8 {w : World} {b : Nat} {h : Hart} (k : Box w b h) : (Instr.loadAt 22 (.pointer (some ⟨b, 42, none⟩))).run Try.prog w = .ok (.int .u64 h.c.s8) w :=
  run_load_cell w b 42 22 27 (hartC h) _ _ k Try.underlying22 rfl (hartC_tail h 10)
theorem Box.load_c_s9 {w : World} {b : Nat} {h : Hart} (k : Box w b h) : (Instr.loadAt 22 (.pointer (some ⟨b, 43, none⟩))).run Try.prog w = .ok (.int .u64 h.c.s9) w :=
  run_load_cell w b 43 22 27 (hartC h) _ _ k Try.underlying22 rfl (hartC_tail h 11)
theorem Box.load_c_s10 {w : World} {b : Nat} {h : Hart} (k : Box w b h) : (Instr.loadAt 22 (.pointer (some ⟨b, 44, none⟩))).run Try.prog w = .ok (.int .u64 h.c.s10) w :=
  run_load_cell w b 44 22 27 (hartC h) _ _ k Try.underlying22 rfl (hartC_tail h 12)
theorem Box.load_c_s11 {w : World} {b : Nat} {h : Hart} (k : Box w b h) : (Instr.loadAt 22 (.pointer (some ⟨b, 45, none⟩))).run Try.prog w = .ok (.int .u64 h.c.s11) w :=
  run_load_cell w b 45 22 27 (hartC h) _ _ k Try.underlying22 rfl (hartC_tail h 13)
theorem Box.load_c_s12 {w : World} {b : Nat} {h : Hart} (k : Box w b h) : (Instr.loadAt 22 (.pointer (some ⟨b, 46, none⟩))).run Try.prog w = .ok (.int .u64 h.c.s12) w :=
  run_load_cell w b 46 22 27 (hartC h) _ _ k Try.underlying22 rfl (hartC_tail h 14)
theorem Box.load_c_s13 {w : World} {b : Nat} {h : Hart} (k : Box w b h) : (Instr.loadAt 22 (.pointer (some ⟨b, 47, none⟩))).run Try.prog w = .ok (.int .u64 h.c.s13) w :=
  run_load_cell w b 47 22 27 (hartC h) _ _ k Try.underlying22 rfl (hartC_tail h 15)
theorem Box.load_c_s14 {w : World} {b : Nat} {h : Hart} (k : Box w b h) : (Instr.loadAt 22 (.pointer (some ⟨b, 48, none⟩))).run Try.prog w = .ok (.int .u64 h.c.s14) w :=
  run_load_cell w b 48 22 27 (hartC h) _ _ k Try.underlying22 rfl (hartC_tail h 16)
theorem Box.load_c_s15 {w : World} {b : Nat} {h : Hart} (k : Box w b h) : (Instr.loadAt 22 (.pointer (some ⟨b, 49, none⟩))).run Try.prog w = .ok (.int .u64 h.c.s15) w :=
  run_load_cell w b 49 22 27 (hartC h) _ _ k Try.underlying22 rfl (hartC_tail h 17)
theorem Box.load_held {w : World} {b : Nat} {h : Hart} (k : Box w b h) : (Instr.loadAt 4 (.pointer (some ⟨b, 50, none⟩))).run Try.prog w = .ok (.bool h.held) w :=
  run_load_cell w b 50 4 27 (hartC h) _ _ k Try.underlying4 rfl (hartC_tail h 18)
theorem Box.load_rat {w : World} {b : Nat} {h : Hart} (k : Box w b h) : (Instr.loadAt 22 (.pointer (some ⟨b, 51, none⟩))).run Try.prog w = .ok (.int .u64 h.rat) w :=
  run_load_cell w b 51 22 27 (hartC h) _ _ k Try.underlying22 rfl (hartC_tail h 19)
theorem Box.load_x0 {w : World} {b : Nat} {h : Hart} (k : Box w b h) (a : Int) (l : List Int) (hl : h.x = a :: l) : (Instr.loadAt 22 (.pointer (some ⟨b, 0, none⟩))).run Try.prog w = .ok (.int .u64 a) w :=
  run_load_cell w b 0 22 27 (hartC h) _ _ k Try.underlying22 rfl (by rw [hartC_x h 0 (by omega)]; unfold xL; rw [hl]; rfl)
theorem store_box (w : World) (b : Nat) (old : Array Value) (h : Hart) (k : w.heap[b]? = some (.cells old 27 (0, 0))) (ho : old.size = 52) : (Instr.storeAt 27 (.pointer (some ⟨b, 0, none⟩)) (hartV h)).run Try.prog w = .ok () (w.setRow b (hartC h)) := by
  simp only [Instr.storeAt, Instr.sureAddr, Sem.run_bind, Sem.run_pure, Result.andThen]
  exact run_storeVar_row w b 27 27 old (hartC h) k (by rw [size27, hartC_size]) (by rw [ho, hartC_size]) (hart_one h)
abbrev zeroC : Array Value := #[.int .u64 0, .int .u64 0, .int .u64 0, .int .u64 0, .int .u64 0, .int .u64 0, .int .u64 0, .int .u64 0, .int .u64 0, .int .u64 0, .int .u64 0, .int .u64 0, .int .u64 0, .int .u64 0, .int .u64 0, .int .u64 0, .int .u64 0, .int .u64 0, .int .u64 0, .int .u64 0, .int .u64 0, .int .u64 0, .int .u64 0, .int .u64 0, .int .u64 0, .int .u64 0, .int .u64 0, .int .u64 0, .int .u64 0, .int .u64 0, .int .u64 0, .int .u64 0, .int .u64 0, .int .i64 0, .int .u64 0, .int .u64 0, .int .u64 0, .int .u64 0, .int .u64 0, .int .u64 0, .int .u64 0, .int .u64 0, .int .u64 0, .int .u64 0, .int .u64 0, .int .u64 0, .int .u64 0, .int .u64 0, .int .u64 0, .int .u64 0, .bool false, .int .u64 0]
abbrev zeroO : Obj := .cells zeroC 27
theorem store_new (w : World) (h : Hart) : (Instr.storeAt 27 (.pointer (some ⟨w.heap.size, 0, none⟩)) (hartV h)).run Try.prog (w.alloc zeroO) = .ok () (w.alloc (hartO h)) :=
  run_storeAt_new w 27 _ (hartC h) (by rw [size27, hartC_size]) (by rw [hartC_size]; rfl) (hart_one h)
/-- A function's own processor, and behind it its result. -/
def St (n : Nat) (W : World) (h : Hart) (r : Array Value) : World := ((W.alloc (hartO h)).alloc (.cells r 27)).drewN n
theorem St.box (n : Nat) (W : World) (h : Hart) (r : Array Value) : Box (St n W h r) W.heap.size h := (Box.new W h).alloc (.cells r 27)
theorem St.res (n : Nat) (W : World) (h : Hart) (r : Array Value) : (St n W h r).heap[W.heap.size + 1]? = some (.cells r 27 (0, 0)) := by
  have k := heap_alloc_last (W.alloc (hartO h)) (.cells r 27)
  rwa [World.size_alloc] at k
theorem St.put (n : Nat) (W : World) (h g : Hart) (r : Array Value) : (St n W h r).setRow W.heap.size (hartC g) = St n W g r := by
  have k : ((W.alloc (hartO h)).alloc (.cells r 27)).setRow W.heap.size (hartC g) = (W.alloc (hartO g)).alloc (.cells r 27) := by rw [setRow_alloc_old _ _ _ _ (by simp), World.setRow_alloc_new]
  exact congrArg (fun w => w.drewN n) k
theorem St.full (n : Nat) (W : World) (h : Hart) (r r' : Array Value) : (St n W h r).setRow (W.heap.size + 1) r' = St n W h r' := by
  have k := World.setRow_alloc_new (W.alloc (hartO h)) r r' 27
  rw [World.size_alloc] at k
  exact congrArg (fun w => w.drewN n) k
theorem St.below (n : Nat) (W : World) (h : Hart) (r : Array Value) : Below W.heap.size W (St n W h r) := ⟨rfl, rfl, rfl, by show W.heap.size ≤ ((W.heap.push _).push _).size; simp; omega, fun k hk => (((Below.refl _ _).alloc (Nat.le_refl _) _).alloc (by simp) _).block k hk⟩
theorem St.load (n : Nat) (W : World) (h : Hart) (r : Array Value) : (Instr.loadAt 27 (.pointer (some ⟨W.heap.size, 0, none⟩))).run Try.prog (St n W h r) = .ok (hartV h) (St n W h r) := (St.box n W h r).load
theorem St.store (n : Nat) (W : World) (h g : Hart) : (Instr.storeAt 27 (.pointer (some ⟨W.heap.size + 1, 0, none⟩)) (hartV g)).run Try.prog (St n W h zeroC) = .ok () (St n W h (hartC g)) :=
  (store_box _ _ _ _ (St.res n W h zeroC) rfl).trans (by rw [St.full])
theorem St.store_at {n : Nat} {W : World} {h : Hart} (g : Hart) {r : Array Value} {t k : Nat} (i : Nat) {v : Value} (hk : k = 32 + i) (hi : i < 20) (hs : (Try.prog.info? t).map (·.size) = some 1) (h1 : v.oneCell' = true) (hc : v.cells = #[v]) (hx : xL g = xL h) (ht : tailL g = (tailL h).set i v) : (Instr.storeAt t (.pointer (some ⟨W.heap.size, k, none⟩)) v).run Try.prog (St n W h r) = .ok () (St n W g r) := by
  subst hk
  refine (run_store_cell _ _ (32 + i) t 27 _ _ (St.box n W h r) hs (by rw [hartC_size]; omega) h1 hc).trans ?_
  rw [hartC_set h g i v hx ht, St.put]
theorem St.result (n : Nat) (W : World) (h g : Hart) : (loadVar 27 ⟨W.heap.size + 1, 0, none⟩).run Try.prog (St n W h (hartC g)) = .ok (hartV g) (St n W h (hartC g)) := Box.result (St.res n W h (hartC g))
theorem St.zero (W : World) (h : Hart) : (W.alloc (hartO h)).alloc zeroO = St 0 W h zeroC := rfl
theorem St.drew (n : Nat) (W : World) (h : Hart) (r : Array Value) : (St n W h r).drew = St (n + 1) W h r := rfl
theorem St.load_pc {n : Nat} {W : World} {x : List Int} {hx : x.length = 32} {pc mode s0 s1 s2 s3 s4 s5 s6 s7 s8 s9 s10 s11 s12 s13 s14 s15 : Int} {held : Bool} {rat : Int} {r : Array Value} : (Instr.loadAt 22 (.pointer (some ⟨W.heap.size, 32, none⟩))).run Try.prog (St n W (⟨x, hx, pc, mode, ⟨s0, s1, s2, s3, s4, s5, s6, s7, s8, s9, s10, s11, s12, s13, s14, s15⟩, held, rat⟩ : Hart) r) = .ok (.int .u64 pc) (St n W (⟨x, hx, pc, mode, ⟨s0, s1, s2, s3, s4, s5, s6, s7, s8, s9, s10, s11, s12, s13, s14, s15⟩, held, rat⟩ : Hart) r) := (St.box n W _ r).load_pc
theorem St.store_pc {n : Nat} {W : World} {x : List Int} {hx : x.length = 32} {pc mode s0 s1 s2 s3 s4 s5 s6 s7 s8 s9 s10 s11 s12 s13 s14 s15 : Int} {held : Bool} {rat : Int} {r : Array Value} {v : Int} : (Instr.storeAt 22 (.pointer (some ⟨W.heap.size, 32, none⟩)) (.int .u64 v)).run Try.prog (St n W (⟨x, hx, pc, mode, ⟨s0, s1, s2, s3, s4, s5, s6, s7, s8, s9, s10, s11, s12, s13, s14, s15⟩, held, rat⟩ : Hart) r) = .ok () (St n W (⟨x, hx, v, mode, ⟨s0, s1, s2, s3, s4, s5, s6, s7, s8, s9, s10, s11, s12, s13, s14, s15⟩, held, rat⟩ : Hart) r) := St.store_at (⟨x, hx, v, mode, ⟨s0, s1, s2, s3, s4, s5, s6, s7, s8, s9, s10, s11, s12, s13, s14, s15⟩, held, rat⟩ : Hart) 0 rfl (by omega) size22 rfl rfl rfl rfl
theorem St.load_mode {n : Nat} {W : World} {x : List Int} {hx : x.length = 32} {pc mode s0 s1 s2 s3 s4 s5 s6 s7 s8 s9 s10 s11 s12 s13 s14 s15 : Int} {held : Bool} {rat : Int} {r : Array Value} : (Instr.loadAt 3 (.pointer (some ⟨W.heap.size, 33, none⟩))).run Try.prog (St n W (⟨x, hx, pc, mode, ⟨s0, s1, s2, s3, s4, s5, s6, s7, s8, s9, s10, s11, s12, s13, s14, s15⟩, held, rat⟩ : Hart) r) = .ok (.int .i64 mode) (St n W (⟨x, hx, pc, mode, ⟨s0, s1, s2, s3, s4, s5, s6, s7, s8, s9, s10, s11, s12, s13, s14, s15⟩, held, rat⟩ : Hart) r) := (St.box n W _ r).load_mode
theorem St.store_mode {n : Nat} {W : World} {x : List Int} {hx : x.length = 32} {pc mode s0 s1 s2 s3 s4 s5 s6 s7 s8 s9 s10 s11 s12 s13 s14 s15 : Int} {held : Bool} {rat : Int} {r : Array Value} {v : Int} : (Instr.storeAt 3 (.pointer (some ⟨W.heap.size, 33, none⟩)) (.int .i64 v)).run Try.prog (St n W (⟨x, hx, pc, mode, ⟨s0, s1, s2, s3, s4, s5, s6, s7, s8, s9, s10, s11, s12, s13, s14, s15⟩, held, rat⟩ : Hart) r) = .ok () (St n W (⟨x, hx, pc, v, ⟨s0, s1, s2, s3, s4, s5, s6, s7, s8, s9, s10, s11, s12, s13, s14, s15⟩, held, rat⟩ : Hart) r) := St.store_at (⟨x, hx, pc, v, ⟨s0, s1, s2, s3, s4, s5, s6, s7, s8, s9, s10, s11, s12, s13, s14, s15⟩, held, rat⟩ : Hart) 1 rfl (by omega) size3 rfl rfl rfl rfl
theorem St.load_s0 {n : Nat} {W : World} {x : List Int} {hx : x.length = 32} {pc mode s0 s1 s2 s3 s4 s5 s6 s7 s8 s9 s10 s11 s12 s13 s14 s15 : Int} {held : Bool} {rat : Int} {r : Array Value} : (Instr.loadAt 22 (.pointer (some ⟨W.heap.size, 34, none⟩))).run Try.prog (St n W (⟨x, hx, pc, mode, ⟨s0, s1, s2, s3, s4, s5, s6, s7, s8, s9, s10, s11, s12, s13, s14, s15⟩, held, rat⟩ : Hart) r) = .ok (.int .u64 s0) (St n W (⟨x, hx, pc, mode, ⟨s0, s1, s2, s3, s4, s5, s6, s7, s8, s9, s10, s11, s12, s13, s14, s15⟩, held, rat⟩ : Hart) r) := (St.box n W _ r).load_c_s0
theorem St.store_s0 {n : Nat} {W : World} {x : List Int} {hx : x.length = 32} {pc mode s0 s1 s2 s3 s4 s5 s6 s7 s8 s9 s10 s11 s12 s13 s14 s15 : Int} {held : Bool} {rat : Int} {r : Array Value} {v : Int} : (Instr.storeAt 22 (.pointer (some ⟨W.heap.size, 34, none⟩)) (.int .u64 v)).run Try.prog (St n W (⟨x, hx, pc, mode, ⟨s0, s1, s2, s3, s4, s5, s6, s7, s8, s9, s10, s11, s12, s13, s14, s15⟩, held, rat⟩ : Hart) r) = .ok () (St n W (⟨x, hx, pc, mode, ⟨v, s1, s2, s3, s4, s5, s6, s7, s8, s9, s10, s11, s12, s13, s14, s15⟩, held, rat⟩ : Hart) r) := St.store_at (⟨x, hx, pc, mode, ⟨v, s1, s2, s3, s4, s5, s6, s7, s8, s9, s10, s11, s12, s13, s14, s15⟩, held, rat⟩ : Hart) 2 rfl (by omega) size22 rfl rfl rfl rfl
theorem St.load_s1 {n : Nat} {W : World} {x : List Int} {hx : x.length = 32} {pc mode s0 s1 s2 s3 s4 s5 s6 s7 s8 s9 s10 s11 s12 s13 s14 s15 : Int} {held : Bool} {rat : Int} {r : Array Value} : (Instr.loadAt 22 (.pointer (some ⟨W.heap.size, 35, none⟩))).run Try.prog (St n W (⟨x, hx, pc, mode, ⟨s0, s1, s2, s3, s4, s5, s6, s7, s8, s9, s10, s11, s12, s13, s14, s15⟩, held, rat⟩ : Hart) r) = .ok (.int .u64 s1) (St n W (⟨x, hx, pc, mode, ⟨s0, s1, s2, s3, s4, s5, s6, s7, s8, s9, s10, s11, s12, s13, s14, s15⟩, held, rat⟩ : Hart) r) := (St.box n W _ r).load_c_s1
theorem St.store_s1 {n : Nat} {W : World} {x : List Int} {hx : x.length = 32} {pc mode s0 s1 s2 s3 s4 s5 s6 s7 s8 s9 s10 s11 s12 s13 s14 s15 : Int} {held : Bool} {rat : Int} {r : Array Value} {v : Int} : (Instr.storeAt 22 (.pointer (some ⟨W.heap.size, 35, none⟩)) (.int .u64 v)).run Try.prog (St n W (⟨x, hx, pc, mode, ⟨s0, s1, s2, s3, s4, s5, s6, s7, s8, s9, s10, s11, s12, s13, s14, s15⟩, held, rat⟩ : Hart) r) = .ok () (St n W (⟨x, hx, pc, mode, ⟨s0, v, s2, s3, s4, s5, s6, s7, s8, s9, s10, s11, s12, s13, s14, s15⟩, held, rat⟩ : Hart) r) := St.store_at (⟨x, hx, pc, mode, ⟨s0, v, s2, s3, s4, s5, s6, s7, s8, s9, s10, s11, s12, s13, s14, s15⟩, held, rat⟩ : Hart) 3 rfl (by omega) size22 rfl rfl rfl rfl
theorem St.load_s2 {n : Nat} {W : World} {x : List Int} {hx : x.length = 32} {pc mode s0 s1 s2 s3 s4 s5 s6 s7 s8 s9 s10 s11 s12 s13 s14 s15 : Int} {held : Bool} {rat : Int} {r : Array Value} : (Instr.loadAt 22 (.pointer (some ⟨W.heap.size, 36, none⟩))).run Try.prog (St n W (⟨x, hx, pc, mode, ⟨s0, s1, s2, s3, s4, s5, s6, s7, s8, s9, s10, s11, s12, s13, s14, s15⟩, held, rat⟩ : Hart) r) = .ok (.int .u64 s2) (St n W (⟨x, hx, pc, mode, ⟨s0, s1, s2, s3, s4, s5, s6, s7, s8, s9, s10, s11, s12, s13, s14, s15⟩, held, rat⟩ : Hart) r) := (St.box n W _ r).load_c_s2
theorem St.store_s2 {n : Nat} {W : World} {x : List Int} {hx : x.length = 32} {pc mode s0 s1 s2 s3 s4 s5 s6 s7 s8 s9 s10 s11 s12 s13 s14 s15 : Int} {held : Bool} {rat : Int} {r : Array Value} {v : Int} : (Instr.storeAt 22 (.pointer (some ⟨W.heap.size, 36, none⟩)) (.int .u64 v)).run Try.prog (St n W (⟨x, hx, pc, mode, ⟨s0, s1, s2, s3, s4, s5, s6, s7, s8, s9, s10, s11, s12, s13, s14, s15⟩, held, rat⟩ : Hart) r) = .ok () (St n W (⟨x, hx, pc, mode, ⟨s0, s1, v, s3, s4, s5, s6, s7, s8, s9, s10, s11, s12, s13, s14, s15⟩, held, rat⟩ : Hart) r) := St.store_at (⟨x, hx, pc, mode, ⟨s0, s1, v, s3, s4, s5, s6, s7, s8, s9, s10, s11, s12, s13, s14, s15⟩, held, rat⟩ : Hart) 4 rfl (by omega) size22 rfl rfl rfl rfl
theorem St.load_s3 {n : Nat} {W : World} {x : List Int} {hx : x.length = 32} {pc mode s0 s1 s2 s3 s4 s5 s6 s7 s8 s9 s10 s11 s12 s13 s14 s15 : Int} {held : Bool} {rat : Int} {r : Array Value} : (Instr.loadAt 22 (.pointer (some ⟨W.heap.size, 37, none⟩))).run Try.prog (St n W (⟨x, hx, pc, mode, ⟨s0, s1, s2, s3, s4, s5, s6, s7, s8, s9, s10, s11, s12, s13, s14, s15⟩, held, rat⟩ : Hart) r) = .ok (.int .u64 s3) (St n W (⟨x, hx, pc, mode, ⟨s0, s1, s2, s3, s4, s5, s6, s7, s8, s9, s10, s11, s12, s13, s14, s15⟩, held, rat⟩ : Hart) r) := (St.box n W _ r).load_c_s3
theorem St.store_s3 {n : Nat} {W : World} {x : List Int} {hx : x.length = 32} {pc mode s0 s1 s2 s3 s4 s5 s6 s7 s8 s9 s10 s11 s12 s13 s14 s15 : Int} {held : Bool} {rat : Int} {r : Array Value} {v : Int} : (Instr.storeAt 22 (.pointer (some ⟨W.heap.size, 37, none⟩)) (.int .u64 v)).run Try.prog (St n W (⟨x, hx, pc, mode, ⟨s0, s1, s2, s3, s4, s5, s6, s7, s8, s9, s10, s11, s12, s13, s14, s15⟩, held, rat⟩ : Hart) r) = .ok () (St n W (⟨x, hx, pc, mode, ⟨s0, s1, s2, v, s4, s5, s6, s7, s8, s9, s10, s11, s12, s13, s14, s15⟩, held, rat⟩ : Hart) r) := St.store_at (⟨x, hx, pc, mode, ⟨s0, s1, s2, v, s4, s5, s6, s7, s8, s9, s10, s11, s12, s13, s14, s15⟩, held, rat⟩ : Hart) 5 rfl (by omega) size22 rfl rfl rfl rfl
theorem St.load_s4 {n : Nat} {W : World} {x : List Int} {hx : x.length = 32} {pc mode s0 s1 s2 s3 s4 s5 s6 s7 s8 s9 s10 s11 s12 s13 s14 s15 : Int} {held : Bool} {rat : Int} {r : Array Value} : (Instr.loadAt 22 (.pointer (some ⟨W.heap.size, 38, none⟩))).run Try.prog (St n W (⟨x, hx, pc, mode, ⟨s0, s1, s2, s3, s4, s5, s6, s7, s8, s9, s10, s11, s12, s13, s14, s15⟩, held, rat⟩ : Hart) r) = .ok (.int .u64 s4) (St n W (⟨x, hx, pc, mode, ⟨s0, s1, s2, s3, s4, s5, s6, s7, s8, s9, s10, s11, s12, s13, s14, s15⟩, held, rat⟩ : Hart) r) := (St.box n W _ r).load_c_s4
theorem St.store_s4 {n : Nat} {W : World} {x : List Int} {hx : x.length = 32} {pc mode s0 s1 s2 s3 s4 s5 s6 s7 s8 s9 s10 s11 s12 s13 s14 s15 : Int} {held : Bool} {rat : Int} {r : Array Value} {v : Int} : (Instr.storeAt 22 (.pointer (some ⟨W.heap.size, 38, none⟩)) (.int .u64 v)).run Try.prog (St n W (⟨x, hx, pc, mode, ⟨s0, s1, s2, s3, s4, s5, s6, s7, s8, s9, s10, s11, s12, s13, s14, s15⟩, held, rat⟩ : Hart) r) = .ok () (St n W (⟨x, hx, pc, mode, ⟨s0, s1, s2, s3, v, s5, s6, s7, s8, s9, s10, s11, s12, s13, s14, s15⟩, held, rat⟩ : Hart) r) := St.store_at (⟨x, hx, pc, mode, ⟨s0, s1, s2, s3, v, s5, s6, s7, s8, s9, s10, s11, s12, s13, s14, s15⟩, held, rat⟩ : Hart) 6 rfl (by omega) size22 rfl rfl rfl rfl
theorem St.load_s5 {n : Nat} {W : World} {x : List Int} {hx : x.length = 32} {pc mode s0 s1 s2 s3 s4 s5 s6 s7 s8 s9 s10 s11 s12 s13 s14 s15 : Int} {held : Bool} {rat : Int} {r : Array Value} : (Instr.loadAt 22 (.pointer (some ⟨W.heap.size, 39, none⟩))).run Try.prog (St n W (⟨x, hx, pc, mode, ⟨s0, s1, s2, s3, s4, s5, s6, s7, s8, s9, s10, s11, s12, s13, s14, s15⟩, held, rat⟩ : Hart) r) = .ok (.int .u64 s5) (St n W (⟨x, hx, pc, mode, ⟨s0, s1, s2, s3, s4, s5, s6, s7, s8, s9, s10, s11, s12, s13, s14, s15⟩, held, rat⟩ : Hart) r) := (St.box n W _ r).load_c_s5
theorem St.store_s5 {n : Nat} {W : World} {x : List Int} {hx : x.length = 32} {pc mode s0 s1 s2 s3 s4 s5 s6 s7 s8 s9 s10 s11 s12 s13 s14 s15 : Int} {held : Bool} {rat : Int} {r : Array Value} {v : Int} : (Instr.storeAt 22 (.pointer (some ⟨W.heap.size, 39, none⟩)) (.int .u64 v)).run Try.prog (St n W (⟨x, hx, pc, mode, ⟨s0, s1, s2, s3, s4, s5, s6, s7, s8, s9, s10, s11, s12, s13, s14, s15⟩, held, rat⟩ : Hart) r) = .ok () (St n W (⟨x, hx, pc, mode, ⟨s0, s1, s2, s3, s4, v, s6, s7, s8, s9, s10, s11, s12, s13, s14, s15⟩, held, rat⟩ : Hart) r) := St.store_at (⟨x, hx, pc, mode, ⟨s0, s1, s2, s3, s4, v, s6, s7, s8, s9, s10, s11, s12, s13, s14, s15⟩, held, rat⟩ : Hart) 7 rfl (by omega) size22 rfl rfl rfl rfl
theorem St.load_s6 {n : Nat} {W : World} {x : List Int} {hx : x.length = 32} {pc mode s0 s1 s2 s3 s4 s5 s6 s7 s8 s9 s10 s11 s12 s13 s14 s15 : Int} {held : Bool} {rat : Int} {r : Array Value} : (Instr.loadAt 22 (.pointer (some ⟨W.heap.size, 40, none⟩))).run Try.prog (St n W (⟨x, hx, pc, mode, ⟨s0, s1, s2, s3, s4, s5, s6, s7, s8, s9, s10, s11, s12, s13, s14, s15⟩, held, rat⟩ : Hart) r) = .ok (.int .u64 s6) (St n W (⟨x, hx, pc, mode, ⟨s0, s1, s2, s3, s4, s5, s6, s7, s8, s9, s10, s11, s12, s13, s14, s15⟩, held, rat⟩ : Hart) r) := (St.box n W _ r).load_c_s6
theorem St.store_s6 {n : Nat} {W : World} {x : List Int} {hx : x.length = 32} {pc mode s0 s1 s2 s3 s4 s5 s6 s7 s8 s9 s10 s11 s12 s13 s14 s15 : Int} {held : Bool} {rat : Int} {r : Array Value} {v : Int} : (Instr.storeAt 22 (.pointer (some ⟨W.heap.size, 40, none⟩)) (.int .u64 v)).run Try.prog (St n W (⟨x, hx, pc, mode, ⟨s0, s1, s2, s3, s4, s5, s6, s7, s8, s9, s10, s11, s12, s13, s14, s15⟩, held, rat⟩ : Hart) r) = .ok () (St n W (⟨x, hx, pc, mode, ⟨s0, s1, s2, s3, s4, s5, v, s7, s8, s9, s10, s11, s12, s13, s14, s15⟩, held, rat⟩ : Hart) r) := St.store_at (⟨x, hx, pc, mode, ⟨s0, s1, s2, s3, s4, s5, v, s7, s8, s9, s10, s11, s12, s13, s14, s15⟩, held, rat⟩ : Hart) 8 rfl (by omega) size22 rfl rfl rfl rfl
theorem St.load_s7 {n : Nat} {W : World} {x : List Int} {hx : x.length = 32} {pc mode s0 s1 s2 s3 s4 s5 s6 s7 s8 s9 s10 s11 s12 s13 s14 s15 : Int} {held : Bool} {rat : Int} {r : Array Value} : (Instr.loadAt 22 (.pointer (some ⟨W.heap.size, 41, none⟩))).run Try.prog (St n W (⟨x, hx, pc, mode, ⟨s0, s1, s2, s3, s4, s5, s6, s7, s8, s9, s10, s11, s12, s13, s14, s15⟩, held, rat⟩ : Hart) r) = .ok (.int .u64 s7) (St n W (⟨x, hx, pc, mode, ⟨s0, s1, s2, s3, s4, s5, s6, s7, s8, s9, s10, s11, s12, s13, s14, s15⟩, held, rat⟩ : Hart) r) := (St.box n W _ r).load_c_s7
theorem St.store_s7 {n : Nat} {W : World} {x : List Int} {hx : x.length = 32} {pc mode s0 s1 s2 s3 s4 s5 s6 s7 s8 s9 s10 s11 s12 s13 s14 s15 : Int} {held : Bool} {rat : Int} {r : Array Value} {v : Int} : (Instr.storeAt 22 (.pointer (some ⟨W.heap.size, 41, none⟩)) (.int .u64 v)).run Try.prog (St n W (⟨x, hx, pc, mode, ⟨s0, s1, s2, s3, s4, s5, s6, s7, s8, s9, s10, s11, s12, s13, s14, s15⟩, held, rat⟩ : Hart) r) = .ok () (St n W (⟨x, hx, pc, mode, ⟨s0, s1, s2, s3, s4, s5, s6, v, s8, s9, s10, s11, s12, s13, s14, s15⟩, held, rat⟩ : Hart) r) := St.store_at (⟨x, hx, pc, mode, ⟨s0, s1, s2, s3, s4, s5, s6, v, s8, s9, s10, s11, s12, s13, s14, s15⟩, held, rat⟩ : Hart) 9 rfl (by omega) size22 rfl rfl rfl rfl
theorem St.load_s8 {n : Nat} {W : World} {x : List Int} {hx : x.length = 32} {pc mode s0 s1 s2 s3 s4 s5 s6 s7 s8 s9 s10 s11 s12 s13 s14 s15 : Int} {held : Bool} {rat : Int} {r : Array Value} : (Instr.loadAt 22 (.pointer (some ⟨W.heap.size, 42, none⟩))).run Try.prog (St n W (⟨x, hx, pc, mode, ⟨s0, s1, s2, s3, s4, s5, s6, s7, s8, s9, s10, s11, s12, s13, s14, s15⟩, held, rat⟩ : Hart) r) = .ok (.int .u64 s8) (St n W (⟨x, hx, pc, mode, ⟨s0, s1, s2, s3, s4, s5, s6, s7, s8, s9, s10, s11, s12, s13, s14, s15⟩, held, rat⟩ : Hart) r) := (St.box n W _ r).load_c_s8
theorem St.store_s8 {n : Nat} {W : World} {x : List Int} {hx : x.length = 32} {pc mode s0 s1 s2 s3 s4 s5 s6 s7 s8 s9 s10 s11 s12 s13 s14 s15 : Int} {held : Bool} {rat : Int} {r : Array Value} {v : Int} : (Instr.storeAt 22 (.pointer (some ⟨W.heap.size, 42, none⟩)) (.int .u64 v)).run Try.prog (St n W (⟨x, hx, pc, mode, ⟨s0, s1, s2, s3, s4, s5, s6, s7, s8, s9, s10, s11, s12, s13, s14, s15⟩, held, rat⟩ : Hart) r) = .ok () (St n W (⟨x, hx, pc, mode, ⟨s0, s1, s2, s3, s4, s5, s6, s7, v, s9, s10, s11, s12, s13, s14, s15⟩, held, rat⟩ : Hart) r) := St.store_at (⟨x, hx, pc, mode, ⟨s0, s1, s2, s3, s4, s5, s6, s7, v, s9, s10, s11, s12, s13, s14, s15⟩, held, rat⟩ : Hart) 10 rfl (by omega) size22 rfl rfl rfl rfl
theorem St.load_s9 {n : Nat} {W : World} {x : List Int} {hx : x.length = 32} {pc mode s0 s1 s2 s3 s4 s5 s6 s7 s8 s9 s10 s11 s12 s13 s14 s15 : Int} {held : Bool} {rat : Int} {r : Array Value} : (Instr.loadAt 22 (.pointer (some ⟨W.heap.size, 43, none⟩))).run Try.prog (St n W (⟨x, hx, pc, mode, ⟨s0, s1, s2, s3, s4, s5, s6, s7, s8, s9, s10, s11, s12, s13, s14, s15⟩, held, rat⟩ : Hart) r) = .ok (.int .u64 s9) (St n W (⟨x, hx, pc, mode, ⟨s0, s1, s2, s3, s4, s5, s6, s7, s8, s9, s10, s11, s12, s13, s14, s15⟩, held, rat⟩ : Hart) r) := (St.box n W _ r).load_c_s9
theorem St.store_s9 {n : Nat} {W : World} {x : List Int} {hx : x.length = 32} {pc mode s0 s1 s2 s3 s4 s5 s6 s7 s8 s9 s10 s11 s12 s13 s14 s15 : Int} {held : Bool} {rat : Int} {r : Array Value} {v : Int} : (Instr.storeAt 22 (.pointer (some ⟨W.heap.size, 43, none⟩)) (.int .u64 v)).run Try.prog (St n W (⟨x, hx, pc, mode, ⟨s0, s1, s2, s3, s4, s5, s6, s7, s8, s9, s10, s11, s12, s13, s14, s15⟩, held, rat⟩ : Hart) r) = .ok () (St n W (⟨x, hx, pc, mode, ⟨s0, s1, s2, s3, s4, s5, s6, s7, s8, v, s10, s11, s12, s13, s14, s15⟩, held, rat⟩ : Hart) r) := St.store_at (⟨x, hx, pc, mode, ⟨s0, s1, s2, s3, s4, s5, s6, s7, s8, v, s10, s11, s12, s13, s14, s15⟩, held, rat⟩ : Hart) 11 rfl (by omega) size22 rfl rfl rfl rfl
theorem St.load_s10 {n : Nat} {W : World} {x : List Int} {hx : x.length = 32} {pc mode s0 s1 s2 s3 s4 s5 s6 s7 s8 s9 s10 s11 s12 s13 s14 s15 : Int} {held : Bool} {rat : Int} {r : Array Value} : (Instr.loadAt 22 (.pointer (some ⟨W.heap.size, 44, none⟩))).run Try.prog (St n W (⟨x, hx, pc, mode, ⟨s0, s1, s2, s3, s4, s5, s6, s7, s8, s9, s10, s11, s12, s13, s14, s15⟩, held, rat⟩ : Hart) r) = .ok (.int .u64 s10) (St n W (⟨x, hx, pc, mode, ⟨s0, s1, s2, s3, s4, s5, s6, s7, s8, s9, s10, s11, s12, s13, s14, s15⟩, held, rat⟩ : Hart) r) := (St.box n W _ r).load_c_s10
theorem St.store_s10 {n : Nat} {W : World} {x : List Int} {hx : x.length = 32} {pc mode s0 s1 s2 s3 s4 s5 s6 s7 s8 s9 s10 s11 s12 s13 s14 s15 : Int} {held : Bool} {rat : Int} {r : Array Value} {v : Int} : (Instr.storeAt 22 (.pointer (some ⟨W.heap.size, 44, none⟩)) (.int .u64 v)).run Try.prog (St n W (⟨x, hx, pc, mode, ⟨s0, s1, s2, s3, s4, s5, s6, s7, s8, s9, s10, s11, s12, s13, s14, s15⟩, held, rat⟩ : Hart) r) = .ok () (St n W (⟨x, hx, pc, mode, ⟨s0, s1, s2, s3, s4, s5, s6, s7, s8, s9, v, s11, s12, s13, s14, s15⟩, held, rat⟩ : Hart) r) := St.store_at (⟨x, hx, pc, mode, ⟨s0, s1, s2, s3, s4, s5, s6, s7, s8, s9, v, s11, s12, s13, s14, s15⟩, held, rat⟩ : Hart) 12 rfl (by omega) size22 rfl rfl rfl rfl
theorem St.load_s11 {n : Nat} {W : World} {x : List Int} {hx : x.length = 32} {pc mode s0 s1 s2 s3 s4 s5 s6 s7 s8 s9 s10 s11 s12 s13 s14 s15 : Int} {held : Bool} {rat : Int} {r : Array Value} : (Instr.loadAt 22 (.pointer (some ⟨W.heap.size, 45, none⟩))).run Try.prog (St n W (⟨x, hx, pc, mode, ⟨s0, s1, s2, s3, s4, s5, s6, s7, s8, s9, s10, s11, s12, s13, s14, s15⟩, held, rat⟩ : Hart) r) = .ok (.int .u64 s11) (St n W (⟨x, hx, pc, mode, ⟨s0, s1, s2, s3, s4, s5, s6, s7, s8, s9, s10, s11, s12, s13, s14, s15⟩, held, rat⟩ : Hart) r) := (St.box n W _ r).load_c_s11
theorem St.store_s11 {n : Nat} {W : World} {x : List Int} {hx : x.length = 32} {pc mode s0 s1 s2 s3 s4 s5 s6 s7 s8 s9 s10 s11 s12 s13 s14 s15 : Int} {held : Bool} {rat : Int} {r : Array Value} {v : Int} : (Instr.storeAt 22 (.pointer (some ⟨W.heap.size, 45, none⟩)) (.int .u64 v)).run Try.prog (St n W (⟨x, hx, pc, mode, ⟨s0, s1, s2, s3, s4, s5, s6, s7, s8, s9, s10, s11, s12, s13, s14, s15⟩, held, rat⟩ : Hart) r) = .ok () (St n W (⟨x, hx, pc, mode, ⟨s0, s1, s2, s3, s4, s5, s6, s7, s8, s9, s10, v, s12, s13, s14, s15⟩, held, rat⟩ : Hart) r) := St.store_at (⟨x, hx, pc, mode, ⟨s0, s1, s2, s3, s4, s5, s6, s7, s8, s9, s10, v, s12, s13, s14, s15⟩, held, rat⟩ : Hart) 13 rfl (by omega) size22 rfl rfl rfl rfl
theorem St.load_s12 {n : Nat} {W : World} {x : List Int} {hx : x.length = 32} {pc mode s0 s1 s2 s3 s4 s5 s6 s7 s8 s9 s10 s11 s12 s13 s14 s15 : Int} {held : Bool} {rat : Int} {r : Array Value} : (Instr.loadAt 22 (.pointer (some ⟨W.heap.size, 46, none⟩))).run Try.prog (St n W (⟨x, hx, pc, mode, ⟨s0, s1, s2, s3, s4, s5, s6, s7, s8, s9, s10, s11, s12, s13, s14, s15⟩, held, rat⟩ : Hart) r) = .ok (.int .u64 s12) (St n W (⟨x, hx, pc, mode, ⟨s0, s1, s2, s3, s4, s5, s6, s7, s8, s9, s10, s11, s12, s13, s14, s15⟩, held, rat⟩ : Hart) r) := (St.box n W _ r).load_c_s12
theorem St.store_s12 {n : Nat} {W : World} {x : List Int} {hx : x.length = 32} {pc mode s0 s1 s2 s3 s4 s5 s6 s7 s8 s9 s10 s11 s12 s13 s14 s15 : Int} {held : Bool} {rat : Int} {r : Array Value} {v : Int} : (Instr.storeAt 22 (.pointer (some ⟨W.heap.size, 46, none⟩)) (.int .u64 v)).run Try.prog (St n W (⟨x, hx, pc, mode, ⟨s0, s1, s2, s3, s4, s5, s6, s7, s8, s9, s10, s11, s12, s13, s14, s15⟩, held, rat⟩ : Hart) r) = .ok () (St n W (⟨x, hx, pc, mode, ⟨s0, s1, s2, s3, s4, s5, s6, s7, s8, s9, s10, s11, v, s13, s14, s15⟩, held, rat⟩ : Hart) r) := St.store_at (⟨x, hx, pc, mode, ⟨s0, s1, s2, s3, s4, s5, s6, s7, s8, s9, s10, s11, v, s13, s14, s15⟩, held, rat⟩ : Hart) 14 rfl (by omega) size22 rfl rfl rfl rfl
theorem St.load_s13 {n : Nat} {W : World} {x : List Int} {hx : x.length = 32} {pc mode s0 s1 s2 s3 s4 s5 s6 s7 s8 s9 s10 s11 s12 s13 s14 s15 : Int} {held : Bool} {rat : Int} {r : Array Value} : (Instr.loadAt 22 (.pointer (some ⟨W.heap.size, 47, none⟩))).run Try.prog (St n W (⟨x, hx, pc, mode, ⟨s0, s1, s2, s3, s4, s5, s6, s7, s8, s9, s10, s11, s12, s13, s14, s15⟩, held, rat⟩ : Hart) r) = .ok (.int .u64 s13) (St n W (⟨x, hx, pc, mode, ⟨s0, s1, s2, s3, s4, s5, s6, s7, s8, s9, s10, s11, s12, s13, s14, s15⟩, held, rat⟩ : Hart) r) := (St.box n W _ r).load_c_s13
theorem St.store_s13 {n : Nat} {W : World} {x : List Int} {hx : x.length = 32} {pc mode s0 s1 s2 s3 s4 s5 s6 s7 s8 s9 s10 s11 s12 s13 s14 s15 : Int} {held : Bool} {rat : Int} {r : Array Value} {v : Int} : (Instr.storeAt 22 (.pointer (some ⟨W.heap.size, 47, none⟩)) (.int .u64 v)).run Try.prog (St n W (⟨x, hx, pc, mode, ⟨s0, s1, s2, s3, s4, s5, s6, s7, s8, s9, s10, s11, s12, s13, s14, s15⟩, held, rat⟩ : Hart) r) = .ok () (St n W (⟨x, hx, pc, mode, ⟨s0, s1, s2, s3, s4, s5, s6, s7, s8, s9, s10, s11, s12, v, s14, s15⟩, held, rat⟩ : Hart) r) := St.store_at (⟨x, hx, pc, mode, ⟨s0, s1, s2, s3, s4, s5, s6, s7, s8, s9, s10, s11, s12, v, s14, s15⟩, held, rat⟩ : Hart) 15 rfl (by omega) size22 rfl rfl rfl rfl
theorem St.load_s14 {n : Nat} {W : World} {x : List Int} {hx : x.length = 32} {pc mode s0 s1 s2 s3 s4 s5 s6 s7 s8 s9 s10 s11 s12 s13 s14 s15 : Int} {held : Bool} {rat : Int} {r : Array Value} : (Instr.loadAt 22 (.pointer (some ⟨W.heap.size, 48, none⟩))).run Try.prog (St n W (⟨x, hx, pc, mode, ⟨s0, s1, s2, s3, s4, s5, s6, s7, s8, s9, s10, s11, s12, s13, s14, s15⟩, held, rat⟩ : Hart) r) = .ok (.int .u64 s14) (St n W (⟨x, hx, pc, mode, ⟨s0, s1, s2, s3, s4, s5, s6, s7, s8, s9, s10, s11, s12, s13, s14, s15⟩, held, rat⟩ : Hart) r) := (St.box n W _ r).load_c_s14
theorem St.store_s14 {n : Nat} {W : World} {x : List Int} {hx : x.length = 32} {pc mode s0 s1 s2 s3 s4 s5 s6 s7 s8 s9 s10 s11 s12 s13 s14 s15 : Int} {held : Bool} {rat : Int} {r : Array Value} {v : Int} : (Instr.storeAt 22 (.pointer (some ⟨W.heap.size, 48, none⟩)) (.int .u64 v)).run Try.prog (St n W (⟨x, hx, pc, mode, ⟨s0, s1, s2, s3, s4, s5, s6, s7, s8, s9, s10, s11, s12, s13, s14, s15⟩, held, rat⟩ : Hart) r) = .ok () (St n W (⟨x, hx, pc, mode, ⟨s0, s1, s2, s3, s4, s5, s6, s7, s8, s9, s10, s11, s12, s13, v, s15⟩, held, rat⟩ : Hart) r) := St.store_at (⟨x, hx, pc, mode, ⟨s0, s1, s2, s3, s4, s5, s6, s7, s8, s9, s10, s11, s12, s13, v, s15⟩, held, rat⟩ : Hart) 16 rfl (by omega) size22 rfl rfl rfl rfl
theorem St.load_s15 {n : Nat} {W : World} {x : List Int} {hx : x.length = 32} {pc mode s0 s1 s2 s3 s4 s5 s6 s7 s8 s9 s10 s11 s12 s13 s14 s15 : Int} {held : Bool} {rat : Int} {r : Array Value} : (Instr.loadAt 22 (.pointer (some ⟨W.heap.size, 49, none⟩))).run Try.prog (St n W (⟨x, hx, pc, mode, ⟨s0, s1, s2, s3, s4, s5, s6, s7, s8, s9, s10, s11, s12, s13, s14, s15⟩, held, rat⟩ : Hart) r) = .ok (.int .u64 s15) (St n W (⟨x, hx, pc, mode, ⟨s0, s1, s2, s3, s4, s5, s6, s7, s8, s9, s10, s11, s12, s13, s14, s15⟩, held, rat⟩ : Hart) r) := (St.box n W _ r).load_c_s15
theorem St.store_s15 {n : Nat} {W : World} {x : List Int} {hx : x.length = 32} {pc mode s0 s1 s2 s3 s4 s5 s6 s7 s8 s9 s10 s11 s12 s13 s14 s15 : Int} {held : Bool} {rat : Int} {r : Array Value} {v : Int} : (Instr.storeAt 22 (.pointer (some ⟨W.heap.size, 49, none⟩)) (.int .u64 v)).run Try.prog (St n W (⟨x, hx, pc, mode, ⟨s0, s1, s2, s3, s4, s5, s6, s7, s8, s9, s10, s11, s12, s13, s14, s15⟩, held, rat⟩ : Hart) r) = .ok () (St n W (⟨x, hx, pc, mode, ⟨s0, s1, s2, s3, s4, s5, s6, s7, s8, s9, s10, s11, s12, s13, s14, v⟩, held, rat⟩ : Hart) r) := St.store_at (⟨x, hx, pc, mode, ⟨s0, s1, s2, s3, s4, s5, s6, s7, s8, s9, s10, s11, s12, s13, s14, v⟩, held, rat⟩ : Hart) 17 rfl (by omega) size22 rfl rfl rfl rfl
theorem St.load_held {n : Nat} {W : World} {x : List Int} {hx : x.length = 32} {pc mode s0 s1 s2 s3 s4 s5 s6 s7 s8 s9 s10 s11 s12 s13 s14 s15 : Int} {held : Bool} {rat : Int} {r : Array Value} : (Instr.loadAt 4 (.pointer (some ⟨W.heap.size, 50, none⟩))).run Try.prog (St n W (⟨x, hx, pc, mode, ⟨s0, s1, s2, s3, s4, s5, s6, s7, s8, s9, s10, s11, s12, s13, s14, s15⟩, held, rat⟩ : Hart) r) = .ok (.bool held) (St n W (⟨x, hx, pc, mode, ⟨s0, s1, s2, s3, s4, s5, s6, s7, s8, s9, s10, s11, s12, s13, s14, s15⟩, held, rat⟩ : Hart) r) := (St.box n W _ r).load_held
theorem St.store_held {n : Nat} {W : World} {x : List Int} {hx : x.length = 32} {pc mode s0 s1 s2 s3 s4 s5 s6 s7 s8 s9 s10 s11 s12 s13 s14 s15 : Int} {held : Bool} {rat : Int} {r : Array Value} {v : Bool} : (Instr.storeAt 4 (.pointer (some ⟨W.heap.size, 50, none⟩)) (.bool v)).run Try.prog (St n W (⟨x, hx, pc, mode, ⟨s0, s1, s2, s3, s4, s5, s6, s7, s8, s9, s10, s11, s12, s13, s14, s15⟩, held, rat⟩ : Hart) r) = .ok () (St n W (⟨x, hx, pc, mode, ⟨s0, s1, s2, s3, s4, s5, s6, s7, s8, s9, s10, s11, s12, s13, s14, s15⟩, v, rat⟩ : Hart) r) := St.store_at (⟨x, hx, pc, mode, ⟨s0, s1, s2, s3, s4, s5, s6, s7, s8, s9, s10, s11, s12, s13, s14, s15⟩, v, rat⟩ : Hart) 18 rfl (by omega) size4 rfl rfl rfl rfl
theorem St.load_rat {n : Nat} {W : World} {x : List Int} {hx : x.length = 32} {pc mode s0 s1 s2 s3 s4 s5 s6 s7 s8 s9 s10 s11 s12 s13 s14 s15 : Int} {held : Bool} {rat : Int} {r : Array Value} : (Instr.loadAt 22 (.pointer (some ⟨W.heap.size, 51, none⟩))).run Try.prog (St n W (⟨x, hx, pc, mode, ⟨s0, s1, s2, s3, s4, s5, s6, s7, s8, s9, s10, s11, s12, s13, s14, s15⟩, held, rat⟩ : Hart) r) = .ok (.int .u64 rat) (St n W (⟨x, hx, pc, mode, ⟨s0, s1, s2, s3, s4, s5, s6, s7, s8, s9, s10, s11, s12, s13, s14, s15⟩, held, rat⟩ : Hart) r) := (St.box n W _ r).load_rat
theorem St.store_rat {n : Nat} {W : World} {x : List Int} {hx : x.length = 32} {pc mode s0 s1 s2 s3 s4 s5 s6 s7 s8 s9 s10 s11 s12 s13 s14 s15 : Int} {held : Bool} {rat : Int} {r : Array Value} {v : Int} : (Instr.storeAt 22 (.pointer (some ⟨W.heap.size, 51, none⟩)) (.int .u64 v)).run Try.prog (St n W (⟨x, hx, pc, mode, ⟨s0, s1, s2, s3, s4, s5, s6, s7, s8, s9, s10, s11, s12, s13, s14, s15⟩, held, rat⟩ : Hart) r) = .ok () (St n W (⟨x, hx, pc, mode, ⟨s0, s1, s2, s3, s4, s5, s6, s7, s8, s9, s10, s11, s12, s13, s14, s15⟩, held, v⟩ : Hart) r) := St.store_at (⟨x, hx, pc, mode, ⟨s0, s1, s2, s3, s4, s5, s6, s7, s8, s9, s10, s11, s12, s13, s14, s15⟩, held, v⟩ : Hart) 19 rfl (by omega) size22 rfl rfl rfl rfl

end Go.Proofs.Ytbdoiomnoajnpaa
