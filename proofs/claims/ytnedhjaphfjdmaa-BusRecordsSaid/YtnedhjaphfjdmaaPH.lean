/- Own. -/
import Derived.Test.YtnedhjaphfjdmaaPG
import Derived.StillTailTactics
namespace Go.Proofs.Ytnedhjaphfjdmaa.Pc
open Go.RowKit Go.Deep Go.Joins
/-- A function's own state, and its result, whatever else was made since. -/
structure Own (W w : World) (h : Pl) (r : Array Value) : Prop where
  box : Box w W.heap.size h
  res : w.heap[W.heap.size + 1]? = some (.cells r 33 (0, 0))
  below : Below W.heap.size W w
theorem Own.next {W w w' : World} {h : Pl} {r : Array Value} (k : Own W w h r) (j : Below w.heap.size w w') : Own W w' h r :=
  ⟨k.box.next j, (j.block _ (Array.getElem?_eq_some_iff.1 k.res).1).trans k.res, k.below.trans (j.mono k.below.size)⟩
theorem Own.drew {W w : World} {h : Pl} {r : Array Value} (k : Own W w h r) : Own W w.drew h r := k.next (Below.refl _ _).drew
theorem Own.new (W : World) (h : Pl) : Own W ((W.alloc (plO h)).alloc zeroO) h zeroC := ⟨St.box 0 W h zeroC, St.res 0 W h zeroC, St.below 0 W h zeroC⟩
theorem size_row (w : World) (b : Nat) (cs : Array Value) : (w.setRow b cs).heap.size = w.heap.size := by simp [World.setRow]
theorem below_row {B : Nat} {w0 w : World} (k : Below B w0 w) (b : Nat) (hb : B ≤ b) (cs : Array Value) : Below B w0 (w.setRow b cs) :=
  ⟨k.os, k.tape, k.output, by rw [size_row]; exact k.size, fun i hi => (setRow_other w b i cs (by omega)).trans (k.block i hi)⟩
theorem Own.put {W w : World} {h : Pl} {r : Array Value} (k : Own W w h r) (g : Pl) : Own W (w.setRow W.heap.size (plC g)) g r :=
  ⟨Box.mine k.box g, (setRow_other w _ _ _ (by omega)).trans k.res, below_row k.below _ (Nat.le_refl _) _⟩
theorem Own.full {W w : World} {h : Pl} {r : Array Value} (k : Own W w h r) (r' : Array Value) : Own W (w.setRow (W.heap.size + 1) r') h r' :=
  ⟨k.box.over (by omega) _, setRow_heap w _ r r' 33 (0, 0) k.res, below_row k.below _ (by omega) _⟩
theorem Own.load {W w : World} {h : Pl} {r : Array Value} (k : Own W w h r) : (Instr.loadAt 33 (.pointer (some ⟨W.heap.size, 0, none⟩))).run Try.prog w = .ok (plV h) w := k.box.load
theorem Own.tell {W w : World} {h : Pl} {r : Array Value} (k : Own W w h r) (hr : r.size = 9) (g : Pl) : ∃ w', (Instr.storeAt 33 (.pointer (some ⟨W.heap.size + 1, 0, none⟩)) (plV g)).run Try.prog w = .ok () w' ∧ Own W w' h (plC g) :=
  ⟨_, store_box _ _ _ _ k.res hr, k.full _⟩
theorem Own.zero {W w : World} {h : Pl} {r : Array Value} (k : Own W w h r) (hr : r.size = 9) : ∃ w', (Instr.storeAt 33 (.pointer (some ⟨W.heap.size + 1, 0, none⟩)) (.agg zeroC)).run Try.prog w = .ok () w' ∧ Own W w' h (plC zeroP) := k.tell hr zeroP
theorem Own.result {W w : World} {h g : Pl} (k : Own W w h (plC g)) : Box w (W.heap.size + 1) g := k.res
theorem Own.store_at {W w : World} {h : Pl} {r : Array Value} (k : Own W w h r) (g : Pl) (i : Nat) {v : Value} (hi : i < 9) (h1 : v.oneCell' = true) (hc : v.cells = #[v]) (ht : plL g = (plL h).set i v) : ∃ w', (Instr.storeAt 29 (.pointer (some ⟨W.heap.size, i, none⟩)) v).run Try.prog w = .ok () w' ∧ Own W w' g r :=
  ⟨_, run_store_cell _ _ i 29 33 _ _ k.box size29 (by rw [plC_size]; omega) h1 hc, by rw [plC_set h g i v ht]; exact k.put g⟩
theorem Own.load_p0 {W w : World} {h : Pl} {r : Array Value} (k : Own W w h r) : (Instr.loadAt 29 (.pointer (some ⟨W.heap.size, 0, none⟩))).run Try.prog w = .ok (.int .u32 h.p0) w := k.box.load_p0
theorem Own.store_p0 {W w : World} {h : Pl} {r : Array Value} (k : Own W w h r) (v : Int) : ∃ w', (Instr.storeAt 29 (.pointer (some ⟨W.heap.size, 0, none⟩)) (.int .u32 v)).run Try.prog w = .ok () w' ∧ Own W w' { h with p0 := v } r := k.store_at _ 0 (by omega) rfl rfl rfl
theorem Own.load_p1 {W w : World} {h : Pl} {r : Array Value} (k : Own W w h r) : (Instr.loadAt 29 (.pointer (some ⟨W.heap.size, 1, none⟩))).run Try.prog w = .ok (.int .u32 h.p1) w := k.box.load_p1
theorem Own.store_p1 {W w : World} {h : Pl} {r : Array Value} (k : Own W w h r) (v : Int) : ∃ w', (Instr.storeAt 29 (.pointer (some ⟨W.heap.size, 1, none⟩)) (.int .u32 v)).run Try.prog w = .ok () w' ∧ Own W w' { h with p1 := v } r := k.store_at _ 1 (by omega) rfl rfl rfl
theorem Own.load_p2 {W w : World} {h : Pl} {r : Array Value} (k : Own W w h r) : (Instr.loadAt 29 (.pointer (some ⟨W.heap.size, 2, none⟩))).run Try.prog w = .ok (.int .u32 h.p2) w := k.box.load_p2
theorem Own.store_p2 {W w : World} {h : Pl} {r : Array Value} (k : Own W w h r) (v : Int) : ∃ w', (Instr.storeAt 29 (.pointer (some ⟨W.heap.size, 2, none⟩)) (.int .u32 v)).run Try.prog w = .ok () w' ∧ Own W w' { h with p2 := v } r := k.store_at _ 2 (by omega) rfl rfl rfl
theorem Own.load_p3 {W w : World} {h : Pl} {r : Array Value} (k : Own W w h r) : (Instr.loadAt 29 (.pointer (some ⟨W.heap.size, 3, none⟩))).run Try.prog w = .ok (.int .u32 h.p3) w := k.box.load_p3
theorem Own.store_p3 {W w : World} {h : Pl} {r : Array Value} (k : Own W w h r) (v : Int) : ∃ w', (Instr.storeAt 29 (.pointer (some ⟨W.heap.size, 3, none⟩)) (.int .u32 v)).run Try.prog w = .ok () w' ∧ Own W w' { h with p3 := v } r := k.store_at _ 3 (by omega) rfl rfl rfl
theorem Own.load_e0 {W w : World} {h : Pl} {r : Array Value} (k : Own W w h r) : (Instr.loadAt 29 (.pointer (some ⟨W.heap.size, 4, none⟩))).run Try.prog w = .ok (.int .u32 h.e0) w := k.box.load_e0
theorem Own.store_e0 {W w : World} {h : Pl} {r : Array Value} (k : Own W w h r) (v : Int) : ∃ w', (Instr.storeAt 29 (.pointer (some ⟨W.heap.size, 4, none⟩)) (.int .u32 v)).run Try.prog w = .ok () w' ∧ Own W w' { h with e0 := v } r := k.store_at _ 4 (by omega) rfl rfl rfl
theorem Own.load_e1 {W w : World} {h : Pl} {r : Array Value} (k : Own W w h r) : (Instr.loadAt 29 (.pointer (some ⟨W.heap.size, 5, none⟩))).run Try.prog w = .ok (.int .u32 h.e1) w := k.box.load_e1
theorem Own.store_e1 {W w : World} {h : Pl} {r : Array Value} (k : Own W w h r) (v : Int) : ∃ w', (Instr.storeAt 29 (.pointer (some ⟨W.heap.size, 5, none⟩)) (.int .u32 v)).run Try.prog w = .ok () w' ∧ Own W w' { h with e1 := v } r := k.store_at _ 5 (by omega) rfl rfl rfl
theorem Own.load_l0 {W w : World} {h : Pl} {r : Array Value} (k : Own W w h r) : (Instr.loadAt 29 (.pointer (some ⟨W.heap.size, 6, none⟩))).run Try.prog w = .ok (.int .u32 h.l0) w := k.box.load_l0
theorem Own.store_l0 {W w : World} {h : Pl} {r : Array Value} (k : Own W w h r) (v : Int) : ∃ w', (Instr.storeAt 29 (.pointer (some ⟨W.heap.size, 6, none⟩)) (.int .u32 v)).run Try.prog w = .ok () w' ∧ Own W w' { h with l0 := v } r := k.store_at _ 6 (by omega) rfl rfl rfl
theorem Own.load_l1 {W w : World} {h : Pl} {r : Array Value} (k : Own W w h r) : (Instr.loadAt 29 (.pointer (some ⟨W.heap.size, 7, none⟩))).run Try.prog w = .ok (.int .u32 h.l1) w := k.box.load_l1
theorem Own.store_l1 {W w : World} {h : Pl} {r : Array Value} (k : Own W w h r) (v : Int) : ∃ w', (Instr.storeAt 29 (.pointer (some ⟨W.heap.size, 7, none⟩)) (.int .u32 v)).run Try.prog w = .ok () w' ∧ Own W w' { h with l1 := v } r := k.store_at _ 7 (by omega) rfl rfl rfl
theorem Own.load_c {W w : World} {h : Pl} {r : Array Value} (k : Own W w h r) : (Instr.loadAt 29 (.pointer (some ⟨W.heap.size, 8, none⟩))).run Try.prog w = .ok (.int .u32 h.c) w := k.box.load_c
theorem Own.store_c {W w : World} {h : Pl} {r : Array Value} (k : Own W w h r) (v : Int) : ∃ w', (Instr.storeAt 29 (.pointer (some ⟨W.heap.size, 8, none⟩)) (.int .u32 v)).run Try.prog w = .ok () w' ∧ Own W w' { h with c := v } r := k.store_at _ 8 (by omega) rfl rfl rfl

end Go.Proofs.Ytnedhjaphfjdmaa.Pc
namespace Go
theorem wpList_store_ex {P : Program} {w : World} {ops : Array Oper} {rest : List Oper} {o : Oper} {a : Act} {Q : Exit → Act → World → Prop} {T : World → Prop} (hgd : o.guard = none) {t : TypeId} {p x : Operand} (ho : o.op = .store t p x) {v u : Value}
    (hrun : ∃ w', (Instr.storeAt t v u).run P w = .ok () w' ∧ T w') (hp : a.eval p = v) (hx : a.eval x = u) (h : ∀ w', T w' → wpList P ops Q rest (a.put o.dst undef) w') : wpList P ops Q (o :: rest) a w := by
  obtain ⟨w', hr, ht⟩ := hrun
  exact wpList_store_by hgd ho hr hp hx (h w' ht)

end Go
namespace Go.Proofs.Ytnedhjaphfjdmaa.Pc
open Go.RowKit Go.Deep Go.Joins
theorem still_load {P : Program} {ops : Array Oper} {w : World} {Q : Act → Prop} {rest : List Oper} {o : Oper} {a : Act} (hgd : o.guard = none) {t : TypeId} {p : Operand} (ho : o.op = .load t p) {v r : Value} (hrun : (Instr.loadAt t v).run P w = .ok r w) (hp : a.eval p = v) (h : wpStill P ops w Q rest (a.put o.dst r)) : wpStill P ops w Q (o :: rest) a := by
  refine wpStill_step fun K hK => ?_
  simp only [Region.wanted, hgd, if_true]
  unfold Oper.still
  rw [exec_load ho hrun hp]
  exact ⟨rfl, hK _ h⟩

end Go.Proofs.Ytnedhjaphfjdmaa.Pc
