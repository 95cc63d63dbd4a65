/- The registers as a whole out of and into a block. -/
import Derived.Test.YthchakfffenoiaaA
import Derived.Laws.ResultCell
import Derived.Deep.WholeRow
import Derived.Laws.CopyOwn
namespace Go.Proofs.Ythchakfffenoiaa
open Go.RowKit Go.Deep Go.Joins

end Go.Proofs.Ythchakfffenoiaa
namespace Go
theorem wpList_load_run {P : Program} {w : World} {ops : Array Oper} {rest : List Oper} {o : Oper} {a : Act} {Q : Exit → Act → World → Prop} (hgd : o.guard = none) (t : TypeId) (p : Operand) (ho : o.op = .load t p) (v r : Value) (hp : a.eval p = v)
    (hrun : (Instr.loadAt t v).run P w = .ok r w) (h : wpList P ops Q rest (a.put o.dst r) w) : wpList P ops Q (o :: rest) a w := by
  refine wpList_plain hgd fun K hK => ?_
  unfold Oper.wp
  simp [execOp, ho, hp, hrun, Result.andThen]
  exact hK _ _ h
theorem wpList_store_run {P : Program} {w w' : World} {ops : Array Oper} {rest : List Oper} {o : Oper} {a : Act} {Q : Exit → Act → World → Prop} (hgd : o.guard = none) (t : TypeId) (p x : Operand) (ho : o.op = .store t p x) (v u : Value) (hp : a.eval p = v) (hx : a.eval x = u)
    (hrun : (Instr.storeAt t v u).run P w = .ok () w') (h : wpList P ops Q rest (a.put o.dst undef) w') : wpList P ops Q (o :: rest) a w := by
  refine wpList_plain hgd fun K hK => ?_
  unfold Oper.wp
  simp [execOp, ho, hp, hx, hrun, Result.andThen]
  exact hK _ _ h
end Go
namespace Go.Proofs.Ythchakfffenoiaa
open Go.RowKit Go.Deep Go.Joins
abbrev zeroO : Obj := .cells #[.int .u64 0, .int .u64 0, .int .u64 0, .int .u64 0, .int .u64 0, .int .u64 0, .int .u64 0, .int .u64 0, .int .u64 0, .int .u64 0, .int .u64 0, .int .u64 0, .int .u64 0, .int .u64 0, .int .u64 0, .int .u64 0] 24
abbrev regC (c : Reg) : Array Value := #[.int .u64 c.s0, .int .u64 c.s1, .int .u64 c.s2, .int .u64 c.s3, .int .u64 c.s4, .int .u64 c.s5, .int .u64 c.s6, .int .u64 c.s7, .int .u64 c.s8, .int .u64 c.s9, .int .u64 c.s10, .int .u64 c.s11, .int .u64 c.s12, .int .u64 c.s13, .int .u64 c.s14, .int .u64 c.s15]
theorem size24 : (Try.prog.info? 24).map (·.size) = some 16 := by kernel_rfl
theorem load_at (w : World) (b : Nat) (c : Reg) (h : w.heap[b]? = some (boxO c)) : (Instr.loadAt 24 (.pointer (some ⟨b, 0, none⟩))).run Try.prog w = .ok (regV c) w := by
  simp only [Instr.loadAt, Instr.sureAddr, Sem.run_bind, Sem.run_pure, Result.andThen]
  exact run_loadVar_row w b 24 24 (regC c) (0, 0) _ h Try.underlying24 rfl size24
theorem one_all (c : Reg) : (regC c).all (·.oneCell') = true := by simp [Value.oneCell']
theorem store_at (w : World) (b : Nat) (old : Array Value) (c : Reg) (h : w.heap[b]? = some (.cells old 24 (0, 0))) (ho : old.size = 16) : (Instr.storeAt 24 (.pointer (some ⟨b, 0, none⟩)) (regV c)).run Try.prog w = .ok () (w.setRow b (regC c)) := by
  simp only [Instr.storeAt, Instr.sureAddr, Sem.run_bind, Sem.run_pure, Result.andThen]
  exact run_storeVar_row w b 24 24 old (regC c) h size24 ho (one_all c)
theorem result_at (w : World) (b : Nat) (old : Array Value) (c : Reg) (h : w.heap[b]? = some (.cells old 24 (0, 0))) : (loadVar 24 ⟨b, 0, none⟩).run Try.prog (w.setRow b (regC c)) = .ok (regV c) (w.setRow b (regC c)) :=
  run_loadVar_row _ b 24 24 (regC c) (0, 0) _ (setRow_heap w b old (regC c) 24 (0, 0) h) Try.underlying24 rfl size24
theorem heap2a (W : World) (A B : Obj) : ((W.alloc A).alloc B).heap[W.heap.size]? = some A := (Below.heap_alloc (W.alloc A) B W.heap.size (by simp)).trans (heap_alloc_last W A)
theorem heap2b (W : World) (A B : Obj) : ((W.alloc A).alloc B).heap[W.heap.size + 1]? = some B := by
  have h := heap_alloc_last (W.alloc A) B
  rwa [World.size_alloc] at h
theorem heap3a (W : World) (A B C : Obj) : (((W.alloc A).alloc B).alloc C).heap[W.heap.size]? = some A := (Below.heap_alloc ((W.alloc A).alloc B) C W.heap.size (by simp; omega)).trans (heap2a W A B)
theorem heap3b (W : World) (A B C : Obj) : (((W.alloc A).alloc B).alloc C).heap[W.heap.size + 1]? = some B := (Below.heap_alloc ((W.alloc A).alloc B) C (W.heap.size + 1) (by simp)).trans (heap2b W A B)
theorem below2 (W : World) (A B : Obj) (cs : Array Value) : Below W.heap.size W (((W.alloc A).alloc B).setRow (W.heap.size + 1) cs) :=
  below_setRow (((Below.refl _ _).alloc (Nat.le_refl _) _).alloc (by simp) _) (by omega) cs
theorem below3 (W : World) (A B C : Obj) (cs : Array Value) : Below W.heap.size W ((((W.alloc A).alloc B).alloc C).setRow (W.heap.size + 1) cs) :=
  below_setRow ((((Below.refl _ _).alloc (Nat.le_refl _) _).alloc (by simp) _).alloc (by simp; omega) _) (by omega) cs

end Go.Proofs.Ythchakfffenoiaa
