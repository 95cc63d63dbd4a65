/- The program is awake. -/
import Derived.Test.YthchakfffenoiaaJ
namespace Go.Proofs.Ythchakfffenoiaa
open Go.RowKit Go.Deep Go.Joins

end Go.Proofs.Ythchakfffenoiaa
namespace Go
theorem wpList_load_want {P : Program} {w : World} {ops : Array Oper} {rest : List Oper} {o : Oper} {a : Act} {Q : Exit → Act → World → Prop} (hgd : Region.wanted o (yielded ops a.tmps) = true) (t : TypeId) (p : Operand) (ho : o.op = .load t p) (v r : Value) (hp : a.eval p = v)
    (hrun : (Instr.loadAt t v).run P w = .ok r w) (h : wpList P ops Q rest (a.put o.dst r) w) : wpList P ops Q (o :: rest) a w := by
  refine wpList_step fun K hK => ?_
  rw [if_pos hgd]
  unfold Oper.wp
  simp [execOp, ho, hp, hrun, Result.andThen]
  exact hK _ _ h
end Go
namespace Go.Proofs.Ythchakfffenoiaa
open Go.RowKit Go.Deep Go.Joins
/-- A block that holds these registers. -/
def Box (w : World) (b : Nat) (c : Reg) : Prop := w.heap[b]? = some (boxO c)
theorem Box.lt {w : World} {b : Nat} {c : Reg} (h : Box w b c) : b < w.heap.size := (Array.getElem?_eq_some_iff.1 h).1
theorem Box.next {w w' : World} {b : Nat} {c : Reg} (h : Box w b c) (k : Below w.heap.size w w') : Box w' b c := (k.block b h.lt).trans h
theorem Box.drew {w : World} {b : Nat} {c : Reg} (h : Box w b c) : Box w.drew b c := h
theorem Box.alloc {w : World} {b : Nat} {c : Reg} (h : Box w b c) (o : Obj) : Box (w.alloc o) b c := h.next ((Below.refl _ _).alloc (Nat.le_refl _) o)
theorem Box.new (w : World) (c : Reg) : Box (w.alloc (boxO c)) w.heap.size c := heap_alloc_last w _
theorem Box.load {w : World} {b : Nat} {c : Reg} (h : Box w b c) : (Instr.loadAt 24 (.pointer (some ⟨b, 0, none⟩))).run Try.prog w = .ok (regV c) w := load_at w b c h
theorem store_new (w : World) (c : Reg) : (Instr.storeAt 24 (.pointer (some ⟨w.heap.size, 0, none⟩)) (regV c)).run Try.prog (w.alloc zeroO) = .ok () (w.alloc (boxO c)) :=
  run_storeAt_new w 24 _ (regC c) size24 rfl (one_all c)
/-- The cells alone. -/
theorem Box.all {w : World} {b : Nat} {c : Reg} (h : Box w b c) : w.cell? ⟨b, 0, none⟩ = some (.int .u64 c.s0) ∧ w.cell? ⟨b, 1, none⟩ = some (.int .u64 c.s1) ∧ w.cell? ⟨b, 2, none⟩ = some (.int .u64 c.s2) ∧ w.cell? ⟨b, 3, none⟩ = some (.int .u64 c.s3) ∧ w.cell? ⟨b, 4, none⟩ = some (.int .u64 c.s4) ∧ w.cell? ⟨b, 5, none⟩ = some (.int .u64 c.s5) ∧ w.cell? ⟨b, 6, none⟩ = some (.int .u64 c.s6) ∧ w.cell? ⟨b, 7, none⟩ = some (.int .u64 c.s7) ∧ w.cell? ⟨b, 8, none⟩ = some (.int .u64 c.s8) ∧ w.cell? ⟨b, 9, none⟩ = some (.int .u64 c.s9) ∧ w.cell? ⟨b, 10, none⟩ = some (.int .u64 c.s10) ∧ w.cell? ⟨b, 11, none⟩ = some (.int .u64 c.s11) ∧ w.cell? ⟨b, 12, none⟩ = some (.int .u64 c.s12) ∧ w.cell? ⟨b, 13, none⟩ = some (.int .u64 c.s13) ∧ w.cell? ⟨b, 14, none⟩ = some (.int .u64 c.s14) ∧ w.cell? ⟨b, 15, none⟩ = some (.int .u64 c.s15) := by
  refine ⟨?_, ?_, ?_, ?_, ?_, ?_, ?_, ?_, ?_, ?_, ?_, ?_, ?_, ?_, ?_, ?_⟩
  all_goals (rw [cell_of_row w b _ (regC c) 24 (0, 0) h]; rfl)
set_option maxHeartbeats 1000000 in
theorem awake_walk (d : Reg) (c1 : RowKit.Hid (Writes (⟨0, 0, 0, 0, 0, 0, 0, 0, 0, 0, 0, 0, 0, 0, 0, 0⟩ : Reg) 3 832 7 d true)) (c2 : RowKit.Hid (Reads d 3 832 0 0 7 true)) (c3 : RowKit.Hid (Reads d 1 768 0 0 0 false)) (W : World) : Calls Try.prog 8 #[] W fun e W' => e = .returned (.bool true) ∧ Below W.heap.size W W' := by
  go_enter Try.func8, Try.ntmps8
  go_wp2_with (first | (go_at_call 13; (with_reducible refine (c1.out _).mono ?_); rintro e w1 ⟨rfl, h1⟩) | (with_reducible show wpList _ _ _ (⟨none, Op.store 24 (.tmp 1) (.tmp 10), _, _, _, none⟩ :: _) _ _; refine wpList_store_run rfl 24 (.tmp 1) (.tmp 10) rfl (.pointer (some ⟨w1.heap.size, 0, none⟩)) (regV d) rfl rfl (store_new w1 d) ?_) | (with_reducible show wpList _ _ _ (⟨some 13, Op.load 24 (.tmp 1), 24, _, _, none⟩ :: _) _ _; refine wpList_load_run rfl 24 (.tmp 1) rfl (.pointer (some ⟨w1.heap.size, 0, none⟩)) (regV d) rfl (Box.load (Box.new w1 d)) ?_) | (go_at_call 11; (with_reducible refine (c2.out _).mono ?_); rintro e w2 ⟨rfl, h2⟩) | (with_reducible show wpList _ _ _ (⟨some 18, Op.load 24 (.tmp 1), 24, _, _, none⟩ :: _) _ _; refine wpList_load_run rfl 24 (.tmp 1) rfl (.pointer (some ⟨w1.heap.size, 0, none⟩)) (regV d) rfl (Box.load ((Box.new w1 d).next h2)) ?_) | (go_at_call 11; (with_reducible refine (c3.out _).mono ?_); rintro e w3 ⟨rfl, h3⟩) | fail)
  go_ret
  exact ⟨rfl, below_then (below_then (h1.alloc h1.size _) (Nat.le_refl _) h2) (Nat.le_refl _) h3⟩
theorem awake_any (W : World) : Calls Try.prog 8 #[] W fun e W' => e = .returned (.bool true) ∧ Below W.heap.size W W' :=
  awake_walk (⟨0, 0, 0, 0, 0, 0, 7, 0, 0, 0, 0, 0, 0, 0, 0, 0⟩ : Reg) (Lib.hid fun W => (row_340.write_yes rfl (⟨0, 0, 0, 0, 0, 0, 0, 0, 0, 0, 0, 0, 0, 0, 0, 0⟩ : Reg) 3 7 (by decide)).1 W) (Lib.hid fun W => (row_340.read_yes (⟨0, 0, 0, 0, 0, 0, 7, 0, 0, 0, 0, 0, 0, 0, 0, 0⟩ : Reg) 3 0 0 (by decide)).1 W) (Lib.hid fun W => (row_300.read_no (⟨0, 0, 0, 0, 0, 0, 7, 0, 0, 0, 0, 0, 0, 0, 0, 0⟩ : Reg) 1 0 0 (by decide)).1 W) W

end Go.Proofs.Ythchakfffenoiaa
