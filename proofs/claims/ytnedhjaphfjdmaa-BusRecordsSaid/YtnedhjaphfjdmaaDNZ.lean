/- What a write tells. -/
import Derived.Test.YtnedhjaphfjdmaaDLZ
namespace Go.Proofs.Ytnedhjaphfjdmaa
open Go.RowKit Go.Deep Go.Joins
/-- The low byte of a number. -/
def outS (v : Int) : ByteArray := ⟨#[UInt8.ofNat v.toNat]⟩
/-- What a write does: the board behind it, its frames, its effect, and whether there is something to be written so. -/
def stF (b : Bd) (F : List ByteArray) (t s v : Int) : Bd × List ByteArray × Int × ByteArray × Bool :=
  if t = 33554432 ∧ s = 4 then ({ b with msip := bits .and .u64 v 1 == 1 }, F, 0, ⟨#[]⟩, true) else
  if t = 33570816 ∧ s = 8 then ({ b with cmp := v }, F, 0, ⟨#[]⟩, true) else
  if t = 268435456 ∧ s = 1 then (b, F, 1, outS v, true) else
  if t = 268435457 ∧ s = 1 then ({ b with ier := bits .and .u64 v 1 == 1 }, F, 0, ⟨#[]⟩, true) else
  if t = 268439552 ∧ s = 8 then ({ b with sector := v }, F, 0, ⟨#[]⟩, true) else
  if t = 268439560 ∧ s = 8 then ({ b with addr := v }, F, 0, ⟨#[]⟩, true) else
  if t = 268439568 ∧ s = 8 then (b, F, ordV v 2 3, ⟨#[]⟩, true) else
  if t = 268443656 ∧ s = 8 then ({ b with nicA := v }, F, 0, ⟨#[]⟩, true) else
  if t = 268443664 ∧ s = 8 then (b, F, ordV v 4 5, ⟨#[]⟩, true) else
  if t = 268443672 ∧ s = 8 then ({ b with nicL := v }, F, 0, ⟨#[]⟩, true) else
  (bdZ, [], 0, ⟨#[]⟩, false)
theorem stF_none (b : Bd) (F : List ByteArray) (t s v : Int) (h : ¬ (t = 33554432 ∧ s = 4) ∧ ¬ (t = 33570816 ∧ s = 8) ∧ ¬ (t = 268435456 ∧ s = 1) ∧ ¬ (t = 268435457 ∧ s = 1) ∧ ¬ (t = 268439552 ∧ s = 8) ∧ ¬ (t = 268439560 ∧ s = 8) ∧ ¬ (t = 268439568 ∧ s = 8) ∧ ¬ (t = 268443656 ∧ s = 8) ∧ ¬ (t = 268443664 ∧ s = 8) ∧ ¬ (t = 268443672 ∧ s = 8)) : stF b F t s v = (bdZ, [], 0, ⟨#[]⟩, false) := by
  obtain ⟨h0, h1, h3, h4, h6, h7, h8, h11, h12, h13⟩ := h
  unfold stF
  rw [if_neg h0, if_neg h1, if_neg h3, if_neg h4, if_neg h6, if_neg h7, if_neg h8, if_neg h11, if_neg h12, if_neg h13]
/-- An effect in memory. -/
def EBox (w : World) (g : Nat) (k : Int) (s : ByteArray) : Prop := w.heap[g]? = some (.cells #[.int .i64 k, .string s] 80 (0, 0))
abbrev effV (k : Int) (s : ByteArray) : Value := .agg #[.int .i64 k, .string s]
theorem EBox.lt {w : World} {g : Nat} {k : Int} {s : ByteArray} (h : EBox w g k s) : g < w.heap.size := (Array.getElem?_eq_some_iff.1 h).1
theorem EBox.next {w w' : World} {g : Nat} {k : Int} {s : ByteArray} (h : EBox w g k s) (j : Below w.heap.size w w') : EBox w' g k s := (j.block g h.lt).trans h
theorem EBox.over {w : World} {g x : Nat} {k : Int} {s : ByteArray} (h : EBox w g k s) (hg : g ≠ x) (cs : Array Value) : EBox (w.setRow x cs) g k s := (setRow_other w x g cs hg).trans h
theorem EBox.mine {w : World} {g : Nat} {k : Int} {s : ByteArray} (h : EBox w g k s) (k' : Int) (s' : ByteArray) : EBox (w.setRow g #[.int .i64 k', .string s']) g k' s' := setRow_heap w g _ _ 80 (0, 0) h
theorem EBox.load {w : World} {g : Nat} {k : Int} {s : ByteArray} (h : EBox w g k s) : (Instr.loadAt 80 (.pointer (some ⟨g, 0, none⟩))).run Try.prog w = .ok (effV k s) w := by
  simp only [Instr.loadAt, Instr.sureAddr, Sem.run_bind, Sem.run_pure, Result.andThen]
  exact run_loadVar_row w g 80 80 _ (0, 0) _ h Try.underlying80 rfl (by rw [size80]; rfl)
theorem EBox.result {w : World} {g : Nat} {k : Int} {s : ByteArray} (h : EBox w g k s) : (loadVar 80 ⟨g, 0, none⟩).run Try.prog w = .ok (effV k s) w :=
  run_loadVar_row w g 80 80 _ (0, 0) _ h Try.underlying80 rfl (by rw [size80]; rfl)
theorem EBox.store {w : World} {g : Nat} {k : Int} {s : ByteArray} (h : EBox w g k s) (k' : Int) (s' : ByteArray) : (Instr.storeAt 80 (.pointer (some ⟨g, 0, none⟩)) (effV k' s')).run Try.prog w = .ok () (w.setRow g #[.int .i64 k', .string s']) := by
  simp only [Instr.storeAt, Instr.sureAddr, Sem.run_bind, Sem.run_pure, Result.andThen]
  exact run_storeVar_row w g 80 80 _ _ h (by rw [size80]; rfl) rfl (by simp [Value.oneCell'])
theorem EBox.store_kind {w : World} {g : Nat} {k : Int} {s : ByteArray} (h : EBox w g k s) (k' : Int) : (Instr.storeAt 3 (.pointer (some ⟨g, 0, none⟩)) (.int .i64 k')).run Try.prog w = .ok () (w.setRow g #[.int .i64 k', .string s]) :=
  run_store_cell w g 0 3 80 #[.int .i64 k, .string s] _ h size3 (by simp) rfl rfl
theorem EBox.w_all {w : World} {g : Nat} {k k' : Int} {s s' : ByteArray} (h : EBox w g k s) {ops : Array Oper} {rest : List Oper} {o : Oper} {a : Act} {Q : Exit → Act → World → Prop} (hgd : o.guard = none) {p x : Operand} (ho : o.op = .store 80 p x) (hp : a.eval p = .pointer (some ⟨g, 0, none⟩)) (hx : a.eval x = effV k' s')
    (hh : ∀ wy, wy = w.setRow g #[.int .i64 k', .string s'] → wpList Try.prog ops Q rest (a.put o.dst undef) wy) : wpList Try.prog ops Q (o :: rest) a w :=
  wpList_store_by hgd ho (h.store k' s') hp hx (hh _ rfl)
theorem EBox.w_kind {w : World} {g : Nat} {k k' : Int} {s : ByteArray} (h : EBox w g k s) {ops : Array Oper} {rest : List Oper} {o : Oper} {a : Act} {Q : Exit → Act → World → Prop} (hgd : o.guard = none) {p x : Operand} (ho : o.op = .store 3 p x) (hp : a.eval p = .pointer (some ⟨g, 0, none⟩)) (hx : a.eval x = .int .i64 k')
    (hh : ∀ wy, wy = w.setRow g #[.int .i64 k', .string s] → wpList Try.prog ops Q rest (a.put o.dst undef) wy) : wpList Try.prog ops Q (o :: rest) a w :=
  wpList_store_by hgd ho (h.store_kind k') hp hx (hh _ rfl)
abbrev effO : Obj := .cells #[.int .i64 0, .string ⟨#[]⟩] 80
theorem EBox.new (w : World) : EBox (w.alloc effO) w.heap.size 0 ⟨#[]⟩ := heap_alloc_last w _
theorem EBox.touch {w w' : World} {g : Nat} {k : Int} {s : ByteArray} {S : Nat → Prop} (h : EBox w g k s) (j : Touch w w' S) (hS : ¬ S g) : EBox w' g k s := (j.block g h.lt hS).trans h
/-- A function's own board, the one that it is to tell, the effect that it is to tell. -/
structure KS (W wx : World) (b r : Bd) (k : Int) (s : ByteArray) : Prop where
  own : Box wx W.heap.size b
  res : Box wx (W.heap.size + 1) r
  eff : EBox wx (W.heap.size + 2) k s
  below : Below W.heap.size W wx
theorem KS.new (W : World) (b : Bd) : KS W (((W.alloc (bdO b)).alloc zeroO).alloc effO) b bdZ 0 ⟨#[]⟩ := by
  have k := KA.new W b
  have e := EBox.new ((W.alloc (bdO b)).alloc zeroO)
  rw [World.size_alloc, World.size_alloc] at e
  exact ⟨k.own.alloc _, k.res.alloc _, e, k.below.alloc (by simp; omega) _⟩
theorem KS.next {W w w' : World} {b r : Bd} {k : Int} {s : ByteArray} (h : KS W w b r k s) (j : Below w.heap.size w w') : KS W w' b r k s := ⟨h.own.next j, h.res.next j, h.eff.next j, below_then h.below j⟩
theorem KS.put {W w w' : World} {b b' r : Bd} {k : Int} {s : ByteArray} (h : KS W w b r k s) (hw : w' = w.setRow W.heap.size (bdC b')) : KS W w' b' r k s := by
  subst hw
  exact ⟨Box.mine h.own b', h.res.over (by omega) _, h.eff.over (by omega) _, below_setRow h.below (Nat.le_refl _) _⟩
theorem KS.tell {W w w' : World} {b r r' : Bd} {k : Int} {s : ByteArray} (h : KS W w b r k s) (hw : w' = w.setRow (W.heap.size + 1) (bdC r')) : KS W w' b r' k s := by
  subst hw
  exact ⟨h.own.over (by omega) _, Box.mine h.res r', h.eff.over (by omega) _, below_setRow h.below (by omega) _⟩
theorem KS.give {W w w' : World} {b r : Bd} {k k' : Int} {s s' : ByteArray} (h : KS W w b r k s) (hw : w' = w.setRow (W.heap.size + 2) #[.int .i64 k', .string s']) : KS W w' b r k' s' := by
  subst hw
  exact ⟨h.own.over (by omega) _, h.res.over (by omega) _, h.eff.mine k' s', below_setRow h.below (by omega) _⟩
/-- Beside them something at z that is none of them. -/
theorem KS.far {W w w' : World} {b r : Bd} {k : Int} {s : ByteArray} {z : Nat} {cs : Array Value} (h : KS W w b r k s) (hz : W.heap.size + 2 < z) (hw : w' = w.setRow z cs) : KS W w' b r k s := by
  subst hw
  exact ⟨h.own.over (by omega) _, h.res.over (by omega) _, h.eff.over (by omega) _, below_setRow h.below (by omega) _⟩
theorem KS.size {W w : World} {b r : Bd} {k : Int} {s : ByteArray} (h : KS W w b r k s) : W.heap.size + 2 < w.heap.size := h.eff.lt
/-- A board, an effect and whether they are there, told. -/
theorem results_store {fn : Func} {p u x : Tmp} (h : fn.results = #[.cell p 35, .cell u 80, .tmp x]) (tmps : Array Value) (w : World) (g e : Nat) (k : Bd) (i : Int) (s : ByteArray) (y : Value) (hp : tmps.getD p undef = .pointer (some ⟨g, 0, none⟩)) (hg : Box w g k) (hu : tmps.getD u undef = .pointer (some ⟨e, 0, none⟩)) (he : EBox w e i s) (hy : tmps.getD x undef = y) :
    (results fn tmps).run Try.prog w = .ok (.tuple #[bdV k, effV i s, y]) w := by
  have hp' : tmps[p]?.getD undef = .pointer (some ⟨g, 0, none⟩) := by simpa using hp
  have hu' : tmps[u]?.getD undef = .pointer (some ⟨e, 0, none⟩) := by simpa using hu
  have hy' : tmps[x]?.getD undef = y := by simpa using hy
  simp [results, h, hp', hu', hy', asAddr, Box.result hg, EBox.result he]
theorem OwnF.eput {w w' : World} {B g : Nat} {v : Value} {F : List ByteArray} {k : Int} {s : ByteArray} {cs : Array Value} (h : OwnF w B v F) (e : EBox w g k s) (hw : w' = w.setRow g cs) : OwnF w' B v F := by
  subst hw
  exact owns_touch h ((Touch.refl w (fun k => k = g)).setRow (.inl rfl) cs) (fun g' e1 e2 => not_at h e (by decide) (by rw [e1, e2]))

end Go.Proofs.Ytnedhjaphfjdmaa
