/- What an effect does. -/
import Derived.Test.YtmbaimcneffnlaaEA
import Derived.Test.YtmbaimcneffnlaaI
import Derived.Test.YtmbaimcneffnlaaJ
import Derived.Test.YtmbaimcneffnlaaG
import Derived.Test.YtmbaimcneffnlaaT
import Derived.Test.YtmbaimcneffnlaaX
namespace Go.Proofs.Ytmbaimcneffnlaa
open Go.RowKit Go.Deep Go.Joins
abbrev ramC (dv mv : Value) (E : Int) : Array Value := #[dv, mv, .int .u64 E]
abbrev ramZC : Array Value := #[.slice none 0 0, .slice none 0 0, .int .u64 0]
abbrev ramZO : Obj := .cells ramZC 49
theorem size49 : (Try.prog.info? 49).map (·.size) = some 3 := by kernel_rfl
theorem ram_load {w : World} {g : Nat} {dv mv : Value} {E : Int} (h : w.heap[g]? = some (.cells (ramC dv mv E) 49 (0, 0))) : (Instr.loadAt 49 (.pointer (some ⟨g, 0, none⟩))).run Try.prog w = .ok (.agg (ramC dv mv E)) w := by
  simp only [Instr.loadAt, Instr.sureAddr, Sem.run_bind, Sem.run_pure, Result.andThen]
  exact run_loadVar_row w g 49 49 _ (0, 0) _ h Try.underlying49 rfl (by rw [size49]; rfl)
theorem ram_result {w : World} {g : Nat} {dv mv : Value} {E : Int} (h : w.heap[g]? = some (.cells (ramC dv mv E) 49 (0, 0))) : (loadVar 49 ⟨g, 0, none⟩).run Try.prog w = .ok (.agg (ramC dv mv E)) w :=
  run_loadVar_row w g 49 49 _ (0, 0) _ h Try.underlying49 rfl (by rw [size49]; rfl)
theorem ram_store {w : World} {g : Nat} {old : Array Value} {p q : Option Addr} {n m c d : Nat} {E : Int} (h : w.heap[g]? = some (.cells old 49 (0, 0))) (ho : old.size = 3) : (Instr.storeAt 49 (.pointer (some ⟨g, 0, none⟩)) (.agg (ramC (.slice p n c) (.slice q m d) E))).run Try.prog w = .ok () (w.setRow g (ramC (.slice p n c) (.slice q m d) E)) := by
  simp only [Instr.storeAt, Instr.sureAddr, Sem.run_bind, Sem.run_pure, Result.andThen]
  exact run_storeVar_row w g 49 49 _ _ h (by rw [size49]; rfl) (by rw [ho]; rfl) (by simp [Value.oneCell'])
theorem w_ram {w : World} {g : Nat} {old : Array Value} {p q : Option Addr} {n m c d : Nat} {E : Int} (h : w.heap[g]? = some (.cells old 49 (0, 0))) (hs : old.size = 3) {ops : Array Oper} {rest : List Oper} {o : Oper} {a : Act} {Q : Exit → Act → World → Prop} (hgd : o.guard = none) {t x : Operand} (ho : o.op = .store 49 t x) (hp : a.eval t = .pointer (some ⟨g, 0, none⟩)) (hx : a.eval x = .agg (ramC (.slice p n c) (.slice q m d) E))
    (hh : ∀ wy, wy = w.setRow g (ramC (.slice p n c) (.slice q m d) E) → wpList Try.prog ops Q rest (a.put o.dst undef) wy) : wpList Try.prog ops Q (o :: rest) a w :=
  wpList_store_by hgd ho (ram_store h hs) hp hx (hh _ rfl)
theorem Mem.newR {W w : World} {l : List (Nat × Array Value × Nat)} {r : List (Nat × Value × Nat × List Value)} (h : Mem W w l r) : Mem W (w.alloc ramZO) ((w.heap.size, ramZC, 49) :: l) r := h.new _ 49 (by decide)
theorem calls_mem {f : FuncId} {args : Array Value} {w : World} {D : List UInt8} {M : List Int} {E : Int} (h : Calls Try.prog f args w (CopyMem w D M E)) : Calls Try.prog f args w fun e w' => ∃ u, e = .returned u ∧ (∃ p c q d, u = .agg (ramC (.slice p D.length c) (.slice q M.length d) E) ∧ w'.ownsRow w.heap.size 5 1 (.slice p D.length c) D.length (dC D) ∧ w'.ownsRow w.heap.size 22 1 (.slice q M.length d) M.length (mC M) ∧ Below w.heap.size w w') :=
  h.mono fun _ _ ⟨dv, mv, he, hd, hm, hb⟩ => by
    obtain ⟨p, c, rfl⟩ := owns_shape hd
    obtain ⟨q, d, rfl⟩ := owns_shape hm
    exact ⟨_, he, p, c, q, d, rfl, hd, hm, hb⟩
/-- What an effect does: board, frames, bytes, marks, what goes out and whether something does. -/
def Acted (W : World) (r : Bd) (F : List ByteArray) (E : Int) (D : List UInt8) (M : List Int) (s : ByteArray) (ok : Bool) (e : Ending) (W' : World) : Prop :=
  ∃ p c dv mv, e = .returned (.tuple #[bdV (r.at p F.length c), .agg (ramC dv mv E), .string s, .bool ok]) ∧ FAt W' (.slice p F.length c) F ∧ DAt W' dv D ∧ MAt W' mv M ∧ Below W.heap.size W W'
theorem results_act {fn : Func} {p u x y : Tmp} (h : fn.results = #[.cell p 30, .cell u 49, .tmp x, .tmp y]) (tmps : Array Value) (w : World) (g e : Nat) (k : Bd) (dv mv : Value) (E : Int) (s t : Value) (hp : tmps.getD p undef = .pointer (some ⟨g, 0, none⟩)) (hg : Box w g k) (hu : tmps.getD u undef = .pointer (some ⟨e, 0, none⟩)) (he : w.heap[e]? = some (.cells (ramC dv mv E) 49 (0, 0))) (hx : tmps.getD x undef = s) (hy : tmps.getD y undef = t) :
    (results fn tmps).run Try.prog w = .ok (.tuple #[bdV k, .agg (ramC dv mv E), s, t]) w := by
  have hp' : tmps[p]?.getD undef = .pointer (some ⟨g, 0, none⟩) := by simpa using hp
  have hu' : tmps[u]?.getD undef = .pointer (some ⟨e, 0, none⟩) := by simpa using hu
  have hx' : tmps[x]?.getD undef = s := by simpa using hx
  have hy' : tmps[y]?.getD undef = t := by simpa using hy
  simp [results, h, hp', hu', hx', hy', asAddr, Box.result hg, ram_result he]
/-- The memory of Act as it begins. -/
theorem act_start (W : World) (b : Bd) (p q : Option Addr) (n m c d : Nat) (E k : Int) (s : ByteArray) : Mem W (((((W.alloc (bdO b)).alloc (.cells (ramC (.slice p n c) (.slice q m d) E) 49)).alloc (.cells #[.int .i64 k, .string s] 42)).alloc zeroO).alloc ramZO)
    [(W.heap.size + 1 + 1 + 1 + 1, ramZC, 49), (W.heap.size + 1 + 1 + 1, bdC bdZ, 30), (W.heap.size + 1 + 1, #[.int .i64 k, .string s], 42), (W.heap.size + 1, ramC (.slice p n c) (.slice q m d) E, 49), (W.heap.size, bdC b, 30)] [] := by
  have h := (((((Mem.start W).new (bdC b) 30 (by decide)).new (ramC (.slice p n c) (.slice q m d) E) 49 (by decide)).new #[.int .i64 k, .string s] 42 (by decide)).newZ).newR
  simp only [World.size_alloc] at h
  exact h

end Go.Proofs.Ytmbaimcneffnlaa
