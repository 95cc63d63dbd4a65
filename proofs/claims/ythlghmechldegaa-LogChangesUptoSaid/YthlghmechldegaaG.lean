/- Inputs and entries: their cells, and when two are equal. -/
import Derived.Test.YthlghmechldegaaF
namespace Go.Proofs.Ythlghmechldegaa
open Go.RowKit Go.Deep Go.Joins
set_option maxRecDepth 100000
theorem part_cell (t : TypeId) (d : TypeDesc) (cs : Array Value) (off : Nat) (v : Value) (w : World) (hu : Try.prog.underlying t = some d) (hd : (match d with | .struct _ | .array _ _ => true | _ => false) = false) (h : cs[off]? = some v) : (part t cs off).run Try.prog w = .ok v w := by
  have hagg : (isAgg t).run Try.prog w = .ok false w := by
    unfold isAgg
    rw [Sem.run_bind, run_underlying hu w]
    cases d <;> simp_all
  simp [part, Sem.run_bind, hagg, h]
theorem part_row (t : TypeId) (d : TypeDesc) (n : Nat) (cs : Array Value) (off : Nat) (w : World) (hu : Try.prog.underlying t = some d) (hd : (match d with | .struct _ | .array _ _ => true | _ => false) = true) (hi : (Try.prog.info? t).map (·.size) = some n) : (part t cs off).run Try.prog w = .ok (.agg (cs.extract off (off + n))) w := by
  have hagg : (isAgg t).run Try.prog w = .ok true w := by
    unfold isAgg
    rw [Sem.run_bind, run_underlying hu w]
    cases d <;> simp_all
  cases hq : Try.prog.info? t with
  | none => simp [hq] at hi
  | some i =>
    have hs : i.size = n := by simpa [hq] using hi
    simp [part, Sem.run_bind, hagg, sizeOf, typeInfo, hq, hs]
theorem eqItems_all (d : Nat) (e : TypeId) (c : Nat) (xs ys : Array Value) (w : World) (b : Nat → Bool) : ∀ is : List Nat, (∀ i ∈ is, ∃ v u, (part e xs (i * c)).run Try.prog w = .ok v w ∧ (part e ys (i * c)).run Try.prog w = .ok u w ∧ (Op.equalIn d e v u).run Try.prog w = .ok (b i) w) → (Op.eqItems d e c xs ys is).run Try.prog w = .ok (is.all b) w
  | [], _ => by simp [Op.eqItems]
  | i :: is, h => by
    obtain ⟨v, u, h1, h2, h3⟩ := h i (by simp)
    have ih := eqItems_all d e c xs ys w b is fun j hj => h j (by simp [hj])
    simp only [Op.eqItems, Sem.run_bind, h1, h2, h3, Result.andThen_ok, List.all_cons]
    cases b i
    · simp
    · simpa using ih
theorem eqFields_all (d : Nat) (xs ys : Array Value) (w : World) (b : Field → Bool) : ∀ fs : List Field, (∀ f ∈ fs, f.name ≠ "_" ∧ ∃ v u, (part f.type xs f.offset).run Try.prog w = .ok v w ∧ (part f.type ys f.offset).run Try.prog w = .ok u w ∧ (Op.equalIn d f.type v u).run Try.prog w = .ok (b f) w) → (Op.eqFields d xs ys fs).run Try.prog w = .ok (fs.all b) w
  | [], _ => by simp [Op.eqFields]
  | f :: fs, h => by
    obtain ⟨hb, v, u, h1, h2, h3⟩ := h f (by simp)
    have ih := eqFields_all d xs ys w b fs fun j hj => h j (by simp [hj])
    simp only [Op.eqFields, Sem.run_bind, Sem.run_ite, List.all_cons]
    rw [if_pos (by simpa using hb)]
    simp only [h1, h2, h3, Result.andThen_ok]
    cases b f
    · simp
    · simpa using ih
theorem eqFields_by (d : Nat) (xs ys : Array Value) (w : World) (l : List (TypeId × Nat)) (fs : List Field) (hl : fs.map (fun f => (f.type, f.offset)) = l) (hn : fs.all (fun f => f.name != "_") = true) (b : Nat → Bool) (h : ∀ p ∈ l, ∃ v u, (part p.1 xs p.2).run Try.prog w = .ok v w ∧ (part p.1 ys p.2).run Try.prog w = .ok u w ∧ (Op.equalIn d p.1 v u).run Try.prog w = .ok (b p.2) w) : (Op.eqFields d xs ys fs).run Try.prog w = .ok (l.all fun p => b p.2) w := by
  rw [eqFields_all d xs ys w (fun f => b f.offset) fs fun f hf => ⟨by have := List.all_eq_true.1 hn f hf; simpa using this, h (f.type, f.offset) (by rw [← hl]; exact List.mem_map_of_mem hf)⟩]
  rw [← hl, List.all_map]
  rfl
/-- An input. -/
structure In where
  id : Int
  gap : Int
  dev : Int
  data : ByteArray
/-- An entry. -/
structure En where
  term : Int
  kind : Int
  i : In
  s : Nat → Bool
def inL (a : In) : List Value := [.int .u64 a.id, .int .i64 a.gap, .int .i64 a.dev, .string a.data]
def inC (a : In) : Array Value := (inL a).toArray
abbrev inV (a : In) : Value := .agg (inC a)
abbrev inO (a : In) : Obj := .cells (inC a) 34
def enL (e : En) : List Value := [.int .u64 e.term, .int .i64 e.kind, .int .u64 e.i.id, .int .i64 e.i.gap, .int .i64 e.i.dev, .string e.i.data, .bool (e.s 0), .bool (e.s 1), .bool (e.s 2), .bool (e.s 3), .bool (e.s 4), .bool (e.s 5), .bool (e.s 6)]
def enC (e : En) : Array Value := (enL e).toArray
abbrev enV (e : En) : Value := .agg (enC e)
abbrev enO (e : En) : Obj := .cells (enC e) 36
theorem enC_size (e : En) : (enC e).size = 13 := rfl
theorem inC_size (e : In) : (inC e).size = 4 := rfl
theorem enC_at (e : En) (k : Nat) : (enC e)[k]? = (enL e)[k]? := by unfold enC; rw [List.getElem?_toArray]
theorem inC_at (e : In) (k : Nat) : (inC e)[k]? = (inL e)[k]? := by unfold inC; rw [List.getElem?_toArray]
def setEq (f g : Nat → Bool) : Bool := (List.range 7).all fun i => f i == g i
def inEq (a b : In) : Bool := a.id == b.id && (a.gap == b.gap && (a.dev == b.dev && (a.data.toList == b.data.toList)))
def enEq (a b : En) : Bool := a.term == b.term && (a.kind == b.kind && (inEq a.i b.i && setEq a.s b.s))
theorem eq_int (d : Nat) (t : TypeId) (k : IntKind) (a b : Int) (w : World) (h : Try.prog.underlying t = some (.int k)) : (Op.equalIn (d + 1) t (.int k a) (.int k b)).run Try.prog w = .ok (a == b) w :=
  run_equalIn_int w d t k k a b h
theorem cells4 : Try.prog.cellsOf 4 = 1 := by kernel_rfl
theorem info4 : ∃ i, Try.prog.info? 4 = some i := by
  cases h : Try.prog.info? 4 with
  | none => have := size4; rw [h] at this; cases this
  | some i => exact ⟨i, rfl⟩
theorem eq_set (d : Nat) (f g : Nat → Bool) (w : World) : (Op.equalIn (d + 2) 24 (setV f) (setV g)).run Try.prog w = .ok (setEq f g) w := by
  obtain ⟨i, hi⟩ := info4
  rw [run_equalIn_array w (d + 1) (setC f) (setC g) Try.underlying24 hi]
  refine eqItems_all _ _ _ _ _ _ (fun i => f i == g i) _ fun j hj => ?_
  have hj' : j < 7 := by simpa using hj
  rw [cells4, Nat.mul_one]
  exact ⟨_, _, part_cell 4 _ _ j _ w Try.underlying4 rfl (setC_at f j hj'), part_cell 4 _ _ j _ w Try.underlying4 rfl (setC_at g j hj'), run_equalIn_bool' w d 4 _ _ Try.underlying4⟩
theorem fields34 : (Try.prog.fieldsOf 34).toList.map (fun f => (f.type, f.offset)) = [(22, 0), (3, 1), (3, 2), (9, 3)] := by kernel_rfl
theorem fields36 : (Try.prog.fieldsOf 36).toList.map (fun f => (f.type, f.offset)) = [(22, 0), (3, 1), (34, 2), (24, 6)] := by kernel_rfl
theorem size34 : (Try.prog.info? 34).map (·.size) = some 4 := by kernel_rfl
theorem size36 : (Try.prog.info? 36).map (·.size) = some 13 := by kernel_rfl
theorem eq_in (d : Nat) (a b : In) (w : World) : (Op.equalIn (d + 2) 34 (inV a) (inV b)).run Try.prog w = .ok (inEq a b) w := by
  rw [run_equalIn_struct w (d + 1) 34 (inC a) (inC b) (by kernel_rfl) (by kernel_rfl)]
  rw [eqFields_by (d + 1) _ _ w _ _ fields34 (by kernel_rfl) (fun k => if k = 0 then a.id == b.id else if k = 1 then a.gap == b.gap else if k = 2 then a.dev == b.dev else a.data.toList == b.data.toList) fun p hp => ?_]
  · simp [inEq]
  · simp only [List.mem_cons, List.not_mem_nil, or_false] at hp
    rcases hp with rfl | rfl | rfl | rfl
    · exact ⟨_, _, part_cell 22 _ _ 0 _ w Try.underlying22 rfl rfl, part_cell 22 _ _ 0 _ w Try.underlying22 rfl rfl, eq_int d 22 .u64 _ _ w Try.underlying22⟩
    · exact ⟨_, _, part_cell 3 _ _ 1 _ w Try.underlying3 rfl rfl, part_cell 3 _ _ 1 _ w Try.underlying3 rfl rfl, eq_int d 3 .i64 _ _ w Try.underlying3⟩
    · exact ⟨_, _, part_cell 3 _ _ 2 _ w Try.underlying3 rfl rfl, part_cell 3 _ _ 2 _ w Try.underlying3 rfl rfl, eq_int d 3 .i64 _ _ w Try.underlying3⟩
    · exact ⟨_, _, part_cell 9 _ _ 3 _ w Try.underlying9 rfl rfl, part_cell 9 _ _ 3 _ w Try.underlying9 rfl rfl, run_equalIn_string w d 9 _ _ Try.underlying9⟩
theorem cut_in (e : En) : (enC e).extract 2 (2 + 4) = inC e.i := rfl
theorem cut_set (e : En) : (enC e).extract 6 (6 + 7) = setC e.s := rfl
theorem eq_en (d : Nat) (a b : En) (w : World) : (Op.equalIn (d + 3) 36 (enV a) (enV b)).run Try.prog w = .ok (enEq a b) w := by
  rw [run_equalIn_struct w (d + 2) 36 (enC a) (enC b) (by kernel_rfl) (by kernel_rfl)]
  rw [eqFields_by (d + 2) _ _ w _ _ fields36 (by kernel_rfl) (fun k => if k = 0 then a.term == b.term else if k = 1 then a.kind == b.kind else if k = 2 then inEq a.i b.i else setEq a.s b.s) fun p hp => ?_]
  · simp [enEq]
  · simp only [List.mem_cons, List.not_mem_nil, or_false] at hp
    rcases hp with rfl | rfl | rfl | rfl
    · exact ⟨_, _, part_cell 22 _ _ 0 _ w Try.underlying22 rfl rfl, part_cell 22 _ _ 0 _ w Try.underlying22 rfl rfl, eq_int (d + 1) 22 .u64 _ _ w Try.underlying22⟩
    · exact ⟨_, _, part_cell 3 _ _ 1 _ w Try.underlying3 rfl rfl, part_cell 3 _ _ 1 _ w Try.underlying3 rfl rfl, eq_int (d + 1) 3 .i64 _ _ w Try.underlying3⟩
    · exact ⟨_, _, part_row 34 _ 4 _ 2 w Try.underlying34 rfl size34, part_row 34 _ 4 _ 2 w Try.underlying34 rfl size34, eq_in d a.i b.i w⟩
    · exact ⟨_, _, part_row 24 _ 7 _ 6 w Try.underlying24 rfl size24, part_row 24 _ 7 _ 6 w Try.underlying24 rfl size24, eq_set d a.s b.s w⟩
/-- Of what nothing is given. -/
def zeroIn : In := ⟨0, 0, 0, ⟨#[]⟩⟩
abbrev zinC : Array Value := #[.int .u64 0, .int .i64 0, .int .i64 0, .string ⟨#[]⟩]
theorem zinC_eq : inC zeroIn = zinC := rfl
theorem guard34 : Try.prog.eqGuardType Try.prog.depth 34 = false := by kernel_rfl
theorem guard24 : Try.prog.eqGuardType Try.prog.depth 24 = false := by kernel_rfl
theorem guard36 : Try.prog.eqGuardType Try.prog.depth 36 = false := by kernel_rfl
theorem exec_eql {ρ : Operand → Value} {o : Oper} {x y : Operand} {t t2 : TypeId} {xs ys : Array Value} {b : Bool} (w : World) (ho : o.op = .binOp .eql t x y t2) (hx : ρ x = .agg xs) (hy : ρ y = .agg ys) (hg : Try.prog.eqGuardType Try.prog.depth t = false) (he : (Op.equalIn 10000 t (.agg xs) (.agg ys)).run Try.prog w = .ok b w) : (execOp ρ o).run Try.prog w = .ok (.value (.bool b)) w := by
  unfold execOp
  simp [ho, hx, hy, Sem.run_bind, run_eqGuard_agg _ _ _ _ _ _ _ hg, run_eql_struct, he, Result.andThen]
theorem exec_neq {ρ : Operand → Value} {o : Oper} {x y : Operand} {t t2 : TypeId} {xs ys : Array Value} {b : Bool} (w : World) (ho : o.op = .binOp .neq t x y t2) (hx : ρ x = .agg xs) (hy : ρ y = .agg ys) (hg : Try.prog.eqGuardType Try.prog.depth t = false) (he : (Op.equalIn 10000 t (.agg xs) (.agg ys)).run Try.prog w = .ok b w) : (execOp ρ o).run Try.prog w = .ok (.value (.bool (!b))) w := by
  unfold execOp
  simp [ho, hx, hy, Sem.run_bind, run_eqGuard_agg _ _ _ _ _ _ _ hg, run_neq_struct, he, Result.andThen]
end Go.Proofs.Ythlghmechldegaa
