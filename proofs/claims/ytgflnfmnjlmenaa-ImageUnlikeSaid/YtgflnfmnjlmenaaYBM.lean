/- A machine in memory; records. -/
import Derived.Test.YtgflnfmnjlmenaaYPA
import Derived.Test.YtgflnfmnjlmenaaYDVV
import Derived.Test.YtgflnfmnjlmenaaYDLZ
import Derived.Test.YtgflnfmnjlmenaaYPC
import Derived.ChangeKeysEq
import Derived.Laws.StructEq
namespace Go.Proofs.Ytgflnfmnjlmenaa
open Go.RowKit Go.Deep Go.Joins
/-- The control registers, in the order in which the program has them. -/
structure Reg where
  s0 : Int
  s1 : Int
  s2 : Int
  s3 : Int
  s4 : Int
  s5 : Int
  s6 : Int
  s7 : Int
  s8 : Int
  s9 : Int
  s10 : Int
  s11 : Int
  s12 : Int
  s13 : Int
  s14 : Int
  s15 : Int
abbrev regV (c : Reg) : Value := .agg #[.int .u64 c.s0, .int .u64 c.s1, .int .u64 c.s2, .int .u64 c.s3, .int .u64 c.s4, .int .u64 c.s5, .int .u64 c.s6, .int .u64 c.s7, .int .u64 c.s8, .int .u64 c.s9, .int .u64 c.s10, .int .u64 c.s11, .int .u64 c.s12, .int .u64 c.s13, .int .u64 c.s14, .int .u64 c.s15]
/-! Mstatus -/
/-- A processor. -/
structure Hart where
  x : List Int
  hx : x.length = 32
  pc : Int
  mode : Int
  c : Reg
  held : Bool
  rat : Int
def xL (h : Hart) : List Value := h.x.map (.int .u64)
def tailL (h : Hart) : List Value := [.int .u64 h.pc, .int .i64 h.mode, .int .u64 h.c.s0, .int .u64 h.c.s1, .int .u64 h.c.s2, .int .u64 h.c.s3, .int .u64 h.c.s4, .int .u64 h.c.s5, .int .u64 h.c.s6, .int .u64 h.c.s7, .int .u64 h.c.s8, .int .u64 h.c.s9, .int .u64 h.c.s10, .int .u64 h.c.s11, .int .u64 h.c.s12, .int .u64 h.c.s13, .int .u64 h.c.s14, .int .u64 h.c.s15, .bool h.held, .int .u64 h.rat]
def hartL (h : Hart) : List Value := xL h ++ tailL h
def hartC (h : Hart) : Array Value := (hartL h).toArray
abbrev hartV (h : Hart) : Value := .agg (hartC h)
def xC (h : Hart) : Array Value := (xL h).toArray
theorem xL_length (h : Hart) : (xL h).length = 32 := by unfold xL; simp [h.hx]
theorem hartC_size (h : Hart) : (hartC h).size = 52 := by unfold hartC hartL; simp [xL_length, tailL]
theorem hartC_tail (h : Hart) (k : Nat) : (hartC h)[32 + k]? = (tailL h)[k]? := by
  unfold hartC hartL
  rw [List.getElem?_toArray, List.getElem?_append_right (by rw [xL_length]; omega), xL_length]
  congr 1
  omega
theorem hartC_x (h : Hart) (k : Nat) (hk : k < 32) : (hartC h)[k]? = (xL h)[k]? := by
  unfold hartC hartL
  rw [List.getElem?_toArray, List.getElem?_append_left (by rw [xL_length]; omega)]
theorem hart_one (h : Hart) : (hartC h).all (·.oneCell') = true := by
  unfold hartC hartL xL tailL
  simp [Value.oneCell']
theorem size27 : (Try.prog.info? 27).map (·.size) = some 52 := by kernel_rfl
theorem size23 : (Try.prog.info? 23).map (·.size) = some 32 := by kernel_rfl
theorem size25 : (Try.prog.info? 25).map (·.size) = some 16 := by kernel_rfl
theorem extract_get (cs : Array Value) (a n i : Nat) (hi : i < n) (hb : a + n ≤ cs.size) : (cs.extract a (a + n))[i]? = cs[a + i]? := by
  rw [Array.getElem?_extract, if_pos (by omega)]
theorem eqItems_refl (d : Nat) (e : TypeId) (c : Nat) (xs : Array Value) (w : World) : ∀ is : List Nat, (∀ i ∈ is, ∃ v, (part e xs (i * c)).run Try.prog w = .ok v w ∧ (Op.equalIn d e v v).run Try.prog w = .ok true w) → (Op.eqItems d e c xs xs is).run Try.prog w = .ok true w
  | [], _ => by simp [Op.eqItems]
  | i :: is, h => by
    obtain ⟨v, h1, h2⟩ := h i (by simp)
    have ih := eqItems_refl d e c xs w is fun j hj => h j (by simp [hj])
    simp only [Op.eqItems, Sem.run_bind, h1, h2, Result.andThen_ok]
    simpa using ih
theorem eqFields_refl (d : Nat) (xs : Array Value) (w : World) : ∀ fs : List Field, (∀ f ∈ fs, ∃ v, (part f.type xs f.offset).run Try.prog w = .ok v w ∧ (Op.equalIn d f.type v v).run Try.prog w = .ok true w) → (Op.eqFields d xs xs fs).run Try.prog w = .ok true w
  | [], _ => by simp [Op.eqFields]
  | f :: fs, h => by
    obtain ⟨v, h1, h2⟩ := h f (by simp)
    have ih := eqFields_refl d xs w fs fun j hj => h j (by simp [hj])
    simp only [Op.eqFields, Sem.run_bind, Sem.run_ite]
    split
    · simp only [h1, h2, Result.andThen_ok]
      simpa using ih
    · exact ih
theorem part_cell (t : TypeId) (d : TypeDesc) (cs : Array Value) (off : Nat) (v : Value) (w : World) (hu : Try.prog.underlying t = some d) (hd : (match d with | .struct _ | .array _ _ => true | _ => false) = false) (h : cs[off]? = some v) : (part t cs off).run Try.prog w = .ok v w := by
  have hagg : (isAgg t).run Try.prog w = .ok false w := by
    unfold isAgg
    rw [Sem.run_bind, run_underlying hu w]
    cases d <;> simp_all
  simp [part, Sem.run_bind, hagg, h]
theorem part_row (t : TypeId) (d : TypeDesc) (n : Nat) (cs : Array Value) (off : Nat) (w : World) (hu : Try.prog.underlying t = some d) (hd : (match d with | .struct _ | .array _ _ => true | _ => false) = true) (hi : (Try.prog.info? t).map (·.size) = some n) : (part t cs off).run Try.prog w = .ok (.agg (cs.extract off (off + n))) w := by
  have hagg : (isAgg t).run Try.prog w = .ok true w := by
    unfold isAgg
    rw [Sem.run_bind, run_underlying hu w]
    cases d <;> simp_all
  cases hq : Try.prog.info? t with
  | none => simp [hq] at hi
  | some i =>
    have hs : i.size = n := by simpa [hq] using hi
    simp [part, Sem.run_bind, hagg, sizeOf, typeInfo, hq, hs]
theorem eq_int (d : Nat) (t : TypeId) (k : IntKind) (a : Int) (w : World) (h : Try.prog.underlying t = some (.int k)) : (Op.equalIn (d + 1) t (.int k a) (.int k a)).run Try.prog w = .ok true w := by
  rw [run_equalIn_int w d t k k a a h]
  simp
theorem fields25 : (Try.prog.fieldsOf 25).toList.map (fun f => (f.type, f.offset)) = (List.range 16).map (fun i => (22, i)) := by kernel_rfl
theorem fields27 : (Try.prog.fieldsOf 27).toList.map (fun f => (f.type, f.offset)) = [(23, 0), (22, 32), (3, 33), (25, 34), (4, 50), (22, 51)] := by kernel_rfl
theorem info22 : ∃ i, Try.prog.info? 22 = some i := by
  cases h : Try.prog.info? 22 with
  | none => have := size22; rw [h] at this; cases this
  | some i => exact ⟨i, rfl⟩
theorem cellsOf22 : Try.prog.cellsOf 22 = 1 := by kernel_rfl
theorem eq_row (d : Nat) (cs : Array Value) (w : World) (h : ∀ i, i < 32 → ∃ a, cs[i]? = some (.int .u64 a)) : (Op.equalIn (d + 2) 23 (.agg cs) (.agg cs)).run Try.prog w = .ok true w := by
  obtain ⟨i, hi⟩ := info22
  rw [run_equalIn_array w (d + 1) cs cs Try.underlying23 hi]
  refine eqItems_refl _ _ _ _ _ _ fun j hj => ?_
  obtain ⟨a, ha⟩ := h j (by simpa using hj)
  rw [cellsOf22, Nat.mul_one]
  exact ⟨_, part_cell 22 _ cs j _ w Try.underlying22 rfl ha, eq_int d 22 .u64 a w Try.underlying22⟩
theorem eq_regs (d : Nat) (cs : Array Value) (w : World) (h : ∀ i, i < 16 → ∃ a, cs[i]? = some (.int .u64 a)) : (Op.equalIn (d + 2) 25 (.agg cs) (.agg cs)).run Try.prog w = .ok true w := by
  rw [run_equalIn_struct w (d + 1) 25 cs cs (by kernel_rfl) (by kernel_rfl)]
  refine eqFields_refl _ _ _ _ fun f hf => ?_
  have hm : (f.type, f.offset) ∈ (Try.prog.fieldsOf 25).toList.map (fun f => (f.type, f.offset)) := List.mem_map_of_mem hf
  rw [fields25] at hm
  obtain ⟨j, hj, e⟩ := List.mem_map.1 hm
  obtain ⟨e1, e2⟩ := Prod.mk.inj e
  rw [← e1, ← e2]
  obtain ⟨a, ha⟩ := h j (by simpa using hj)
  exact ⟨_, part_cell 22 _ cs j _ w Try.underlying22 rfl ha, eq_int d 22 .u64 a w Try.underlying22⟩
theorem xC_cell (h : Hart) (i : Nat) (hi : i < 32) : ∃ a, (xC h)[i]? = some (.int .u64 a) := by
  unfold xC xL
  have hl : i < h.x.length := by rw [h.hx]; exact hi
  refine ⟨h.x[i], ?_⟩
  rw [List.getElem?_toArray, List.getElem?_map, List.getElem?_eq_getElem hl]
  rfl
theorem eq_x (h : Hart) (w : World) : (Op.equalIn 10000 23 (.agg (xC h)) (.agg (xC h))).run Try.prog w = .ok true w := eq_row 9998 (xC h) w (xC_cell h)
theorem eq_hart (h : Hart) (w : World) : (Op.equalIn 10000 27 (.agg (hartC h)) (.agg (hartC h))).run Try.prog w = .ok true w := by
  rw [run_equalIn_struct w 9999 27 (hartC h) (hartC h) (by kernel_rfl) (by kernel_rfl)]
  refine eqFields_refl _ _ _ _ fun f hf => ?_
  have hm : (f.type, f.offset) ∈ (Try.prog.fieldsOf 27).toList.map (fun f => (f.type, f.offset)) := List.mem_map_of_mem hf
  rw [fields27] at hm
  simp only [List.mem_cons, List.not_mem_nil, or_false, Prod.mk.injEq] at hm
  rcases hm with ⟨e1, e2⟩ | ⟨e1, e2⟩ | ⟨e1, e2⟩ | ⟨e1, e2⟩ | ⟨e1, e2⟩ | ⟨e1, e2⟩
  all_goals rw [e1, e2]
  · refine ⟨_, part_row 23 _ 32 (hartC h) 0 w Try.underlying23 rfl size23, eq_row 9997 _ w fun i hi => ?_⟩
    rw [extract_get _ 0 32 i hi (by rw [hartC_size]; omega), Nat.zero_add, hartC_x h i hi]
    have := xC_cell h i hi
    unfold xC at this
    simpa using this
  · exact ⟨_, part_cell 22 _ _ 32 _ w Try.underlying22 rfl (hartC_tail h 0), eq_int 9998 22 .u64 _ w Try.underlying22⟩
  · exact ⟨_, part_cell 3 _ _ 33 _ w Try.underlying3 rfl (hartC_tail h 1), eq_int 9998 3 .i64 _ w Try.underlying3⟩
  · refine ⟨_, part_row 25 _ 16 (hartC h) 34 w Try.underlying25 rfl size25, eq_regs 9997 _ w fun i hi => ?_⟩
    rw [extract_get _ 34 16 i hi (by rw [hartC_size]; omega), show 34 + i = 32 + (2 + i) from by omega, hartC_tail]
    match i, hi with
    | 0, _ => exact ⟨_, rfl⟩
    | 1, _ => exact ⟨_, rfl⟩
    | 2, _ => exact ⟨_, rfl⟩
    | 3, _ => exact ⟨_, rfl⟩
    | 4, _ => exact ⟨_, rfl⟩
    | 5, _ => exact ⟨_, rfl⟩
    | 6, _ => exact ⟨_, rfl⟩
    | 7, _ => exact ⟨_, rfl⟩
    | 8, _ => exact ⟨_, rfl⟩
    | 9, _ => exact ⟨_, rfl⟩
    | 10, _ => exact ⟨_, rfl⟩
    | 11, _ => exact ⟨_, rfl⟩
    | 12, _ => exact ⟨_, rfl⟩
    | 13, _ => exact ⟨_, rfl⟩
    | 14, _ => exact ⟨_, rfl⟩
    | 15, _ => exact ⟨_, rfl⟩
    | i + 16, hi => omega
  · exact ⟨_, part_cell 4 _ _ 50 _ w Try.underlying4 rfl (hartC_tail h 18), by rw [run_equalIn_bool' w 9998 4 _ _ Try.underlying4]; simp⟩
  · exact ⟨_, part_cell 22 _ _ 51 _ w Try.underlying22 rfl (hartC_tail h 19), eq_int 9998 22 .u64 _ w Try.underlying22⟩
end Go.Proofs.Ytgflnfmnjlmenaa
namespace Go
theorem run_store_part {P : Program} (w : World) (g k : Nat) (t ty : TypeId) (cs cs' part : Array Value) (hg : w.heap[g]? = some (.cells cs t (0, 0))) (hi : (P.info? ty).map (·.size) = some part.size) (h1 : part.all (·.oneCell') = true)
    (hf : k + part.size ≤ cs.size) (he : cs'.toList = cs.toList.take k ++ part.toList ++ cs.toList.drop (k + part.size)) :
    (Instr.storeAt ty (.pointer (some ⟨g, k, none⟩)) (.agg part)).run P w = .ok () (w.setRow g cs') := by
  have hs := run_storeCells_at (P := P) g k t part.toList 0 cs w hg (by simpa using hf) (fun v hv => (Array.all_eq_true_iff_forall_mem.1 h1) v (by simpa using hv))
  have e : (cs.toList.take (k + 0) ++ part.toList ++ cs.toList.drop (k + 0 + part.toList.length)).toArray = cs' := by
    rw [Nat.add_zero, Array.length_toList, ← he]
  rw [e] at hs
  cases hq : P.info? ty with
  | none => simp [hq] at hi
  | some i =>
    have hz : part.size = i.size := by simp [hq] at hi; omega
    simp [Instr.storeAt, Instr.sureAddr, storeVar, sizeOf, typeInfo, hq, Value.cells, hz, hs, Sem.run_bind, Result.andThen]
theorem take_mid {α : Type} (a b c d : List α) (k n : Nat) (h1 : a.length = k) (h2 : b.length = n) : a ++ (d ++ c) = (a ++ (b ++ c)).take k ++ d ++ (a ++ (b ++ c)).drop (k + n) := by
  subst h1
  rw [List.take_left, ← h2, ← List.drop_drop, List.drop_left, List.drop_left, List.append_assoc]
end Go
namespace Go.Proofs.Ytgflnfmnjlmenaa
open Go.RowKit Go.Deep Go.Joins
/-- A record: its number, its device, its bytes. -/
abbrev Rec := Int × Int × ByteArray
def rcL (r : Rec) : List Value := [.int .u64 r.1, .int .i64 r.2.1, .string r.2.2]
def oC (O : List Rec) : List Value := (O.map rcL).flatten
theorem oC_length (O : List Rec) : (oC O).length = O.length * 3 := by
  unfold oC
  induction O with
  | nil => rfl
  | cons r O ih => simp only [List.map_cons, List.flatten_cons, List.length_append, ih, List.length_cons, rcL, List.length_nil]; omega
theorem oC_append (O P : List Rec) : oC (O ++ P) = oC O ++ oC P := by unfold oC; simp
theorem oC_one (O : List Rec) : ∀ v ∈ oC O, v.oneCell' = true := fun v hv => by
  unfold oC at hv
  obtain ⟨l, hl, hm⟩ := List.mem_flatten.1 hv
  obtain ⟨r, _, rfl⟩ := List.mem_map.1 hl
  simp only [rcL, List.mem_cons, List.not_mem_nil, or_false] at hm
  rcases hm with rfl | rfl | rfl <;> rfl
theorem oC_get (O : List Rec) : ∀ (k : Nat) (hk : k < O.length) (j : Nat), j < 3 → (oC O)[3 * k + j]? = (rcL O[k])[j]? := by
  induction O with
  | nil => intro k hk; cases hk
  | cons r O ih =>
    intro k hk j hj
    have e : oC (r :: O) = rcL r ++ oC O := by unfold oC; simp
    rw [e]
    cases k with
    | zero =>
      rw [List.getElem?_append_left (by simp [rcL]; omega)]
      simp
    | succ k =>
      rw [List.getElem?_append_right (by simp [rcL]; omega)]
      rw [show 3 * (k + 1) + j - (rcL r).length = 3 * k + j by simp [rcL]; omega, ih k (by simpa using hk) j hj]
      simp
/-- A machine in memory. -/
structure Mc where
  h : Hart
  b : Bd
  dv : Value
  mv : Value
  E : Int
  cnt : Int
  nxt : Int
  ov : Value
def mcT (m : Mc) : List Value := [m.dv, m.mv, .int .u64 m.E, .int .u64 m.cnt, .int .u64 m.nxt, m.ov]
def mcL (m : Mc) : List Value := hartL m.h ++ ((bdC m.b).toList ++ mcT m)
def mcC (m : Mc) : Array Value := (mcL m).toArray
abbrev mcV (m : Mc) : Value := .agg (mcC m)
abbrev mcO (m : Mc) : Obj := .cells (mcC m) 42
theorem hartL_length (h : Hart) : (hartL h).length = 52 := by have := hartC_size h; unfold hartC at this; simpa using this
theorem bdC_length (b : Bd) : (bdC b).toList.length = 21 := by rw [Array.length_toList, bdC_size]
theorem mcC_size (m : Mc) : (mcC m).size = 79 := by unfold mcC mcL mcT; simp [hartL_length, bdC_size]
theorem mcC_h (m : Mc) (k : Nat) (hk : k < 52) : (mcC m)[k]? = (hartC m.h)[k]? := by
  unfold mcC mcL hartC
  rw [List.getElem?_toArray, List.getElem?_append_left (by rw [hartL_length]; exact hk), List.getElem?_toArray]
theorem mcC_b (m : Mc) (k : Nat) (hk : k < 21) : (mcC m)[52 + k]? = (bdC m.b)[k]? := by
  unfold mcC mcL
  rw [List.getElem?_toArray, List.getElem?_append_right (by rw [hartL_length]; omega), hartL_length, show 52 + k - 52 = k by omega, List.getElem?_append_left (by rw [bdC_length]; exact hk), Array.getElem?_toList]
theorem mcC_t (m : Mc) (k : Nat) : (mcC m)[73 + k]? = (mcT m)[k]? := by
  unfold mcC mcL
  rw [List.getElem?_toArray, List.getElem?_append_right (by rw [hartL_length]; omega), hartL_length, List.getElem?_append_right (by rw [bdC_length]; omega), bdC_length]
  congr 1
  omega
theorem size40 : (Try.prog.info? 40).map (·.size) = some 1 := by kernel_rfl
theorem size42 : (Try.prog.info? 42).map (·.size) = some 79 := by kernel_rfl
theorem one_t {v : Value} {w : World} {B n e : Nat} {xs : List Value} {sz : Nat} (h : w.ownsRow B e sz v n xs) : v.oneCell' = true := by
  obtain ⟨p, c, rfl⟩ := owns_shape h
  rfl
/-- All of a machine's cells are of one cell each. -/
structure Mc1 (m : Mc) : Prop where
  dd : m.dv.oneCell' = true
  mm : m.mv.oneCell' = true
  oo : m.ov.oneCell' = true
theorem mc_one (m : Mc) (h : Mc1 m) : (mcC m).all (·.oneCell') = true := by
  have h1 := hart_one m.h
  have h2 := bd_one m.b
  rw [Array.all_eq_true_iff_forall_mem] at h1 h2 ⊢
  intro v hv
  unfold mcC mcL at hv
  rw [List.mem_toArray, List.mem_append, List.mem_append] at hv
  rcases hv with hv | hv | hv
  · exact h1 v (by unfold hartC; simpa using hv)
  · exact h2 v (by simpa using hv)
  · simp only [mcT, List.mem_cons, List.not_mem_nil, or_false] at hv
    rcases hv with rfl | rfl | rfl | rfl | rfl | rfl
    · exact h.dd
    · exact h.mm
    · rfl
    · rfl
    · rfl
    · exact h.oo
def MBox (w : World) (g : Nat) (m : Mc) : Prop := w.heap[g]? = some (mcO m)
theorem MBox.lt {w : World} {g : Nat} {m : Mc} (k : MBox w g m) : g < w.heap.size := (Array.getElem?_eq_some_iff.1 k).1
theorem MBox.next {w w' : World} {g : Nat} {m : Mc} (k : MBox w g m) (j : Below w.heap.size w w') : MBox w' g m := (j.block g k.lt).trans k
theorem MBox.new (w : World) (m : Mc) : MBox (w.alloc (mcO m)) w.heap.size m := heap_alloc_last w _
theorem MBox.over {w : World} {g h : Nat} {m : Mc} (k : MBox w g m) (hg : g ≠ h) (cs : Array Value) : MBox (w.setRow h cs) g m := (setRow_other w h g cs hg).trans k
theorem MBox.mine {w : World} {g : Nat} {old : Array Value} (k : w.heap[g]? = some (.cells old 42 (0, 0))) (m : Mc) : MBox (w.setRow g (mcC m)) g m := setRow_heap w g old (mcC m) 42 (0, 0) k
theorem MBox.put {w w' : World} {g : Nat} {m m' : Mc} (k : MBox w g m) (h : w' = w.setRow g (mcC m')) : MBox w' g m' := by subst h; exact MBox.mine k m'
theorem MBox.touch {w w' : World} {g : Nat} {m : Mc} {S : Nat → Prop} (k : MBox w g m) (j : Touch w w' S) (hS : ¬ S g) : MBox w' g m := (j.block g k.lt hS).trans k
theorem MBox.load {w : World} {g : Nat} {m : Mc} (k : MBox w g m) : (Instr.loadAt 42 (.pointer (some ⟨g, 0, none⟩))).run Try.prog w = .ok (mcV m) w := by
  simp only [Instr.loadAt, Instr.sureAddr, Sem.run_bind, Sem.run_pure, Result.andThen]
  exact run_loadVar_row w g 42 42 (mcC m) (0, 0) _ k Try.underlying42 rfl (by rw [size42, mcC_size])
theorem MBox.result {w : World} {g : Nat} {m : Mc} (k : MBox w g m) : (loadVar 42 ⟨g, 0, none⟩).run Try.prog w = .ok (mcV m) w :=
  run_loadVar_row w g 42 42 (mcC m) (0, 0) _ k Try.underlying42 rfl (by rw [size42, mcC_size])
theorem MBox.store {w : World} {g : Nat} {old : Array Value} (m : Mc) (h1 : Mc1 m) (k : w.heap[g]? = some (.cells old 42 (0, 0))) (ho : old.size = 79) : (Instr.storeAt 42 (.pointer (some ⟨g, 0, none⟩)) (mcV m)).run Try.prog w = .ok () (w.setRow g (mcC m)) := by
  simp only [Instr.storeAt, Instr.sureAddr, Sem.run_bind, Sem.run_pure, Result.andThen]
  exact run_storeVar_row w g 42 42 old (mcC m) k (by rw [size42, mcC_size]) (by rw [ho, mcC_size]) (mc_one m h1)
theorem MBox.load_hart {w : World} {g : Nat} {m : Mc} (k : MBox w g m) : (Instr.loadAt 27 (.pointer (some ⟨g, 0, none⟩))).run Try.prog w = .ok (hartV m.h) w :=
  run_load_rowAt w g 0 42 27 (mcC m) (hartL m.h) _ k Try.underlying27 rfl (by rw [size27, hartL_length]) fun j v hv => by
    rw [Nat.zero_add, mcC_h m j (by have := (List.getElem?_eq_some_iff.1 hv).1; rwa [hartL_length] at this)]
    unfold hartC
    rwa [List.getElem?_toArray]
theorem MBox.load_b {w : World} {g : Nat} {m : Mc} (k : MBox w g m) : (Instr.loadAt 35 (.pointer (some ⟨g, 52, none⟩))).run Try.prog w = .ok (bdV m.b) w :=
  (run_load_rowAt w g 52 42 35 (mcC m) (bdC m.b).toList _ k Try.underlying35 rfl (by rw [size35, bdC_length]) fun j v hv => by
    rw [mcC_b m j (by have := (List.getElem?_eq_some_iff.1 hv).1; rwa [bdC_length] at this)]
    rwa [Array.getElem?_toList] at hv)
theorem MBox.load_pl {w : World} {g : Nat} {m : Mc} (k : MBox w g m) : (Instr.loadAt 33 (.pointer (some ⟨g, 64, none⟩))).run Try.prog w = .ok (.agg (plC m.b.pl)) w :=
  (run_load_rowAt w g 64 42 33 (mcC m) (plL m.b.pl) _ k Try.underlying33 rfl (by rw [size33]; rfl) fun j v hv => by
    have hj : j < 9 := by have := (List.getElem?_eq_some_iff.1 hv).1; simpa [plL] using this
    rw [show 64 + j = 52 + (12 + j) by omega, mcC_b m (12 + j) (by omega), bdC_tail]
    exact hv)
theorem MBox.load_ram {w : World} {g : Nat} {m : Mc} (k : MBox w g m) : (Instr.loadAt 39 (.pointer (some ⟨g, 73, none⟩))).run Try.prog w = .ok (.agg #[m.dv, m.mv, .int .u64 m.E]) w :=
  (run_load_rowAt w g 73 42 39 (mcC m) [m.dv, m.mv, .int .u64 m.E] _ k Try.underlying39 rfl (by kernel_rfl) fun j v hv => by
    rw [mcC_t]
    match j, hv with
    | 0, hv => exact hv
    | 1, hv => exact hv
    | 2, hv => exact hv
    | j + 3, hv => simp at hv)
theorem MBox.cell_t {w : World} {g : Nat} {m : Mc} (k : MBox w g m) (j : Nat) : w.cell? ⟨g, 73 + j, none⟩ = (mcT m)[j]? := (cell_of_row w g (73 + j) (mcC m) 42 (0, 0) k).trans (mcC_t m j)
theorem MBox.load_cnt {w : World} {g : Nat} {m : Mc} (k : MBox w g m) : (Instr.loadAt 22 (.pointer (some ⟨g, 76, none⟩))).run Try.prog w = .ok (.int .u64 m.cnt) w :=
  run_load_cell w g 76 22 42 (mcC m) _ _ k Try.underlying22 rfl (mcC_t m 3)
theorem MBox.load_nxt {w : World} {g : Nat} {m : Mc} (k : MBox w g m) : (Instr.loadAt 22 (.pointer (some ⟨g, 77, none⟩))).run Try.prog w = .ok (.int .u64 m.nxt) w :=
  run_load_cell w g 77 22 42 (mcC m) _ _ k Try.underlying22 rfl (mcC_t m 4)
theorem MBox.load_o {w : World} {g : Nat} {m : Mc} (k : MBox w g m) : (Instr.loadAt 40 (.pointer (some ⟨g, 78, none⟩))).run Try.prog w = .ok m.ov w :=
  run_load_cell w g 78 40 42 (mcC m) _ _ k Try.underlying40 rfl (mcC_t m 5)
theorem MBox.load_fr {w : World} {g : Nat} {m : Mc} (k : MBox w g m) : (Instr.loadAt 28 (.pointer (some ⟨g, 61, none⟩))).run Try.prog w = .ok (.slice m.b.fp m.b.fn m.b.fc) w :=
  run_load_cell w g 61 28 42 (mcC m) _ _ k Try.underlying28 rfl ((mcC_b m 9 (by omega)).trans (bdC_head m.b 9 (by omega)))
theorem MBox.store_b {w : World} {g : Nat} {m : Mc} (k : MBox w g m) (b : Bd) : (Instr.storeAt 35 (.pointer (some ⟨g, 52, none⟩)) (bdV b)).run Try.prog w = .ok () (w.setRow g (mcC { m with b := b })) :=
  run_store_part w g 52 42 35 (mcC m) (mcC { m with b := b }) (bdC b) k (by rw [size35, bdC_size]) (bd_one b) (by rw [bdC_size, mcC_size]; omega)
    (by show mcL _ = (mcL m).take 52 ++ _ ++ (mcL m).drop _; rw [bdC_size]; exact take_mid (hartL m.h) (bdC m.b).toList (mcT m) (bdC b).toList 52 21 (hartL_length _) (bdC_length _))
theorem bdC_parts (b : Bd) : (bdC b).toList = bdL b ++ plL b.pl := by unfold bdC; simp
theorem mcL_pl (m : Mc) : mcL m = (hartL m.h ++ bdL m.b) ++ (plL m.b.pl ++ mcT m) := by unfold mcL; rw [bdC_parts]; simp only [List.append_assoc]
theorem MBox.store_pl {w : World} {g : Nat} {m : Mc} (k : MBox w g m) (p : Pl) : (Instr.storeAt 33 (.pointer (some ⟨g, 64, none⟩)) (.agg (plC p))).run Try.prog w = .ok () (w.setRow g (mcC { m with b := { m.b with pl := p } })) :=
  run_store_part w g 64 42 33 (mcC m) (mcC { m with b := { m.b with pl := p } }) (plC p) k (by rw [size33]; rfl) (Pc.pl_one p) (by rw [mcC_size]; show 64 + 9 ≤ 79; omega)
    (by
      show mcL { m with b := { m.b with pl := p } } = (mcL m).take 64 ++ _ ++ (mcL m).drop (64 + 9)
      rw [mcL_pl m, mcL_pl { m with b := { m.b with pl := p } }]
      exact take_mid (hartL m.h ++ bdL m.b) (plL m.b.pl) (mcT m) (plL p) 64 9 (by rw [List.length_append, hartL_length]; rfl) rfl)
theorem mc_set (m m' : Mc) (k : Nat) (v : Value) (hh : m'.h = m.h) (hb : m'.b = m.b) (ht : mcT m' = (mcT m).set k v) : (mcC m).setIfInBounds (73 + k) v = mcC m' := by
  unfold mcC mcL
  rw [List.setIfInBounds_toArray, List.set_append_right _ _ (by rw [hartL_length]; omega), List.set_append_right _ _ (by rw [hartL_length, bdC_length]; omega), hartL_length, bdC_length, show 73 + k - 52 - 21 = k by omega, ← ht, hh, hb]
theorem MBox.store_nxt {w : World} {g : Nat} {m : Mc} (k : MBox w g m) (n : Int) : (Instr.storeAt 22 (.pointer (some ⟨g, 77, none⟩)) (.int .u64 n)).run Try.prog w = .ok () (w.setRow g (mcC { m with nxt := n })) :=
  (run_store_cell w g 77 22 42 (mcC m) _ k size22 (by rw [mcC_size]; omega) rfl rfl).trans (by rw [mc_set m { m with nxt := n } 4 _ rfl rfl rfl])
theorem MBox.store_o {w : World} {g : Nat} {m : Mc} (k : MBox w g m) (p : Option Addr) (n c : Nat) : (Instr.storeAt 40 (.pointer (some ⟨g, 78, none⟩)) (.slice p n c)).run Try.prog w = .ok () (w.setRow g (mcC { m with ov := .slice p n c })) :=
  (run_store_cell w g 78 40 42 (mcC m) _ k size40 (by rw [mcC_size]; omega) rfl rfl).trans (by rw [mc_set m { m with ov := .slice p n c } 5 _ rfl rfl rfl])
theorem MBox.store_ram {w : World} {g : Nat} {m : Mc} (k : MBox w g m) (p q : Option Addr) (n c l d : Nat) (E : Int) : (Instr.storeAt 39 (.pointer (some ⟨g, 73, none⟩)) (.agg #[.slice p n c, .slice q l d, .int .u64 E])).run Try.prog w = .ok () (w.setRow g (mcC { m with dv := .slice p n c, mv := .slice q l d, E := E })) :=
  run_store_part w g 73 42 39 (mcC m) (mcC { m with dv := .slice p n c, mv := .slice q l d, E := E }) #[.slice p n c, .slice q l d, .int .u64 E] k (by kernel_rfl) (by simp [Value.oneCell']) (by rw [mcC_size]; show 73 + 3 ≤ 79; omega)
    (by
      show mcL { m with dv := .slice p n c, mv := .slice q l d, E := E } = (mcL m).take 73 ++ _ ++ (mcL m).drop (73 + 3)
      unfold mcL
      rw [← List.append_assoc, ← List.append_assoc]
      exact take_mid (hartL m.h ++ (bdC m.b).toList) [m.dv, m.mv, .int .u64 m.E] [.int .u64 m.cnt, .int .u64 m.nxt, m.ov] [.slice p n c, .slice q l d, .int .u64 E] 73 3 (by rw [List.length_append, hartL_length, bdC_length]) rfl)
end Go.Proofs.Ytgflnfmnjlmenaa
