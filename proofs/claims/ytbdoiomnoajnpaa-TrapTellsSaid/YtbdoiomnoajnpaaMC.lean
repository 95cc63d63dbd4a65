/- A processor is like itself. -/
import Derived.Test.YtbdoiomnoajnpaaS
import Derived.ChangeKeysEq
import Derived.Laws.StructEq
namespace Go.Proofs.Ytbdoiomnoajnpaa
open Go.RowKit Go.Deep Go.Joins
theorem extract_get (cs : Array Value) (a n i : Nat) (hi : i < n) (hb : a + n ≤ cs.size) : (cs.extract a (a + n))[i]? = cs[a + i]? := by
  rw [Array.getElem?_extract, if_pos (by omega)]
theorem eqItems_refl (d : Nat) (e : TypeId) (c : Nat) (xs : Array Value) (w : World) : ∀ is : List Nat, (∀ i ∈ is, ∃ v, (part e xs (i * c)).run Try.prog w = .ok v w ∧ (Op.equalIn d e v v).run Try.prog w = .ok true w) → (Op.eqItems d e c xs xs is).run Try.prog w = .ok true w
  | [], _ => by simp [Op.eqItems]
  | i :: is, h => by
    obtain ⟨v, h1, h2⟩ := h i (by simp)
    have ih := eqItems_refl d e c xs w is fun j hj => h j (by simp [hj])
    simp only [Op.eqItems, Sem.run_bind, h1, h2, Result.andThen_ok]
    simpa using ih
theorem eqFields_refl (d : Nat) (xs : Array Value) (w : World) : ∀ fs : List Field, (∀ f ∈ fs, ∃ v, (part f.type xs f.offset).run Try.prog w = .ok v w ∧ (Op.equalIn d f.type v v).run Try.prog w = .ok true w) → (Op.eqFields d xs xs fs).run Try.prog w = .ok true w
  | [], _ => by simp [Op.eqFields]
  | f :: fs, h => by
    obtain ⟨v, h1, h2⟩ := h f (by simp)
    have ih := eqFields_refl d xs w fs fun j hj => h j (by simp [hj])
    simp only [Op.eqFields, Sem.run_bind, Sem.run_ite]
    split
    · simp only [h1, h2, Result.andThen_ok]
      simpa using ih
    · exact ih
theorem part_cell (t : TypeId) (d : TypeDesc) (cs : Array Value) (off : Nat) (v : Value) (w : World) (hu : Try.prog.underlying t = some d) (hd : (match d with | .struct _ | .array _ _ => true | _ => false) = false) (h : cs[off]? = some v) : (part t cs off).run Try.prog w = .ok v w := by
  have hagg : (isAgg t).run Try.prog w = .ok false w := by
    unfold isAgg
    rw [Sem.run_bind, run_underlying hu w]
    cases d <;> simp_all
  simp [part, Sem.run_bind, hagg, h]
theorem part_row (t : TypeId) (d : TypeDesc) (n : Nat) (cs : Array Value) (off : Nat) (w : World) (hu : Try.prog.underlying t = some d) (hd : (match d with | .struct _ | .array _ _ => true | _ => false) = true) (hi : (Try.prog.info? t).map (·.size) = some n) : (part t cs off).run Try.prog w = .ok (.agg (cs.extract off (off + n))) w := by
  have hagg : (isAgg t).run Try.prog w = .ok true w := by
    unfold isAgg
    rw [Sem.run_bind, run_underlying hu w]
    cases d <;> simp_all
  cases hq : Try.prog.info? t with
  | none => simp [hq] at hi
  | some i =>
    have hs : i.size = n := by simpa [hq] using hi
    simp [part, Sem.run_bind, hagg, sizeOf, typeInfo, hq, hs]
theorem eq_int (d : Nat) (t : TypeId) (k : IntKind) (a : Int) (w : World) (h : Try.prog.underlying t = some (.int k)) : (Op.equalIn (d + 1) t (.int k a) (.int k a)).run Try.prog w = .ok true w := by
  rw [run_equalIn_int w d t k k a a h]
  simp
theorem fields25 : (Try.prog.fieldsOf 25).toList.map (fun f => (f.type, f.offset)) = (List.range 16).map (fun i => (22, i)) := by kernel_rfl
theorem fields27 : (Try.prog.fieldsOf 27).toList.map (fun f => (f.type, f.offset)) = [(23, 0), (22, 32), (3, 33), (25, 34), (4, 50), (22, 51)] := by kernel_rfl
theorem info22 : ∃ i, Try.prog.info? 22 = some i := by
  cases h : Try.prog.info? 22 with
  | none => have := size22; rw [h] at this; cases this
  | some i => exact ⟨i, rfl⟩
theorem cellsOf22 : Try.prog.cellsOf 22 = 1 := by kernel_rfl
theorem eq_row (d : Nat) (cs : Array Value) (w : World) (h : ∀ i, i < 32 → ∃ a, cs[i]? = some (.int .u64 a)) : (Op.equalIn (d + 2) 23 (.agg cs) (.agg cs)).run Try.prog w = .ok true w := by
  obtain ⟨i, hi⟩ := info22
  rw [run_equalIn_array w (d + 1) cs cs Try.underlying23 hi]
  refine eqItems_refl _ _ _ _ _ _ fun j hj => ?_
  obtain ⟨a, ha⟩ := h j (by simpa using hj)
  rw [cellsOf22, Nat.mul_one]
  exact ⟨_, part_cell 22 _ cs j _ w Try.underlying22 rfl ha, eq_int d 22 .u64 a w Try.underlying22⟩
theorem eq_regs (d : Nat) (cs : Array Value) (w : World) (h : ∀ i, i < 16 → ∃ a, cs[i]? = some (.int .u64 a)) : (Op.equalIn (d + 2) 25 (.agg cs) (.agg cs)).run Try.prog w = .ok true w := by
  rw [run_equalIn_struct w (d + 1) 25 cs cs (by kernel_rfl) (by kernel_rfl)]
  refine eqFields_refl _ _ _ _ fun f hf => ?_
  have hm : (f.type, f.offset) ∈ (Try.prog.fieldsOf 25).toList.map (fun f => (f.type, f.offset)) := List.mem_map_of_mem hf
  rw [fields25] at hm
  obtain ⟨j, hj, e⟩ := List.mem_map.1 hm
  obtain ⟨e1, e2⟩ := Prod.mk.inj e
  rw [← e1, ← e2]
  obtain ⟨a, ha⟩ := h j (by simpa using hj)
  exact ⟨_, part_cell 22 _ cs j _ w Try.underlying22 rfl ha, eq_int d 22 .u64 a w Try.underlying22⟩
theorem xC_cell (h : Hart) (i : Nat) (hi : i < 32) : ∃ a, (xC h)[i]? = some (.int .u64 a) := by
  unfold xC xL
  have hl : i < h.x.length := by rw [h.hx]; exact hi
  refine ⟨h.x[i], ?_⟩
  rw [List.getElem?_toArray, List.getElem?_map, List.getElem?_eq_getElem hl]
  rfl
theorem eq_x (h : Hart) (w : World) : (Op.equalIn 10000 23 (.agg (xC h)) (.agg (xC h))).run Try.prog w = .ok true w := eq_row 9998 (xC h) w (xC_cell h)
theorem eq_hart (h : Hart) (w : World) : (Op.equalIn 10000 27 (.agg (hartC h)) (.agg (hartC h))).run Try.prog w = .ok true w := by
  rw [run_equalIn_struct w 9999 27 (hartC h) (hartC h) (by kernel_rfl) (by kernel_rfl)]
  refine eqFields_refl _ _ _ _ fun f hf => ?_
  have hm : (f.type, f.offset) ∈ (Try.prog.fieldsOf 27).toList.map (fun f => (f.type, f.offset)) := List.mem_map_of_mem hf
  rw [fields27] at hm
  simp only [List.mem_cons, List.not_mem_nil, or_false, Prod.mk.injEq] at hm
  rcases hm with ⟨e1, e2⟩ | ⟨e1, e2⟩ | ⟨e1, e2⟩ | ⟨e1, e2⟩ | ⟨e1, e2⟩ | ⟨e1, e2⟩
  all_goals rw [e1, e2]
  · refine ⟨_, part_row 23 _ 32 (hartC h) 0 w Try.underlying23 rfl size23, eq_row 9997 _ w fun i hi => ?_⟩
    rw [extract_get _ 0 32 i hi (by rw [hartC_size]; omega), Nat.zero_add, hartC_x h i hi]
    have := xC_cell h i hi
    unfold xC at this
    simpa using this
  · exact ⟨_, part_cell 22 _ _ 32 _ w Try.underlying22 rfl (hartC_tail h 0), eq_int 9998 22 .u64 _ w Try.underlying22⟩
  · exact ⟨_, part_cell 3 _ _ 33 _ w Try.underlying3 rfl (hartC_tail h 1), eq_int 9998 3 .i64 _ w Try.underlying3⟩
  · refine ⟨_, part_row 25 _ 16 (hartC h) 34 w Try.underlying25 rfl size25, eq_regs 9997 _ w fun i hi => ?_⟩
    rw [extract_get _ 34 16 i hi (by rw [hartC_size]; omega), show 34 + i = 32 + (2 + i) from by omega, hartC_tail]
    match i, hi with
    | 0, _ => exact ⟨_, rfl⟩
    | 1, _ => exact ⟨_, rfl⟩
    | 2, _ => exact ⟨_, rfl⟩
    | 3, _ => exact ⟨_, rfl⟩
    | 4, _ => exact ⟨_, rfl⟩
    | 5, _ => exact ⟨_, rfl⟩
    | 6, _ => exact ⟨_, rfl⟩
    | 7, _ => exact ⟨_, rfl⟩
    | 8, _ => exact ⟨_, rfl⟩
    | 9, _ => exact ⟨_, rfl⟩
    | 10, _ => exact ⟨_, rfl⟩
    | 11, _ => exact ⟨_, rfl⟩
    | 12, _ => exact ⟨_, rfl⟩
    | 13, _ => exact ⟨_, rfl⟩
    | 14, _ => exact ⟨_, rfl⟩
    | 15, _ => exact ⟨_, rfl⟩
    | i + 16, hi => omega
  · exact ⟨_, part_cell 4 _ _ 50 _ w Try.underlying4 rfl (hartC_tail h 18), by rw [run_equalIn_bool' w 9998 4 _ _ Try.underlying4]; simp⟩
  · exact ⟨_, part_cell 22 _ _ 51 _ w Try.underlying22 rfl (hartC_tail h 19), eq_int 9998 22 .u64 _ w Try.underlying22⟩

end Go.Proofs.Ytbdoiomnoajnpaa
