/- Equal to itself. -/
import Derived.Test.YtnedhjaphfjdmaaBU
namespace Go.Proofs.Ytnedhjaphfjdmaa
open Go.RowKit Go.Deep Go.Joins
theorem fields33 : (Try.prog.fieldsOf 33).toList.map (fun f => (f.type, f.offset)) = [(30, 0), (31, 4), (31, 6), (29, 8)] := by kernel_rfl
theorem fields62 : (Try.prog.fieldsOf 62).toList.map (fun f => (f.type, f.offset)) = [(22, 0), (3, 1), (9, 2)] := by kernel_rfl
theorem size30 : (Try.prog.info? 30).map (·.size) = some 4 := by kernel_rfl
theorem size31 : (Try.prog.info? 31).map (·.size) = some 2 := by kernel_rfl
theorem cellsOf29 : Try.prog.cellsOf 29 = 1 := by kernel_rfl
theorem info29 : ∃ i, Try.prog.info? 29 = some i := by
  cases h : Try.prog.info? 29 with
  | none => have := (show (Try.prog.info? 29).map (·.size) = some 1 by kernel_rfl); rw [h] at this; cases this
  | some i => exact ⟨i, rfl⟩
theorem eq_arr (d t n : Nat) (hu : Try.prog.underlying t = some (.array n 29)) (cs : Array Value) (w : World) (h : ∀ i, i < n → ∃ a, cs[i]? = some (.int .u32 a)) : (Op.equalIn (d + 2) t (.agg cs) (.agg cs)).run Try.prog w = .ok true w := by
  obtain ⟨i, hi⟩ := info29
  rw [run_equalIn_array w (d + 1) cs cs hu hi]
  refine eqItems_refl _ _ _ _ _ _ fun j hj => ?_
  obtain ⟨a, ha⟩ := h j (by simpa using hj)
  rw [cellsOf29, Nat.mul_one]
  exact ⟨_, part_cell 29 _ cs j _ w Try.underlying29 rfl ha, eq_int d 29 .u32 a w Try.underlying29⟩
theorem plC_cell' (p : Pl) (i : Nat) (hi : i < 9) : ∃ a, (plC p)[i]? = some (.int .u32 a) := by
  match i, hi with
  | 0, _ => exact ⟨_, rfl⟩
  | 1, _ => exact ⟨_, rfl⟩
  | 2, _ => exact ⟨_, rfl⟩
  | 3, _ => exact ⟨_, rfl⟩
  | 4, _ => exact ⟨_, rfl⟩
  | 5, _ => exact ⟨_, rfl⟩
  | 6, _ => exact ⟨_, rfl⟩
  | 7, _ => exact ⟨_, rfl⟩
  | 8, _ => exact ⟨_, rfl⟩
  | i + 9, hi => omega
theorem eq_pl (p : Pl) (w : World) : (Op.equalIn 10000 33 (.agg (plC p)) (.agg (plC p))).run Try.prog w = .ok true w := by
  rw [run_equalIn_struct w 9999 33 (plC p) (plC p) (by kernel_rfl) (by kernel_rfl)]
  refine eqFields_refl _ _ _ _ fun f hf => ?_
  have hm : (f.type, f.offset) ∈ (Try.prog.fieldsOf 33).toList.map (fun f => (f.type, f.offset)) := List.mem_map_of_mem hf
  rw [fields33] at hm
  simp only [List.mem_cons, List.not_mem_nil, or_false, Prod.mk.injEq] at hm
  rcases hm with ⟨e1, e2⟩ | ⟨e1, e2⟩ | ⟨e1, e2⟩ | ⟨e1, e2⟩
  all_goals rw [e1, e2]
  · refine ⟨_, part_row 30 _ 4 (plC p) 0 w Try.underlying30 rfl size30, eq_arr 9997 30 4 Try.underlying30 _ w fun i hi => ?_⟩
    rw [extract_get _ 0 4 i hi (by show 0 + 4 ≤ 9; omega), Nat.zero_add]
    exact plC_cell' p i (by omega)
  · refine ⟨_, part_row 31 _ 2 (plC p) 4 w Try.underlying31 rfl size31, eq_arr 9997 31 2 Try.underlying31 _ w fun i hi => ?_⟩
    rw [extract_get _ 4 2 i hi (by show 4 + 2 ≤ 9; omega)]
    exact plC_cell' p _ (by omega)
  · refine ⟨_, part_row 31 _ 2 (plC p) 6 w Try.underlying31 rfl size31, eq_arr 9997 31 2 Try.underlying31 _ w fun i hi => ?_⟩
    rw [extract_get _ 6 2 i hi (by show 6 + 2 ≤ 9; omega)]
    exact plC_cell' p _ (by omega)
  · obtain ⟨a, ha⟩ := plC_cell' p 8 (by omega)
    exact ⟨_, part_cell 29 _ _ 8 _ w Try.underlying29 rfl ha, eq_int 9998 29 .u32 _ w Try.underlying29⟩
theorem eq_string (d : Nat) (t : TypeId) (s : ByteArray) (w : World) (h : Try.prog.underlying t = some .string) : (Op.equalIn (d + 1) t (.string s) (.string s)).run Try.prog w = .ok true w := by
  rw [run_equalIn_string w d t s s h]
  simp
theorem eq_rec (r : Rec) (w : World) : (Op.equalIn 10000 62 (rcV r) (rcV r)).run Try.prog w = .ok true w := by
  rw [run_equalIn_struct w 9999 62 (rcC r) (rcC r) (by kernel_rfl) (by kernel_rfl)]
  refine eqFields_refl _ _ _ _ fun f hf => ?_
  have hm : (f.type, f.offset) ∈ (Try.prog.fieldsOf 62).toList.map (fun f => (f.type, f.offset)) := List.mem_map_of_mem hf
  rw [fields62] at hm
  simp only [List.mem_cons, List.not_mem_nil, or_false, Prod.mk.injEq] at hm
  rcases hm with ⟨e1, e2⟩ | ⟨e1, e2⟩ | ⟨e1, e2⟩
  all_goals rw [e1, e2]
  · exact ⟨_, part_cell 22 _ _ 0 _ w Try.underlying22 rfl rfl, eq_int 9998 22 .u64 _ w Try.underlying22⟩
  · exact ⟨_, part_cell 3 _ _ 1 _ w Try.underlying3 rfl rfl, eq_int 9998 3 .i64 _ w Try.underlying3⟩
  · exact ⟨_, part_cell 9 _ _ 2 _ w Try.underlying9 rfl rfl, eq_string 9998 9 _ w Try.underlying9⟩
theorem exec_pl {ρ : Operand → Value} {o : Oper} {x y : Operand} {t2 : TypeId} (p : Pl) (w : World) (ho : o.op = .binOp .eql 33 x y t2) (hx : ρ x = .agg (plC p)) (hy : ρ y = .agg (plC p)) : (execOp ρ o).run Try.prog w = .ok (.value (.bool true)) w := by
  unfold execOp
  simp [ho, hx, hy, Sem.run_bind, run_eqGuard_agg, run_eql_struct, eq_pl, Result.andThen]
theorem exec_hart {ρ : Operand → Value} {o : Oper} {x y : Operand} {t2 : TypeId} (h : Hart) (w : World) (ho : o.op = .binOp .neq 27 x y t2) (hx : ρ x = hartV h) (hy : ρ y = hartV h) : (execOp ρ o).run Try.prog w = .ok (.value (.bool false)) w := by
  unfold execOp
  simp [ho, hx, hy, Sem.run_bind, run_eqGuard_agg, run_neq_struct, eq_hart, Result.andThen]
theorem exec_rec {ρ : Operand → Value} {o : Oper} {x y : Operand} {t2 : TypeId} (r : Rec) (w : World) (ho : o.op = .binOp .neq 62 x y t2) (hx : ρ x = rcV r) (hy : ρ y = rcV r) : (execOp ρ o).run Try.prog w = .ok (.value (.bool false)) w := by
  unfold execOp
  simp [ho, hx, hy, Sem.run_bind, run_eqGuard_agg, run_neq_struct, eq_rec, Result.andThen]
theorem wpList_exec {w : World} {ops : Array Oper} {rest : List Oper} {o : Oper} {a : Act} {Q : Exit → Act → World → Prop} (hgd : Region.wanted o (yielded ops a.tmps) = true) {r : Value} (hrun : (execOp a.eval o).run Try.prog w = .ok (.value r) w)
    (h : wpList Try.prog ops Q rest (a.put o.dst r) w) : wpList Try.prog ops Q (o :: rest) a w := by
  refine wpList_step fun K hK => ?_
  rw [if_pos hgd]
  unfold Oper.wp
  rw [hrun]
  exact hK _ _ h

end Go.Proofs.Ytnedhjaphfjdmaa
