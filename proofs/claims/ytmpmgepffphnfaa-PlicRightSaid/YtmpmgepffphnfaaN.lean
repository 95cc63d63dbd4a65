/- States that are alike; a law's own states. -/
import Derived.Test.YtmpmgepffphnfaaH
import Derived.ChangeKeysEq
import Derived.Laws.StructEq
namespace Go.Proofs.Ytmpmgepffphnfaa
open Go.RowKit Go.Deep Go.Joins
theorem extract_get (cs : Array Value) (a n i : Nat) (hi : i < n) (hb : a + n ≤ cs.size) : (cs.extract a (a + n))[i]? = cs[a + i]? := by
  rw [Array.getElem?_extract, if_pos (by omega)]
theorem eqItems_refl (d : Nat) (e : TypeId) (c : Nat) (xs : Array Value) (w : World) : ∀ is : List Nat, (∀ i ∈ is, ∃ v, (part e xs (i * c)).run Try.prog w = .ok v w ∧ (Op.equalIn d e v v).run Try.prog w = .ok true w) → (Op.eqItems d e c xs xs is).run Try.prog w = .ok true w
  | [], _ => by simp [Op.eqItems]
  | i :: is, h => by
    obtain ⟨v, h1, h2⟩ := h i (by simp)
    have ih := eqItems_refl d e c xs w is fun j hj => h j (by simp [hj])
    simp only [Op.eqItems, Sem.run_bind, h1, h2, Result.andThen_ok]
    simpa using ih
theorem eqFields_refl (d : Nat) (xs : Array Value) (w : World) : ∀ fs : List Field, (∀ f ∈ fs, ∃ v, (part f.type xs f.offset).run Try.prog w = .ok v w ∧ (Op.equalIn d f.type v v).run Try.prog w = .ok true w) → (Op.eqFields d xs xs fs).run Try.prog w = .ok true w
  | [], _ => by simp [Op.eqFields]
  | f :: fs, h => by
    obtain ⟨v, h1, h2⟩ := h f (by simp)
    have ih := eqFields_refl d xs w fs fun j hj => h j (by simp [hj])
    simp only [Op.eqFields, Sem.run_bind, Sem.run_ite]
    split
    · simp only [h1, h2, Result.andThen_ok]
      simpa using ih
    · exact ih
theorem part_cell (t : TypeId) (d : TypeDesc) (cs : Array Value) (off : Nat) (v : Value) (w : World) (hu : Try.prog.underlying t = some d) (hd : (match d with | .struct _ | .array _ _ => true | _ => false) = false) (h : cs[off]? = some v) : (part t cs off).run Try.prog w = .ok v w := by
  have hagg : (isAgg t).run Try.prog w = .ok false w := by
    unfold isAgg
    rw [Sem.run_bind, run_underlying hu w]
    cases d <;> simp_all
  simp [part, Sem.run_bind, hagg, h]
theorem part_row (t : TypeId) (d : TypeDesc) (n : Nat) (cs : Array Value) (off : Nat) (w : World) (hu : Try.prog.underlying t = some d) (hd : (match d with | .struct _ | .array _ _ => true | _ => false) = true) (hi : (Try.prog.info? t).map (·.size) = some n) : (part t cs off).run Try.prog w = .ok (.agg (cs.extract off (off + n))) w := by
  have hagg : (isAgg t).run Try.prog w = .ok true w := by
    unfold isAgg
    rw [Sem.run_bind, run_underlying hu w]
    cases d <;> simp_all
  cases hq : Try.prog.info? t with
  | none => simp [hq] at hi
  | some i =>
    have hs : i.size = n := by simpa [hq] using hi
    simp [part, Sem.run_bind, hagg, sizeOf, typeInfo, hq, hs]
theorem eq_int (d : Nat) (t : TypeId) (k : IntKind) (a : Int) (w : World) (h : Try.prog.underlying t = some (.int k)) : (Op.equalIn (d + 1) t (.int k a) (.int k a)).run Try.prog w = .ok true w := by
  rw [run_equalIn_int w d t k k a a h]
  simp
theorem fields26 : (Try.prog.fieldsOf 26).toList.map (fun f => (f.type, f.offset)) = [(23, 0), (24, 4), (24, 6), (22, 8)] := by kernel_rfl
theorem cellsOf22 : Try.prog.cellsOf 22 = 1 := by kernel_rfl
theorem info22 : ∃ i, Try.prog.info? 22 = some i := by
  cases h : Try.prog.info? 22 with
  | none => have := size22; rw [h] at this; cases this
  | some i => exact ⟨i, rfl⟩
theorem eq_arr (d t n : Nat) (hu : Try.prog.underlying t = some (.array n 22)) (cs : Array Value) (w : World) (h : ∀ i, i < n → ∃ a, cs[i]? = some (.int .u32 a)) : (Op.equalIn (d + 2) t (.agg cs) (.agg cs)).run Try.prog w = .ok true w := by
  obtain ⟨i, hi⟩ := info22
  rw [run_equalIn_array w (d + 1) cs cs hu hi]
  refine eqItems_refl _ _ _ _ _ _ fun j hj => ?_
  obtain ⟨a, ha⟩ := h j (by simpa using hj)
  rw [cellsOf22, Nat.mul_one]
  exact ⟨_, part_cell 22 _ cs j _ w Try.underlying22 rfl ha, eq_int d 22 .u32 a w Try.underlying22⟩
theorem plC_cell (p : Pl) (i : Nat) (hi : i < 9) : ∃ a, (plC p)[i]? = some (.int .u32 a) := by
  match i, hi with
  | 0, _ => exact ⟨_, rfl⟩
  | 1, _ => exact ⟨_, rfl⟩
  | 2, _ => exact ⟨_, rfl⟩
  | 3, _ => exact ⟨_, rfl⟩
  | 4, _ => exact ⟨_, rfl⟩
  | 5, _ => exact ⟨_, rfl⟩
  | 6, _ => exact ⟨_, rfl⟩
  | 7, _ => exact ⟨_, rfl⟩
  | 8, _ => exact ⟨_, rfl⟩
  | i + 9, hi => omega
theorem eq_pl (p : Pl) (w : World) : (Op.equalIn 10000 26 (.agg (plC p)) (.agg (plC p))).run Try.prog w = .ok true w := by
  rw [run_equalIn_struct w 9999 26 (plC p) (plC p) (by kernel_rfl) (by kernel_rfl)]
  refine eqFields_refl _ _ _ _ fun f hf => ?_
  have hm : (f.type, f.offset) ∈ (Try.prog.fieldsOf 26).toList.map (fun f => (f.type, f.offset)) := List.mem_map_of_mem hf
  rw [fields26] at hm
  simp only [List.mem_cons, List.not_mem_nil, or_false, Prod.mk.injEq] at hm
  rcases hm with ⟨e1, e2⟩ | ⟨e1, e2⟩ | ⟨e1, e2⟩ | ⟨e1, e2⟩
  all_goals rw [e1, e2]
  · refine ⟨_, part_row 23 _ 4 (plC p) 0 w Try.underlying23 rfl size23, eq_arr 9997 23 4 Try.underlying23 _ w fun i hi => ?_⟩
    rw [extract_get _ 0 4 i hi (by show 0 + 4 ≤ 9; omega), Nat.zero_add]
    exact plC_cell p i (by omega)
  · refine ⟨_, part_row 24 _ 2 (plC p) 4 w Try.underlying24 rfl size24, eq_arr 9997 24 2 Try.underlying24 _ w fun i hi => ?_⟩
    rw [extract_get _ 4 2 i hi (by show 4 + 2 ≤ 9; omega)]
    exact plC_cell p _ (by omega)
  · refine ⟨_, part_row 24 _ 2 (plC p) 6 w Try.underlying24 rfl size24, eq_arr 9997 24 2 Try.underlying24 _ w fun i hi => ?_⟩
    rw [extract_get _ 6 2 i hi (by show 6 + 2 ≤ 9; omega)]
    exact plC_cell p _ (by omega)
  · obtain ⟨a, ha⟩ := plC_cell p 8 (by omega)
    exact ⟨_, part_cell 22 _ _ 8 _ w Try.underlying22 rfl ha, eq_int 9998 22 .u32 _ w Try.underlying22⟩
theorem exec_eql {ρ : Operand → Value} {o : Oper} {x y : Operand} {t2 : TypeId} (h : Pl) (w : World) (ho : o.op = .binOp .eql 26 x y t2) (hx : ρ x = plV h) (hy : ρ y = plV h) : (execOp ρ o).run Try.prog w = .ok (.value (.bool true)) w := by
  unfold execOp
  simp [ho, hx, hy, Sem.run_bind, run_eqGuard_agg, run_eql_struct, eq_pl, Result.andThen]
theorem exec_neq {ρ : Operand → Value} {o : Oper} {x y : Operand} {t2 : TypeId} (h : Pl) (w : World) (ho : o.op = .binOp .neq 26 x y t2) (hx : ρ x = plV h) (hy : ρ y = plV h) : (execOp ρ o).run Try.prog w = .ok (.value (.bool false)) w := by
  unfold execOp
  simp [ho, hx, hy, Sem.run_bind, run_eqGuard_agg, run_neq_struct, eq_pl, Result.andThen]
/-- A function's own states, each in a block of its own. -/
structure Vs (W w : World) (l : List (Nat × Pl)) : Prop where
  box : ∀ x ∈ l, Box w x.1 x.2
  far : ∀ x ∈ l, W.heap.size ≤ x.1
  apart : (l.map (·.1)).Nodup
  below : Below W.heap.size W w
theorem Vs.nil (W : World) : Vs W W [] := ⟨fun _ h => absurd h (by simp), fun _ h => absurd h (by simp), List.nodup_nil, Below.refl _ _⟩
theorem Vs.next {W w w' : World} {l : List (Nat × Pl)} (k : Vs W w l) (j : Below w.heap.size w w') : Vs W w' l :=
  ⟨fun x hx => (k.box x hx).next j, k.far, k.apart, k.below.trans (j.mono k.below.size)⟩
theorem Vs.new {W w : World} {l : List (Nat × Pl)} (k : Vs W w l) (h : Pl) : Vs W (w.alloc (plO h)) ((w.heap.size, h) :: l) := by
  refine ⟨fun x hx => ?_, fun x hx => ?_, ?_, k.below.alloc k.below.size _⟩
  · rcases List.mem_cons.1 hx with rfl | hx
    · exact Box.new w h
    · exact (k.box x hx).alloc _
  · rcases List.mem_cons.1 hx with rfl | hx
    · exact k.below.size
    · exact k.far x hx
  · rw [List.map_cons, List.nodup_cons]
    refine ⟨fun hm => ?_, k.apart⟩
    obtain ⟨y, hy, e⟩ := List.mem_map.1 hm
    have := (k.box y hy).lt
    rw [e] at this
    exact absurd this (Nat.lt_irrefl _)
theorem Vs.get {W w : World} {l : List (Nat × Pl)} (k : Vs W w l) {b : Nat} {h : Pl} (hm : (b, h) ∈ l) : Box w b h := k.box _ hm
theorem Vs.g0 {W w : World} {b : Nat} {h : Pl} {l : List (Nat × Pl)} (k : Vs W w ((b, h) :: l)) : Box w b h := k.get (by simp)
theorem Vs.g1 {W w : World} {b : Nat} {h : Pl} {x : Nat × Pl} {l : List (Nat × Pl)} (k : Vs W w (x :: (b, h) :: l)) : Box w b h := k.get (by simp)
theorem Vs.g2 {W w : World} {b : Nat} {h : Pl} {x y : Nat × Pl} {l : List (Nat × Pl)} (k : Vs W w (x :: y :: (b, h) :: l)) : Box w b h := k.get (by simp)
theorem Vs.put {W w : World} {l r : List (Nat × Pl)} {b : Nat} {h : Pl} (k : Vs W w (l ++ (b, h) :: r)) (g : Pl) : ∃ w', (Instr.storeAt 26 (.pointer (some ⟨b, 0, none⟩)) (plV g)).run Try.prog w = .ok () w' ∧ Vs W w' (l ++ (b, g) :: r) := by
  have kb := k.box (b, h) (by simp)
  refine ⟨_, store_box w b _ g kb rfl, fun x hx => ?_, fun x hx => ?_, ?_, below_row k.below _ (k.far (b, h) (by simp)) _⟩
  · have ha := k.apart
    simp only [List.map_append, List.map_cons] at ha
    have hn := List.nodup_append.1 ha
    have hc := List.nodup_cons.1 hn.2.1
    rcases List.mem_append.1 hx with hx | hx
    · refine (k.box x (by simp [hx])).over (fun e => ?_) _
      exact hn.2.2 x.1 (List.mem_map_of_mem hx) b (by simp) e
    · rcases List.mem_cons.1 hx with rfl | hx
      · exact Box.mine kb g
      · refine (k.box x (by simp [hx])).over (fun e => ?_) _
        exact hc.1 (e ▸ List.mem_map_of_mem hx)
  · rcases List.mem_append.1 hx with hx | hx
    · exact k.far x (by simp [hx])
    · rcases List.mem_cons.1 hx with rfl | hx
      · exact k.far (b, h) (by simp)
      · exact k.far x (by simp [hx])
  · have ha := k.apart
    simpa only [List.map_append, List.map_cons] using ha
theorem Vs.put0 {W w : World} {r : List (Nat × Pl)} {b : Nat} {h : Pl} (k : Vs W w ((b, h) :: r)) (g : Pl) : ∃ w', (Instr.storeAt 26 (.pointer (some ⟨b, 0, none⟩)) (plV g)).run Try.prog w = .ok () w' ∧ Vs W w' ((b, g) :: r) := Vs.put (l := []) k g
theorem Vs.put1 {W w : World} {r : List (Nat × Pl)} {x : Nat × Pl} {b : Nat} {h : Pl} (k : Vs W w (x :: (b, h) :: r)) (g : Pl) : ∃ w', (Instr.storeAt 26 (.pointer (some ⟨b, 0, none⟩)) (plV g)).run Try.prog w = .ok () w' ∧ Vs W w' (x :: (b, g) :: r) := Vs.put (l := [x]) k g

end Go.Proofs.Ytmpmgepffphnfaa
