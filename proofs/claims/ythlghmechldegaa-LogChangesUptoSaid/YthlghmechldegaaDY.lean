/- Regions whose last store writes what their loads read: S need not hold behind operation k, which waits for the loads. -/
import Derived.Test.YthlghmechldegaaDX
namespace Go
open Go.RowKit Go.Deep Go.Joins
section
variable {P : Program} {md : Region.Mode} {ops : Array Oper} {Q : Exit → Act → World → Prop} {S : World → Prop} {k : Nat}
def wpAnyK (P : Program) (md : Region.Mode) (ops : Array Oper) (Q : Exit → Act → World → Prop) (S : World → Prop) (k : Nat) : Nat → Array Bool → Act → World → Prop
  | 0, listed, a, w => Region.ready md ops listed = [] ∧ Q .normal a w
  | fuel + 1, listed, a, w =>
    (Region.ready md ops listed = [] → Q .normal a w) ∧
    ∀ i ∈ Region.ready md ops listed, wpOp P ops Q i (fun a' w' => (i ≠ k → S w') ∧ wpAnyK P md ops Q S k fuel (listed.setIfInBounds i true) a' w') a w
theorem wpAny_of_K : ∀ (fuel : Nat) (listed : Array Bool) (a : Act) (w : World), wpAnyK P md ops Q S k fuel listed a w → wpAny P md ops Q fuel listed a w
  | 0, _, _, _, h => h
  | fuel + 1, _, _, _, h => ⟨h.1, fun i hi => wpOp_mono (fun a' w' h' => wpAny_of_K fuel _ a' w' h'.2) (h.2 i hi)⟩
def Region.waits (md : Region.Mode) (ops : Array Oper) (k i : Nat) : Bool := match ops[k]? with
  | some o => o.after.any fun e => Region.binds md e && e.on == i
  | none => true
theorem waits_not {i : Nat} {listed : Array Bool} (h : Region.waits md ops k i = true) (hi : listed.getD i true = false) : k ∉ Region.ready md ops listed := fun hk => by
  obtain ⟨_, o, ho, hall⟩ := mem_ready.1 hk
  unfold Region.waits at h
  rw [ho] at h
  obtain ⟨e, he, hb⟩ := Array.any_eq_true'.1 h
  rw [Bool.and_eq_true, beq_iff_eq] at hb
  have h1 := hall e he hb.1
  rw [hb.2] at h1
  rcases Nat.lt_or_ge i listed.size with h' | h'
  · simp [h'] at hi h1; rw [hi] at h1; cases h1
  · simp [Array.getElem?_eq_none h'] at h1
theorem wpAnyK_first {i : Nat} {oi : Oper} {v : Value} (hi : ops[i]? = some oi) (hsel : ∀ (j : Nat) (o : Oper) cs b, ops[j]? = some o → o.op ≠ .select cs b)
    (hQ : ∀ c a w, Q (.panic c) (a.put oi.dst v) w → Q (.panic c) a w) (hk : Region.waits md ops k i = true) :
    ∀ (fuel : Nat) (listed : Array Bool) (a : Act) (w : World),
      (∀ j oj, ops[j]? = some oj → j ≠ i → listed.getD j true = false → (∀ e ∈ oj.after, Region.binds md e = true → e.on ≠ i) → oi.apart ops oj = true) →
      i ∈ Region.ready md ops listed → YieldsIf P ops S oi v a → S w →
      wpAnyK P md ops Q S k fuel (listed.setIfInBounds i true) (a.put oi.dst v) w → wpAnyK P md ops Q S k (fuel + 1) listed a w := by
  intro fuel
  induction fuel with
  | zero =>
    intro listed a w _ hr hy hS H
    refine ⟨fun h => (by rw [h] at hr; cases hr), fun j hj => ?_⟩
    by_cases hji : j = i
    · subst hji; exact hy.wpOp hi hS ⟨fun _ => hS, H⟩
    · have := ready_mono hj hji
      rw [H.1] at this
      cases this
  | succ fuel ih =>
    intro listed a w hfree hr hy hS H
    refine ⟨fun h => (by rw [h] at hr; cases hr), fun j hj => ?_⟩
    by_cases hji : j = i
    · subst hji; exact hy.wpOp hi hS ⟨fun _ => hS, H⟩
    · have hjk : j ≠ k := fun e => waits_not hk (mem_ready.1 hr).1 (e ▸ hj)
      have h1 := H.2 j (ready_mono hj hji)
      obtain ⟨hjun, oj, hoj, hall⟩ := mem_ready.1 hj
      have hnot : ∀ e ∈ oj.after, Region.binds md e = true → e.on ≠ i := fun e he hb heq => by
        have h1 := hall e he hb
        have h0 := (mem_ready.1 hr).1
        rw [heq] at h1
        rcases Nat.lt_or_ge i listed.size with h' | h'
        · simp [h'] at h0 h1; rw [h0] at h1; cases h1
        · simp [Array.getElem?_eq_none h'] at h1
      have h2 := wpOp_putIf hoj (hfree j oj hoj hji hjun hnot) (fun cs b => hsel i oi cs b hi) (fun cs b => hsel j oj cs b hoj) hQ hy h1
      have hfree' : ∀ l ol, ops[l]? = some ol → l ≠ i → (listed.setIfInBounds j true).getD l true = false →
          (∀ e ∈ ol.after, Region.binds md e = true → e.on ≠ i) → oi.apart ops ol = true := fun l ol hl hli hun hno => by
        refine hfree l ol hl hli ?_ hno
        by_cases hjl : j = l
        · subst hjl; exact hjun
        · rw [getD_set_ne true hjl] at hun; exact hun
      refine wpOp_mono (fun a' w' h3 => ⟨h3.2.1, ih (listed.setIfInBounds j true) a' w' hfree' (ready_mono hr (Ne.symm hji)) h3.1 (h3.2.1 hjk) ?_⟩) h2
      rw [Array.setIfInBounds_comm _ _ hji]
      exact h3.2.2
variable {fuel : Nat} {listed : Array Bool} {a a' : Act} {w w' : World} {o : Oper} {v : Value} {t : TypeId} {p x : Operand} {u : Value}
theorem wpAnyK_one {i : Nat} (hr : Region.ready md ops listed = [i]) (hi : ops[i]? = some o) (h : ∀ K' : Act → World → Prop, (∀ a w, (i ≠ k → S w) → wpAnyK P md ops Q S k fuel (listed.setIfInBounds i true) a w → K' a w) → if Region.wanted o (yielded ops a.tmps) = true then Oper.wp P o a w K' Q else K' (a.put o.dst undef) w) :
    wpAnyK P md ops Q S k (fuel + 1) listed a w :=
  ⟨fun h0 => (by rw [hr] at h0; cases h0), fun j hj => by
    rw [hr, List.mem_singleton] at hj
    subst hj
    exact wpOp_step hi (fun K' hK => h K' (fun a w hS hW => hK a w ⟨hS, hW⟩))⟩
theorem tkK (i : Nat) (hS : S w) (h : wpAnyK P md ops Q S k fuel (listed.setIfInBounds i true) a' w) (hi : ops[i]? = some o := by (simp only [nths]; exact rfl))
    (hs : Region.noSelect ops = true := by kernel_rfl) (hf : Region.free md ops listed i = true := by kernel_rfl) (hr : (Region.ready md ops listed).contains i = true := by kernel_rfl) (hk : Region.waits md ops k i = true := by kernel_rfl)
    (hQ : ∀ c a w, Q (.panic c) (a.put o.dst v) w → Q (.panic c) a w := by exact fun _ _ _ h => h)
    (hy : YieldsIf P ops S o v a := by first | exact Or.inr ⟨by rfl, rfl⟩ | (refine Or.inl ⟨by rfl, ?_⟩; intro w hSw; (try dsimp only at hSw); (try obtain ⟨_, _⟩ := hSw); go_simp; try with_reducible rfl))
    (ha : a.put o.dst v = a' := by (simp only [puts]; exact rfl)) : wpAnyK P md ops Q S k (fuel + 1) listed a w := by
  subst ha
  exact wpAnyK_first hi (Region.noSelect_spec hs) hQ hk fuel listed a w (Region.free_spec hi hf) (by simpa using hr) hy hS h
theorem tlK (i : Nat) (hS : S w) (hl : ∀ w, S w → (Instr.loadAt t u).run P w = .ok v w) (h : wpAnyK P md ops Q S k fuel (listed.setIfInBounds i true) a' w) (hi : ops[i]? = some o := by (simp only [nths]; exact rfl)) (ho : o.op = .load t p := by rfl) (hp : a.eval p = u := by rfl)
    (hs : Region.noSelect ops = true := by kernel_rfl) (hf : Region.free md ops listed i = true := by kernel_rfl) (hr : (Region.ready md ops listed).contains i = true := by kernel_rfl) (hk : Region.waits md ops k i = true := by kernel_rfl)
    (hQ : ∀ c a w, Q (.panic c) (a.put o.dst v) w → Q (.panic c) a w := by exact fun _ _ _ h => h)
    (hg : Region.wanted o (yielded ops a.tmps) = true := by kernel_rfl)
    (ha : a.put o.dst v = a' := by (simp only [puts]; exact rfl)) : wpAnyK P md ops Q S k (fuel + 1) listed a w := by
  subst ha
  exact wpAnyK_first hi (Region.noSelect_spec hs) hQ hk fuel listed a w (Region.free_spec hi hf) (by simpa using hr) (.inl ⟨hg, fun w hw => exec_load ho (hl w hw) hp⟩) hS h
/-- What alone may come up, by its run. -/
theorem hoK (i : Nat) (hrun : (execOp a.eval o).run P w = .ok (.value v) w') (hS : S w') (h : wpAnyK P md ops Q S k fuel (listed.setIfInBounds i true) a' w') (hi : ops[i]? = some o := by (simp only [nths]; exact rfl)) (hr : Region.ready md ops listed = [i] := by kernel_rfl) (hg : o.guard = none := by rfl)
    (ha : a.put o.dst v = a' := by (simp only [puts]; exact rfl)) : wpAnyK P md ops Q S k (fuel + 1) listed a w := by
  subst ha
  refine wpAnyK_one hr hi fun K' hK => ?_
  simp only [Region.wanted, hg, if_true]
  unfold Oper.wp
  rw [hrun]
  exact hK _ _ (fun _ => hS) h
/-- The store that S need not outlive. -/
theorem hsK (hrun : (Instr.storeAt t u v).run P w = .ok () w') (h : ∀ wy, wy = w' → wpAnyK P md ops Q S k fuel (listed.setIfInBounds k true) a' wy) (hi : ops[k]? = some o := by (simp only [nths]; exact rfl)) (ho : o.op = .store t p x := by rfl) (hp : a.eval p = u := by rfl) (hx : a.eval x = v := by rfl)
    (hr : Region.ready md ops listed = [k] := by kernel_rfl) (hg : o.guard = none := by rfl) (ha : a.put o.dst undef = a' := by (simp only [puts]; exact rfl)) : wpAnyK P md ops Q S k (fuel + 1) listed a w := by
  subst ha
  refine wpAnyK_one hr hi fun K' hK => ?_
  simp only [Region.wanted, hg, if_true]
  unfold Oper.wp
  simp [execOp, ho, hp, hx, hrun, Result.andThen]
  exact hK _ _ (fun hne => absurd rfl hne) (h _ rfl)
theorem doneK {listed : Array Bool} {a : Act} {w : World} (h : Q .normal a w) (hr : Region.ready md ops listed = [] := by kernel_rfl) : ∀ fuel, wpAnyK P md ops Q S k fuel listed a w
  | 0 => ⟨hr, h⟩
  | _ + 1 => ⟨fun _ => h, by rw [hr]; simp⟩
theorem drK {id : Nat} (S : World → Prop) (k : Nat) (h : ∀ wz, Below w.heap.size w wz → wpAnyK P .any ops Q S k ops.size (Array.replicate ops.size false) a wz) (hm : P.follows .mixedOrders = true := by kernel_rfl) : (Code.region id ops true).wp P Q a w :=
  wp_region_any hm (wpAny_of_K _ _ _ _ (h w.drew (Below.refl _ _).drew))
end
section
variable {P : Program} {md : Region.Mode} {ops : Array Oper} {Q : Exit → Act → World → Prop} {S : World → Prop} {k : Nat} {fuel : Nat} {listed : Array Bool} {a : Act} {w w' : World} {o : Oper} {v : Value} {f : FuncId} {args : Array Value} {R : Value → World → Prop}
/-- One of several: a call. -/
theorem opCall {K2 : Act → World → Prop} (i : Nat) (hc : Calls P f args w fun e w' => ∃ v, e = .returned v ∧ R v w') (h : ∀ v w', R v w' → K2 (a.put o.dst v) w') (hi : ops[i]? = some o := by (simp only [nths]; exact rfl)) (hrun : (execOp a.eval o).run P w = .ok (.enter f args) w := by (go_simp; try exact rfl)) (hg : Region.wanted o (yielded ops a.tmps) = true := by kernel_rfl) : wpOp P ops Q i K2 a w :=
  wpOp_step hi fun K' hK => by
    rw [if_pos hg]
    unfold Oper.wp
    rw [hrun, Oper.upon_enter]
    refine hc.mono ?_
    rintro e w' ⟨v, rfl, hR⟩
    exact hK _ _ (h v w' hR)
/-- One of several: what makes memory. -/
theorem opVal {K2 : Act → World → Prop} (i : Nat) (hrun : (execOp a.eval o).run P w = .ok (.value v) w') (h : K2 (a.put o.dst v) w') (hi : ops[i]? = some o := by (simp only [nths]; exact rfl)) (hg : o.guard = none := by rfl) : wpOp P ops Q i K2 a w :=
  wpOp_step hi fun K' hK => by
    simp only [Region.wanted, hg, if_true]
    unfold Oper.wp
    rw [hrun]
    exact hK _ _ h
theorem twoK (i j : Nat) (h1 : wpOp P ops Q i (fun a' w' => (i ≠ k → S w') ∧ wpAnyK P md ops Q S k fuel (listed.setIfInBounds i true) a' w') a w) (h2 : wpOp P ops Q j (fun a' w' => (j ≠ k → S w') ∧ wpAnyK P md ops Q S k fuel (listed.setIfInBounds j true) a' w') a w) (hr : Region.ready md ops listed = [i, j] := by kernel_rfl) : wpAnyK P md ops Q S k (fuel + 1) listed a w :=
  ⟨fun h0 => (by rw [hr] at h0; cases h0), fun l hl => by
    rw [hr] at hl
    simp only [List.mem_cons, List.not_mem_nil, or_false] at hl
    rcases hl with rfl | rfl
    · exact h1
    · exact h2⟩
theorem oneK (i : Nat) (h1 : wpOp P ops Q i (fun a' w' => (i ≠ k → S w') ∧ wpAnyK P md ops Q S k fuel (listed.setIfInBounds i true) a' w') a w) (hr : Region.ready md ops listed = [i] := by kernel_rfl) : wpAnyK P md ops Q S k (fuel + 1) listed a w :=
  ⟨fun h0 => (by rw [hr] at h0; cases h0), fun l hl => by
    rw [hr, List.mem_singleton] at hl
    subst hl
    exact h1⟩
end
theorem exec_append {P : Program} {ρ : Operand → Value} {o : Oper} {t : TypeId} {s x : Operand} {v u r : Value} {w w' : World} (ho : o.op = .call { callee := .builtin .append, args := #[s, x], argTypes := #[t, t] }) (hs : ρ s = v) (hx : ρ x = u)
    (hrun : (Builtin.append_ #[t, t] o.type #[v, u]).run P w = .ok r w') : (execOp ρ o).run P w = .ok (.value r) w' := by
  simp [execOp, ho, resolve, invoke, builtin, hs, hx, hrun, Result.andThen]
end Go
