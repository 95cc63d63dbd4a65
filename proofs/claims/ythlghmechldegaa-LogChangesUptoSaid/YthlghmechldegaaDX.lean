/- Short moves of a walk through a region that draws its order. -/
import Derived.Test.YthlghmechldegaaF
import Derived.Deep.RegionHeld3
namespace Go
open Go.RowKit Go.Deep Go.Joins
theorem exec_load {P : Program} {ρ : Operand → Value} {o : Oper} {t : TypeId} {p : Operand} (ho : o.op = .load t p) {v r : Value} {w : World} (hrun : (Instr.loadAt t v).run P w = .ok r w) (hp : ρ p = v) : (execOp ρ o).run P w = .ok (.value r) w := by
  unfold execOp
  simp [ho, hp, hrun, Result.andThen]
theorem still_load {P : Program} {ops : Array Oper} {w : World} {Q : Act → Prop} {rest : List Oper} {o : Oper} {a : Act} (hgd : o.guard = none) {t : TypeId} {p : Operand} (ho : o.op = .load t p) {v r : Value} (hrun : (Instr.loadAt t v).run P w = .ok r w) (hp : a.eval p = v) (h : wpStill P ops w Q rest (a.put o.dst r)) : wpStill P ops w Q (o :: rest) a := by
  refine wpStill_step fun K hK => ?_
  simp only [Region.wanted, hgd, if_true]
  unfold Oper.still
  rw [exec_load ho hrun hp]
  exact ⟨rfl, hK _ h⟩
theorem yields_load {P : Program} {ops : Array Oper} {S : World → Prop} {o : Oper} {a : Act} {t : TypeId} {p : Operand} {v r : Value} (hgd : o.guard = none) (ho : o.op = .load t p) (hp : a.eval p = v) (h : ∀ w, S w → (Instr.loadAt t v).run P w = .ok r w) : YieldsIf P ops S o r a :=
  .inl ⟨by simp [Region.wanted, hgd], fun w hw => exec_load ho (h w hw) hp⟩
theorem held_store {P : Program} {md : Region.Mode} {ops : Array Oper} {Q : Exit → Act → World → Prop} {S : World → Prop} {fuel : Nat} {listed : Array Bool} {a : Act} {w w' : World} {i : Nat} {o : Oper} {t : TypeId} {p x : Operand} {v u : Value}
    (hr : Region.ready md ops listed = [i]) (hi : ops[i]? = some o) (hgd : o.guard = none) (ho : o.op = .store t p x) (hp : a.eval p = v) (hx : a.eval x = u) (hrun : (Instr.storeAt t v u).run P w = .ok () w') (hS : S w')
    (h : wpAnyH P md ops Q S fuel (listed.setIfInBounds i true) (a.put o.dst undef) w') : wpAnyH P md ops Q S (fuel + 1) listed a w := by
  refine wpAnyH_ready (rs := [i]) hr (by simp) (AllReadyH.cons hi (fun K hK => ?_) AllReadyH.nil)
  simp only [Region.wanted, hgd, if_true]
  unfold Oper.wp
  simp [execOp, ho, hp, hx, hrun, Result.andThen]
  exact hK.out _ _ hS (fun _ => h)
theorem held_op {P : Program} {md : Region.Mode} {ops : Array Oper} {Q : Exit → Act → World → Prop} {S : World → Prop} {fuel : Nat} {listed : Array Bool} {a : Act} {w w' : World} {i : Nat} {o : Oper} {v : Value}
    (hr : Region.ready md ops listed = [i]) (hi : ops[i]? = some o) (hgd : o.guard = none) (hrun : (execOp a.eval o).run P w = .ok (.value v) w') (hS : S w')
    (h : wpAnyH P md ops Q S fuel (listed.setIfInBounds i true) (a.put o.dst v) w') : wpAnyH P md ops Q S (fuel + 1) listed a w := by
  refine wpAnyH_ready (rs := [i]) hr (by simp) (AllReadyH.cons hi (fun K hK => ?_) AllReadyH.nil)
  simp only [Region.wanted, hgd, if_true]
  unfold Oper.wp
  rw [hrun]
  exact hK.out _ _ hS (fun _ => h)
theorem held_call {P : Program} {md : Region.Mode} {ops : Array Oper} {Q : Exit → Act → World → Prop} {S : World → Prop} {fuel : Nat} {listed : Array Bool} {a : Act} {w : World} {i : Nat} {o : Oper} {v : Value} {f : FuncId} {args : Array Value}
    (hr : Region.ready md ops listed = [i]) (hi : ops[i]? = some o) (hgd : o.guard = none) (hrun : (execOp a.eval o).run P w = .ok (.enter f args) w) (hc : Calls P f args w fun e w' => e = .returned v ∧ w = w') (hS : S w)
    (h : wpAnyH P md ops Q S fuel (listed.setIfInBounds i true) (a.put o.dst v) w) : wpAnyH P md ops Q S (fuel + 1) listed a w := by
  refine wpAnyH_ready (rs := [i]) hr (by simp) (AllReadyH.cons hi (fun K hK => ?_) AllReadyH.nil)
  simp only [Region.wanted, hgd, if_true]
  unfold Oper.wp
  rw [hrun, Oper.upon_enter]
  refine hc.mono ?_
  rintro e w' ⟨rfl, rfl⟩
  exact hK.out _ _ hS (fun _ => h)

end Go
namespace Go
open Go.RowKit Go.Deep Go.Joins
theorem yields_loadw {P : Program} {ops : Array Oper} {S : World → Prop} {o : Oper} {a : Act} {t : TypeId} {p : Operand} {v r : Value} (hgd : Region.wanted o (yielded ops a.tmps) = true) (ho : o.op = .load t p) (hp : a.eval p = v) (h : ∀ w, S w → (Instr.loadAt t v).run P w = .ok r w) : YieldsIf P ops S o r a :=
  .inl ⟨hgd, fun w hw => exec_load ho (h w hw) hp⟩
theorem held_calls {P : Program} {md : Region.Mode} {ops : Array Oper} {Q : Exit → Act → World → Prop} {S : World → Prop} {fuel : Nat} {listed : Array Bool} {a : Act} {w : World} {i : Nat} {o : Oper} {f : FuncId} {args : Array Value} {R : Value → World → Prop}
    (hr : Region.ready md ops listed = [i]) (hi : ops[i]? = some o) (hgd : Region.wanted o (yielded ops a.tmps) = true) (hrun : (execOp a.eval o).run P w = .ok (.enter f args) w) (hc : Calls P f args w fun e w' => ∃ v, e = .returned v ∧ R v w')
    (h : ∀ v w', R v w' → S w' ∧ (S w' → wpAnyH P md ops Q S fuel (listed.setIfInBounds i true) (a.put o.dst v) w')) : wpAnyH P md ops Q S (fuel + 1) listed a w := by
  refine wpAnyH_ready (rs := [i]) hr (by simp) (AllReadyH.cons hi (fun K hK => ?_) AllReadyH.nil)
  rw [if_pos hgd]
  unfold Oper.wp
  rw [hrun, Oper.upon_enter]
  refine hc.mono ?_
  rintro e w' ⟨v, rfl, hR⟩
  obtain ⟨h1, h2⟩ := h v w' hR
  exact hK.out _ _ h1 h2

end Go
namespace Go
open Go.RowKit Go.Deep Go.Joins
theorem cons_op {P : Program} {md : Region.Mode} {ops : Array Oper} {Q : Exit → Act → World → Prop} {S : World → Prop} {fuel : Nat} {listed : Array Bool} {a : Act} {w w' : World} {i : Nat} {o : Oper} {v : Value} {rs : List Nat}
    (hi : ops[i]? = some o) (hgd : o.guard = none) (hrun : (execOp a.eval o).run P w = .ok (.value v) w') (hS : S w')
    (h : wpAnyH P md ops Q S fuel (listed.setIfInBounds i true) (a.put o.dst v) w') (hs : AllReadyH P md ops Q S fuel listed a w rs) : AllReadyH P md ops Q S fuel listed a w (i :: rs) := by
  refine AllReadyH.cons hi (fun K hK => ?_) hs
  simp only [Region.wanted, hgd, if_true]
  unfold Oper.wp
  rw [hrun]
  exact hK.out _ _ hS (fun _ => h)
theorem cons_store {P : Program} {md : Region.Mode} {ops : Array Oper} {Q : Exit → Act → World → Prop} {S : World → Prop} {fuel : Nat} {listed : Array Bool} {a : Act} {w w' : World} {i : Nat} {o : Oper} {t : TypeId} {p x : Operand} {v u : Value} {rs : List Nat}
    (hi : ops[i]? = some o) (hgd : o.guard = none) (ho : o.op = .store t p x) (hp : a.eval p = v) (hx : a.eval x = u) (hrun : (Instr.storeAt t v u).run P w = .ok () w') (hS : S w')
    (h : wpAnyH P md ops Q S fuel (listed.setIfInBounds i true) (a.put o.dst undef) w') (hs : AllReadyH P md ops Q S fuel listed a w rs) : AllReadyH P md ops Q S fuel listed a w (i :: rs) := by
  refine AllReadyH.cons hi (fun K hK => ?_) hs
  simp only [Region.wanted, hgd, if_true]
  unfold Oper.wp
  simp [execOp, ho, hp, hx, hrun, Result.andThen]
  exact hK.out _ _ hS (fun _ => h)
theorem cons_calls {P : Program} {md : Region.Mode} {ops : Array Oper} {Q : Exit → Act → World → Prop} {S : World → Prop} {fuel : Nat} {listed : Array Bool} {a : Act} {w : World} {i : Nat} {o : Oper} {f : FuncId} {args : Array Value} {R : Value → World → Prop} {rs : List Nat}
    (hi : ops[i]? = some o) (hgd : Region.wanted o (yielded ops a.tmps) = true) (hrun : (execOp a.eval o).run P w = .ok (.enter f args) w) (hc : Calls P f args w fun e w' => ∃ v, e = .returned v ∧ R v w')
    (h : ∀ v w', R v w' → S w' ∧ (S w' → wpAnyH P md ops Q S fuel (listed.setIfInBounds i true) (a.put o.dst v) w')) (hs : AllReadyH P md ops Q S fuel listed a w rs) : AllReadyH P md ops Q S fuel listed a w (i :: rs) := by
  refine AllReadyH.cons hi (fun K hK => ?_) hs
  rw [if_pos hgd]
  unfold Oper.wp
  rw [hrun, Oper.upon_enter]
  refine hc.mono ?_
  rintro e w' ⟨v, rfl, hR⟩
  obtain ⟨h1, h2⟩ := h v w' hR
  exact hK.out _ _ h1 h2
end Go
namespace Go
open Go.RowKit Go.Deep Go.Joins
theorem puts : (∀ (t : List Value) (d : List Deferred) (k : Nat) (v : Value), (Act.mk t.toArray d).put (some k) v = Act.mk (t.set k v).toArray d) ∧ (∀ (a : Act) (v : Value), a.put none v = a) ∧ (∀ (a v : Value) (l : List Value), (a :: l).set 0 v = v :: l) ∧ (∀ (a v : Value) (l : List Value) (n : Nat), (a :: l).set (n + 1) v = a :: l.set n v) :=
  ⟨fun _ _ _ _ => by simp [Act.put], fun _ _ => rfl, fun _ _ _ => rfl, fun _ _ _ _ => rfl⟩
theorem nths : (∀ (l : List Oper) (i : Nat), (l.toArray)[i]? = l[i]?) ∧ (∀ (a : Oper) (l : List Oper), (a :: l)[0]? = some a) ∧ (∀ (a : Oper) (l : List Oper) (n : Nat), (a :: l)[n + 1]? = l[n]?) := ⟨fun _ _ => by simp, fun _ _ => by simp, fun _ _ _ => by simp⟩
theorem calls_told {P : Program} {f : FuncId} {args : Array Value} {w : World} {v : Value} (h : Calls P f args w fun e w' => e = .returned v ∧ RowKit.Below w.heap.size w w') : Calls P f args w fun e w' => ∃ u, e = .returned u ∧ (u = v ∧ RowKit.Below w.heap.size w w') := h.mono fun _ _ h => ⟨v, h.1, rfl, h.2⟩
section
variable {P : Program} {md : Region.Mode} {ops : Array Oper} {Q : Exit → Act → World → Prop} {S : World → Prop} {fuel : Nat} {listed : Array Bool} {a a' : Act} {w w' : World} {o : Oper} {v : Value} {t : TypeId} {p x : Operand} {u : Value} {f : FuncId} {args : Array Value} {R : Value → World → Prop}
/-- What reads, reckons, or is struck out: first, whatever else may come up. -/
theorem tk (i : Nat) (hS : S w) (h : wpAnyH P md ops Q S fuel (listed.setIfInBounds i true) a' w) (hi : ops[i]? = some o := by (simp only [nths]; exact rfl))
    (hs : Region.noSelect ops = true := by kernel_rfl) (hf : Region.free md ops listed i = true := by kernel_rfl) (hr : (Region.ready md ops listed).contains i = true := by kernel_rfl)
    (hQ : ∀ c a w, Q (.panic c) (a.put o.dst v) w → Q (.panic c) a w := by exact fun _ _ _ h => h)
    (hy : YieldsIf P ops S o v a := by first | exact Or.inr ⟨by rfl, rfl⟩ | (refine Or.inl ⟨by rfl, ?_⟩; intro w hSw; (try dsimp only at hSw); (try obtain ⟨_, _⟩ := hSw); go_simp; try with_reducible rfl))
    (ha : a.put o.dst v = a' := by (simp only [puts]; exact rfl)) : wpAnyH P md ops Q S (fuel + 1) listed a w := by
  subst ha
  exact wpAnyH_take hi hs hf hr hQ hy hS h
/-- A load by its run equation, in every world that meets S. -/
theorem tl (i : Nat) (hS : S w) (hl : ∀ w, S w → (Instr.loadAt t u).run P w = .ok v w) (h : wpAnyH P md ops Q S fuel (listed.setIfInBounds i true) a' w) (hi : ops[i]? = some o := by (simp only [nths]; exact rfl)) (ho : o.op = .load t p := by rfl) (hp : a.eval p = u := by rfl)
    (hs : Region.noSelect ops = true := by kernel_rfl) (hf : Region.free md ops listed i = true := by kernel_rfl) (hr : (Region.ready md ops listed).contains i = true := by kernel_rfl)
    (hQ : ∀ c a w, Q (.panic c) (a.put o.dst v) w → Q (.panic c) a w := by exact fun _ _ _ h => h)
    (hg : Region.wanted o (yielded ops a.tmps) = true := by kernel_rfl)
    (ha : a.put o.dst v = a' := by (simp only [puts]; exact rfl)) : wpAnyH P md ops Q S (fuel + 1) listed a w := by
  subst ha
  exact wpAnyH_take hi hs hf hr hQ (.inl ⟨hg, fun w hw => exec_load ho (hl w hw) hp⟩) hS h
/-- A load that alone may come up. -/
theorem hl (i : Nat) (hl : (Instr.loadAt t u).run P w = .ok v w) (hS : S w) (h : wpAnyH P md ops Q S fuel (listed.setIfInBounds i true) a' w) (hi : ops[i]? = some o := by (simp only [nths]; exact rfl)) (ho : o.op = .load t p := by rfl) (hp : a.eval p = u := by rfl)
    (hr : Region.ready md ops listed = [i] := by kernel_rfl) (hg : Region.wanted o (yielded ops a.tmps) = true := by kernel_rfl) (ha : a.put o.dst v = a' := by (simp only [puts]; exact rfl)) : wpAnyH P md ops Q S (fuel + 1) listed a w := by
  subst ha
  refine wpAnyH_ready (rs := [i]) hr (by simp) (AllReadyH.cons hi (fun K hK => ?_) AllReadyH.nil)
  rw [if_pos hg]
  unfold Oper.wp
  rw [exec_load ho hl hp]
  exact hK.out _ _ hS (fun _ => h)
/-- A store that alone may come up. -/
theorem hs (i : Nat) (hrun : (Instr.storeAt t u v).run P w = .ok () w') (h : ∀ wy, wy = w' → S wy ∧ (S wy → wpAnyH P md ops Q S fuel (listed.setIfInBounds i true) a' wy)) (hi : ops[i]? = some o := by (simp only [nths]; exact rfl)) (ho : o.op = .store t p x := by rfl) (hp : a.eval p = u := by rfl) (hx : a.eval x = v := by rfl)
    (hr : Region.ready md ops listed = [i] := by kernel_rfl) (hg : o.guard = none := by rfl) (ha : a.put o.dst undef = a' := by (simp only [puts]; exact rfl)) : wpAnyH P md ops Q S (fuel + 1) listed a w := by
  subst ha
  exact held_store hr hi hg ho hp hx hrun (h w' rfl).1 ((h w' rfl).2 (h w' rfl).1)
/-- A call that alone may come up. -/
theorem hc (i : Nat) (hc : Calls P f args w fun e w' => ∃ v, e = .returned v ∧ R v w') (h : ∀ v w', R v w' → S w' ∧ (S w' → wpAnyH P md ops Q S fuel (listed.setIfInBounds i true) (a.put o.dst v) w'))
    (hi : ops[i]? = some o := by (simp only [nths]; exact rfl)) (hrun : (execOp a.eval o).run P w = .ok (.enter f args) w := by (go_simp; try exact rfl)) (hr : Region.ready md ops listed = [i] := by kernel_rfl) (hg : Region.wanted o (yielded ops a.tmps) = true := by kernel_rfl) : wpAnyH P md ops Q S (fuel + 1) listed a w :=
  held_calls hr hi hg hrun hc h
/-- An alloc that alone may come up. -/
theorem ho (i : Nat) (hS : S w') (h : wpAnyH P md ops Q S fuel (listed.setIfInBounds i true) a' w') (hi : ops[i]? = some o := by (simp only [nths]; exact rfl)) (hr : Region.ready md ops listed = [i] := by kernel_rfl) (hg : o.guard = none := by rfl) (hrun : (execOp a.eval o).run P w = .ok (.value v) w' := by (go_simp; try exact rfl))
    (ha : a.put o.dst v = a' := by (simp only [puts]; exact rfl)) : wpAnyH P md ops Q S (fuel + 1) listed a w := by
  subst ha
  exact held_op hr hi hg hrun hS h
/-- Several may come up. -/
theorem two (i j : Nat) (h1 : AllReadyH P md ops Q S fuel listed a w [i, j]) (hr : Region.ready md ops listed = [i, j] := by kernel_rfl) : wpAnyH P md ops Q S (fuel + 1) listed a w := wpAnyH_ready hr (by simp) h1
theorem three (i j l : Nat) (h1 : AllReadyH P md ops Q S fuel listed a w [i, j, l]) (hr : Region.ready md ops listed = [i, j, l] := by kernel_rfl) : wpAnyH P md ops Q S (fuel + 1) listed a w := wpAnyH_ready hr (by simp) h1
theorem al {rs : List Nat} (i : Nat) (hS : S w') (h : wpAnyH P md ops Q S fuel (listed.setIfInBounds i true) a' w') (hs : AllReadyH P md ops Q S fuel listed a w rs) (hi : ops[i]? = some o := by (simp only [nths]; exact rfl)) (hg : o.guard = none := by rfl) (hrun : (execOp a.eval o).run P w = .ok (.value v) w' := by (go_simp; try exact rfl))
    (ha : a.put o.dst v = a' := by (simp only [puts]; exact rfl)) : AllReadyH P md ops Q S fuel listed a w (i :: rs) := by
  subst ha
  exact cons_op hi hg hrun hS h hs
theorem ld {rs : List Nat} (i : Nat) (hl : (Instr.loadAt t u).run P w = .ok v w) (hS : S w) (h : wpAnyH P md ops Q S fuel (listed.setIfInBounds i true) a' w) (hs : AllReadyH P md ops Q S fuel listed a w rs) (hi : ops[i]? = some o := by (simp only [nths]; exact rfl)) (ho : o.op = .load t p := by rfl) (hp : a.eval p = u := by rfl) (hg : o.guard = none := by rfl)
    (ha : a.put o.dst v = a' := by (simp only [puts]; exact rfl)) : AllReadyH P md ops Q S fuel listed a w (i :: rs) := by
  subst ha
  exact cons_op hi hg (exec_load ho hl hp) hS h hs
theorem cc {rs : List Nat} (i : Nat) (hc : Calls P f args w fun e w' => ∃ v, e = .returned v ∧ R v w') (h : ∀ v w', R v w' → S w' ∧ (S w' → wpAnyH P md ops Q S fuel (listed.setIfInBounds i true) (a.put o.dst v) w')) (hs : AllReadyH P md ops Q S fuel listed a w rs)
    (hi : ops[i]? = some o := by (simp only [nths]; exact rfl)) (hrun : (execOp a.eval o).run P w = .ok (.enter f args) w := by (go_simp; try exact rfl)) (hg : Region.wanted o (yielded ops a.tmps) = true := by kernel_rfl) : AllReadyH P md ops Q S fuel listed a w (i :: rs) :=
  cons_calls hi hg hrun hc h hs
/-- The beginning. -/
theorem dr {id : Nat} (S : World → Prop) (h : ∀ wz, Below w.heap.size w wz → wpAnyH P .any ops Q S ops.size (Array.replicate ops.size false) a wz) (hm : P.follows .mixedOrders = true := by kernel_rfl) : (Code.region id ops true).wp P Q a w :=
  wp_region_held hm (h w.drew (Below.refl _ _).drew)
end
end Go
