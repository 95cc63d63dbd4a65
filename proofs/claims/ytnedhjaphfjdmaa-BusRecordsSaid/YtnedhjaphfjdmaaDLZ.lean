/- What a read tells. -/
import Derived.Test.YtnedhjaphfjdmaaDF
import Derived.StillTailTactics
namespace Go.Proofs.Ytnedhjaphfjdmaa
open Go.RowKit Go.Deep Go.Joins
theorem Box.put {w w' : World} {g : Nat} {b b' : Bd} (k : Box w g b) (h : w' = w.setRow g (bdC b')) : Box w' g b' := by subst h; exact Box.mine k b'
theorem below_put {W w w' : World} {B g : Nat} {cs : Array Value} (k : Below B W w) (hg : B ≤ g) (h : w' = w.setRow g cs) : Below B W w' := by subst h; exact below_setRow k hg cs


/-- The first byte, and what is behind it. -/
def headS (s : ByteArray) : Int := if h : 0 < s.size then (s[0].toNat : Int) else 0
def tailS (s : ByteArray) : ByteArray := if 0 < s.size then s.extract 1 s.size else s
def lenF (F : List ByteArray) : Int := if h : 0 < F.length then IntKind.u64.wrap (F[0].size : Int) else 0
/-- What a read tells: the board behind it, its frames, the number, and whether there is something to be read so. -/
def ldF (b : Bd) (F : List ByteArray) (t s n : Int) : Bd × List ByteArray × Int × Bool :=
  if t = 33554432 ∧ s = 4 then (b, F, bV b.msip 0, true) else
  if t = 33570816 ∧ s = 8 then (b, F, b.cmp, true) else
  if t = 33603576 ∧ s = 8 then (b, F, n, true) else
  if t = 268435456 ∧ s = 1 then ({ b with inn := tailS b.inn }, F, headS b.inn, true) else
  if t = 268435457 ∧ s = 1 then (b, F, bV b.ier 0, true) else
  if t = 268435461 ∧ s = 1 then (b, F, bits .or .u64 (bV (decide (0 < b.inn.size)) 0) 96, true) else
  if t = 268439552 ∧ s = 8 then (b, F, b.sector, true) else
  if t = 268439560 ∧ s = 8 then (b, F, b.addr, true) else
  if t = 268439576 ∧ s = 8 then ({ b with done := false }, F, bits .or .u64 (bV b.done 0) (bV b.bad 1), true) else
  if t = 268443648 ∧ s = 8 then (b, F, lenF F, true) else
  if t = 268443656 ∧ s = 8 then (b, F, b.nicA, true) else
  if t = 268443672 ∧ s = 8 then (b, F, b.nicL, true) else
  (bdZ, [], 0, false)
theorem ldF_none (b : Bd) (F : List ByteArray) (t s n : Int) (h : ¬ (t = 33554432 ∧ s = 4) ∧ ¬ (t = 33570816 ∧ s = 8) ∧ ¬ (t = 33603576 ∧ s = 8) ∧ ¬ (t = 268435456 ∧ s = 1) ∧ ¬ (t = 268435457 ∧ s = 1) ∧ ¬ (t = 268435461 ∧ s = 1) ∧ ¬ (t = 268439552 ∧ s = 8) ∧ ¬ (t = 268439560 ∧ s = 8) ∧ ¬ (t = 268439576 ∧ s = 8) ∧ ¬ (t = 268443648 ∧ s = 8) ∧ ¬ (t = 268443656 ∧ s = 8) ∧ ¬ (t = 268443672 ∧ s = 8)) : ldF b F t s n = (bdZ, [], 0, false) := by
  obtain ⟨h0, h1, h2, h3, h4, h5, h6, h7, h9, h10, h11, h13⟩ := h
  unfold ldF
  rw [if_neg h0, if_neg h1, if_neg h2, if_neg h3, if_neg h4, if_neg h5, if_neg h6, if_neg h7, if_neg h9, if_neg h10, if_neg h11, if_neg h13]
/-- A board with its frames, told as a part of a result. -/
def Told (W : World) (r : Bd) (F : List ByteArray) (f : Value → Value) (e : Ending) (W' : World) : Prop :=
  ∃ p c, e = .returned (f (bdV (r.at p F.length c))) ∧ OwnF W' W.heap.size (.slice p F.length c) F ∧ Below W.heap.size W W'
theorem results_three {fn : Func} {p u x : Tmp} (h : fn.results = #[.cell p 35, .tmp u, .tmp x]) (tmps : Array Value) (w : World) (g : Nat) (k : Bd) (v y : Value) (hp : tmps.getD p undef = .pointer (some ⟨g, 0, none⟩)) (hg : Box w g k) (hv : tmps.getD u undef = v) (hy : tmps.getD x undef = y) :
    (results fn tmps).run Try.prog w = .ok (.tuple #[bdV k, v, y]) w := by
  have hp' : tmps[p]?.getD undef = .pointer (some ⟨g, 0, none⟩) := by simpa using hp
  have hv' : tmps[u]?.getD undef = v := by simpa using hv
  have hy' : tmps[x]?.getD undef = y := by simpa using hy
  simp [results, h, hp', hv', hy', asAddr, Box.result hg]
theorem results_two {fn : Func} {p u : Tmp} (h : fn.results = #[.cell p 35, .tmp u]) (tmps : Array Value) (w : World) (g : Nat) (k : Bd) (v : Value) (hp : tmps.getD p undef = .pointer (some ⟨g, 0, none⟩)) (hg : Box w g k) (hv : tmps.getD u undef = v) :
    (results fn tmps).run Try.prog w = .ok (.tuple #[bdV k, v]) w := by
  rw [results_cell_tmp h, hp, hv]
  simp [asAddr, Result.andThen, Box.result hg]
theorem fat_none (w : World) : FAt w (.slice none 0 0) [] := ⟨rfl, .inl ⟨rfl, rfl⟩⟩
theorem told_none {W W' : World} (f : Value → Value) (hb : Below W.heap.size W W') : Told W bdZ [] f (.returned (f (bdV bdZ))) W' := ⟨none, 0, rfl, World.ownsRow_nil W' _ _ _, hb⟩
theorem KA.more0 {W w : World} {b r : Bd} (k : KA W w b r) : KB W (w.alloc zeroO) w.heap.size b bdZ r := k.more bdZ
theorem KB.drewN {W w : World} {z : Nat} {b o r : Bd} (k : KB W w z b o r) (n : Nat) : KB W (w.drewN n) z b o r := k.next (below_drewN (Below.refl _ _) n)
theorem KA.drewN {W w : World} {b r : Bd} (k : KA W w b r) (n : Nat) : KA W (w.drewN n) b r := k.next (below_drewN (Below.refl _ _) n)
theorem OwnF.drewN {w : World} {B : Nat} {v : Value} {F : List ByteArray} (h : OwnF w B v F) (n : Nat) : OwnF (w.drewN n) B v F := h.next (below_drewN (Below.refl _ _) n)

end Go.Proofs.Ytnedhjaphfjdmaa
namespace Go
theorem exec_load {P : Program} {ρ : Operand → Value} {o : Oper} {t : TypeId} {p : Operand} (ho : o.op = .load t p) {v r : Value} {w : World} (hrun : (Instr.loadAt t v).run P w = .ok r w) (hp : ρ p = v) : (execOp ρ o).run P w = .ok (.value r) w := by
  unfold execOp
  simp [ho, hp, hrun, Result.andThen]
theorem still_load {P : Program} {ops : Array Oper} {w : World} {Q : Act → Prop} {rest : List Oper} {o : Oper} {a : Act} (hgd : o.guard = none) {t : TypeId} {p : Operand} (ho : o.op = .load t p) {v r : Value} (hrun : (Instr.loadAt t v).run P w = .ok r w) (hp : a.eval p = v) (h : wpStill P ops w Q rest (a.put o.dst r)) : wpStill P ops w Q (o :: rest) a := by
  refine wpStill_step fun K hK => ?_
  simp only [Region.wanted, hgd, if_true]
  unfold Oper.still
  rw [exec_load ho hrun hp]
  exact ⟨rfl, hK _ h⟩
theorem yields_load {P : Program} {ops : Array Oper} {S : World → Prop} {o : Oper} {a : Act} {t : TypeId} {p : Operand} {v r : Value} (hgd : o.guard = none) (ho : o.op = .load t p) (hp : a.eval p = v) (h : ∀ w, S w → (Instr.loadAt t v).run P w = .ok r w) : YieldsIf P ops S o r a :=
  .inl ⟨by simp [Region.wanted, hgd], fun w hw => exec_load ho (h w hw) hp⟩
theorem held_store {P : Program} {md : Region.Mode} {ops : Array Oper} {Q : Exit → Act → World → Prop} {S : World → Prop} {fuel : Nat} {listed : Array Bool} {a : Act} {w w' : World} {i : Nat} {o : Oper} {t : TypeId} {p x : Operand} {v u : Value}
    (hr : Region.ready md ops listed = [i]) (hi : ops[i]? = some o) (hgd : o.guard = none) (ho : o.op = .store t p x) (hp : a.eval p = v) (hx : a.eval x = u) (hrun : (Instr.storeAt t v u).run P w = .ok () w') (hS : S w')
    (h : wpAnyH P md ops Q S fuel (listed.setIfInBounds i true) (a.put o.dst undef) w') : wpAnyH P md ops Q S (fuel + 1) listed a w := by
  refine wpAnyH_ready (rs := [i]) hr (by simp) (AllReadyH.cons hi (fun K hK => ?_) AllReadyH.nil)
  simp only [Region.wanted, hgd, if_true]
  unfold Oper.wp
  simp [execOp, ho, hp, hx, hrun, Result.andThen]
  exact hK.out _ _ hS (fun _ => h)
theorem held_op {P : Program} {md : Region.Mode} {ops : Array Oper} {Q : Exit → Act → World → Prop} {S : World → Prop} {fuel : Nat} {listed : Array Bool} {a : Act} {w w' : World} {i : Nat} {o : Oper} {v : Value}
    (hr : Region.ready md ops listed = [i]) (hi : ops[i]? = some o) (hgd : o.guard = none) (hrun : (execOp a.eval o).run P w = .ok (.value v) w') (hS : S w')
    (h : wpAnyH P md ops Q S fuel (listed.setIfInBounds i true) (a.put o.dst v) w') : wpAnyH P md ops Q S (fuel + 1) listed a w := by
  refine wpAnyH_ready (rs := [i]) hr (by simp) (AllReadyH.cons hi (fun K hK => ?_) AllReadyH.nil)
  simp only [Region.wanted, hgd, if_true]
  unfold Oper.wp
  rw [hrun]
  exact hK.out _ _ hS (fun _ => h)
theorem held_call {P : Program} {md : Region.Mode} {ops : Array Oper} {Q : Exit → Act → World → Prop} {S : World → Prop} {fuel : Nat} {listed : Array Bool} {a : Act} {w : World} {i : Nat} {o : Oper} {v : Value} {f : FuncId} {args : Array Value}
    (hr : Region.ready md ops listed = [i]) (hi : ops[i]? = some o) (hgd : o.guard = none) (hrun : (execOp a.eval o).run P w = .ok (.enter f args) w) (hc : Calls P f args w fun e w' => e = .returned v ∧ w = w') (hS : S w)
    (h : wpAnyH P md ops Q S fuel (listed.setIfInBounds i true) (a.put o.dst v) w) : wpAnyH P md ops Q S (fuel + 1) listed a w := by
  refine wpAnyH_ready (rs := [i]) hr (by simp) (AllReadyH.cons hi (fun K hK => ?_) AllReadyH.nil)
  simp only [Region.wanted, hgd, if_true]
  unfold Oper.wp
  rw [hrun, Oper.upon_enter]
  refine hc.mono ?_
  rintro e w' ⟨rfl, rfl⟩
  exact hK.out _ _ hS (fun _ => h)

end Go
namespace Go.Proofs.Ytnedhjaphfjdmaa
open Go.RowKit Go.Deep Go.Joins

end Go.Proofs.Ytnedhjaphfjdmaa
