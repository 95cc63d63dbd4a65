/- What a write tells. Further on the memory of a function. -/
import Derived.Test.YtgflnfmnjlmenaaYDLZ
import Derived.Test.YtgflnfmnjlmenaaYDV
namespace Go.Proofs.Ytgflnfmnjlmenaa
open Go.RowKit Go.Deep Go.Joins
/-- The low byte of a number. -/
def outS (v : Int) : ByteArray := ⟨#[UInt8.ofNat v.toNat]⟩
/-- What a write does: the board behind it, its frames, its effect, and whether there is something to be written so. -/
def stF (b : Bd) (F : List ByteArray) (t s v : Int) : Bd × List ByteArray × Int × ByteArray × Bool :=
  if t = 33554432 ∧ s = 4 then ({ b with msip := bits .and .u64 v 1 == 1 }, F, 0, ⟨#[]⟩, true) else
  if t = 33570816 ∧ s = 8 then ({ b with cmp := v }, F, 0, ⟨#[]⟩, true) else
  if t = 268435456 ∧ s = 1 then (b, F, 1, outS v, true) else
  if t = 268435457 ∧ s = 1 then ({ b with ier := bits .and .u64 v 1 == 1 }, F, 0, ⟨#[]⟩, true) else
  if t = 268439552 ∧ s = 8 then ({ b with sector := v }, F, 0, ⟨#[]⟩, true) else
  if t = 268439560 ∧ s = 8 then ({ b with addr := v }, F, 0, ⟨#[]⟩, true) else
  if t = 268439568 ∧ s = 8 then (b, F, ordV v 2 3, ⟨#[]⟩, true) else
  if t = 268443656 ∧ s = 8 then ({ b with nicA := v }, F, 0, ⟨#[]⟩, true) else
  if t = 268443664 ∧ s = 8 then (b, F, ordV v 4 5, ⟨#[]⟩, true) else
  if t = 268443672 ∧ s = 8 then ({ b with nicL := v }, F, 0, ⟨#[]⟩, true) else
  (bdZ, [], 0, ⟨#[]⟩, false)
theorem stF_none (b : Bd) (F : List ByteArray) (t s v : Int) (h : ¬ (t = 33554432 ∧ s = 4) ∧ ¬ (t = 33570816 ∧ s = 8) ∧ ¬ (t = 268435456 ∧ s = 1) ∧ ¬ (t = 268435457 ∧ s = 1) ∧ ¬ (t = 268439552 ∧ s = 8) ∧ ¬ (t = 268439560 ∧ s = 8) ∧ ¬ (t = 268439568 ∧ s = 8) ∧ ¬ (t = 268443656 ∧ s = 8) ∧ ¬ (t = 268443664 ∧ s = 8) ∧ ¬ (t = 268443672 ∧ s = 8)) : stF b F t s v = (bdZ, [], 0, ⟨#[]⟩, false) := by
  obtain ⟨h0, h1, h3, h4, h6, h7, h8, h11, h12, h13⟩ := h
  unfold stF
  rw [if_neg h0, if_neg h1, if_neg h3, if_neg h4, if_neg h6, if_neg h7, if_neg h8, if_neg h11, if_neg h12, if_neg h13]
end Go.Proofs.Ytgflnfmnjlmenaa
namespace Go.Proofs.Ytgflnfmnjlmenaa
open Go.RowKit Go.Deep Go.Joins
theorem Mem.newZ {W w : World} {l : List (Nat × Array Value × Nat)} {r : List (Nat × Value × Nat × List Value)} (h : Mem W w l r) : Mem W (w.alloc zeroO) ((w.heap.size, bdC bdZ, 35) :: l) r := h.new (bdC bdZ) 35 (by decide)
theorem FAt.of {w : World} {B : Nat} {v : Value} {F : List ByteArray} (h : w.ownsRow B 9 1 v F.length (sC F)) : FAt w v F := reads_of_owns h
/-- A world in which all that was there is as it was. -/
structure Near (w : World) where
  wx : World
  near : Below w.heap.size w wx
theorem wp_region_near {P : Program} {id : Nat} {Q : Exit → Act → World → Prop} {a : Act} {w : World} {l : List Oper} (hm : P.follows .mixedOrders = true) (hB : Region.lexB .any l.toArray = true)
    (h : wpQuiet P l.toArray (fun w' => ∃ p : Near w, w' = p.wx) (fun a' => ∀ w', (∃ p : Near w, w' = p.wx) → Q .normal a' w') l a) : (Code.region id l.toArray true).wp P Q a w :=
  wp_region_quiet (C := fun w' => ∃ p : Near w, w' = p.wx) hm hB ⟨⟨w.drew, (Below.refl _ _).drew⟩, rfl⟩ (by simpa using h)
theorem near_call {P : Program} {f : FuncId} {args : Array Value} {w : World} {p : Near w} {v : Value} (h : Calls P f args p.wx fun e w' => e = .returned v ∧ Below p.wx.heap.size p.wx w') :
    Calls P f args p.wx fun e w'' => e = .returned v ∧ ∃ p : Near w, w'' = p.wx :=
  h.mono fun _ _ ⟨he, hb⟩ => ⟨he, ⟨_, below_then p.near hb⟩, rfl⟩
theorem quiet_by {P : Program} {a : Act} {C : World → Prop} {o : Oper} {K : Act → Prop} (r : Value) (hrun : ∀ w, C w → (execOp a.eval o).run P w = .ok (.value r) w) (hk : K (a.put o.dst r)) : o.quiet P a C K :=
  ⟨r, fun w hw => by unfold Oper.quietAt; rw [hrun w hw]; exact ⟨rfl, rfl⟩, hk⟩
theorem near_load {w : World} {g : Nat} {b : Bd} (k : Box w g b) (w' : World) (hw : ∃ p : Near w, w' = p.wx) : (Instr.loadAt 35 (.pointer (some ⟨g, 0, none⟩))).run Try.prog w' = .ok (bdV b) w' := by
  obtain ⟨p, rfl⟩ := hw
  exact (k.next p.near).load

end Go.Proofs.Ytgflnfmnjlmenaa
namespace Go
theorem yields_loadw {P : Program} {ops : Array Oper} {S : World → Prop} {o : Oper} {a : Act} {t : TypeId} {p : Operand} {v r : Value} (hgd : Region.wanted o (yielded ops a.tmps) = true) (ho : o.op = .load t p) (hp : a.eval p = v) (h : ∀ w, S w → (Instr.loadAt t v).run P w = .ok r w) : YieldsIf P ops S o r a :=
  .inl ⟨hgd, fun w hw => exec_load ho (h w hw) hp⟩
theorem held_calls {P : Program} {md : Region.Mode} {ops : Array Oper} {Q : Exit → Act → World → Prop} {S : World → Prop} {fuel : Nat} {listed : Array Bool} {a : Act} {w : World} {i : Nat} {o : Oper} {f : FuncId} {args : Array Value} {R : Value → World → Prop}
    (hr : Region.ready md ops listed = [i]) (hi : ops[i]? = some o) (hgd : Region.wanted o (yielded ops a.tmps) = true) (hrun : (execOp a.eval o).run P w = .ok (.enter f args) w) (hc : Calls P f args w fun e w' => ∃ v, e = .returned v ∧ R v w')
    (h : ∀ v w', R v w' → S w' ∧ (S w' → wpAnyH P md ops Q S fuel (listed.setIfInBounds i true) (a.put o.dst v) w')) : wpAnyH P md ops Q S (fuel + 1) listed a w := by
  refine wpAnyH_ready (rs := [i]) hr (by simp) (AllReadyH.cons hi (fun K hK => ?_) AllReadyH.nil)
  rw [if_pos hgd]
  unfold Oper.wp
  rw [hrun, Oper.upon_enter]
  refine hc.mono ?_
  rintro e w' ⟨v, rfl, hR⟩
  obtain ⟨h1, h2⟩ := h v w' hR
  exact hK.out _ _ h1 h2

end Go
namespace Go.Proofs.Ytgflnfmnjlmenaa
open Go.RowKit Go.Deep Go.Joins

end Go.Proofs.Ytgflnfmnjlmenaa

namespace Go
theorem cons_op {P : Program} {md : Region.Mode} {ops : Array Oper} {Q : Exit → Act → World → Prop} {S : World → Prop} {fuel : Nat} {listed : Array Bool} {a : Act} {w w' : World} {i : Nat} {o : Oper} {v : Value} {rs : List Nat}
    (hi : ops[i]? = some o) (hgd : o.guard = none) (hrun : (execOp a.eval o).run P w = .ok (.value v) w') (hS : S w')
    (h : wpAnyH P md ops Q S fuel (listed.setIfInBounds i true) (a.put o.dst v) w') (hs : AllReadyH P md ops Q S fuel listed a w rs) : AllReadyH P md ops Q S fuel listed a w (i :: rs) := by
  refine AllReadyH.cons hi (fun K hK => ?_) hs
  simp only [Region.wanted, hgd, if_true]
  unfold Oper.wp
  rw [hrun]
  exact hK.out _ _ hS (fun _ => h)
theorem cons_store {P : Program} {md : Region.Mode} {ops : Array Oper} {Q : Exit → Act → World → Prop} {S : World → Prop} {fuel : Nat} {listed : Array Bool} {a : Act} {w w' : World} {i : Nat} {o : Oper} {t : TypeId} {p x : Operand} {v u : Value} {rs : List Nat}
    (hi : ops[i]? = some o) (hgd : o.guard = none) (ho : o.op = .store t p x) (hp : a.eval p = v) (hx : a.eval x = u) (hrun : (Instr.storeAt t v u).run P w = .ok () w') (hS : S w')
    (h : wpAnyH P md ops Q S fuel (listed.setIfInBounds i true) (a.put o.dst undef) w') (hs : AllReadyH P md ops Q S fuel listed a w rs) : AllReadyH P md ops Q S fuel listed a w (i :: rs) := by
  refine AllReadyH.cons hi (fun K hK => ?_) hs
  simp only [Region.wanted, hgd, if_true]
  unfold Oper.wp
  simp [execOp, ho, hp, hx, hrun, Result.andThen]
  exact hK.out _ _ hS (fun _ => h)
theorem cons_calls {P : Program} {md : Region.Mode} {ops : Array Oper} {Q : Exit → Act → World → Prop} {S : World → Prop} {fuel : Nat} {listed : Array Bool} {a : Act} {w : World} {i : Nat} {o : Oper} {f : FuncId} {args : Array Value} {R : Value → World → Prop} {rs : List Nat}
    (hi : ops[i]? = some o) (hgd : Region.wanted o (yielded ops a.tmps) = true) (hrun : (execOp a.eval o).run P w = .ok (.enter f args) w) (hc : Calls P f args w fun e w' => ∃ v, e = .returned v ∧ R v w')
    (h : ∀ v w', R v w' → S w' ∧ (S w' → wpAnyH P md ops Q S fuel (listed.setIfInBounds i true) (a.put o.dst v) w')) (hs : AllReadyH P md ops Q S fuel listed a w rs) : AllReadyH P md ops Q S fuel listed a w (i :: rs) := by
  refine AllReadyH.cons hi (fun K hK => ?_) hs
  rw [if_pos hgd]
  unfold Oper.wp
  rw [hrun, Oper.upon_enter]
  refine hc.mono ?_
  rintro e w' ⟨v, rfl, hR⟩
  obtain ⟨h1, h2⟩ := h v w' hR
  exact hK.out _ _ h1 h2
end Go
namespace Go.Proofs.Ytgflnfmnjlmenaa
open Go.RowKit Go.Deep Go.Joins
theorem calls_copied {f : FuncId} {args : Array Value} {w : World} {b : Bd} {F : List ByteArray} (h : Calls Try.prog f args w (Copied w b F)) : Calls Try.prog f args w fun e w' => ∃ u, e = .returned u ∧ (∃ p c, u = bdV (b.at p F.length c) ∧ OwnF w' w.heap.size (.slice p F.length c) F ∧ Below w.heap.size w w') :=
  h.mono fun _ _ ⟨p, c, he, ho, hb⟩ => ⟨_, he, p, c, rfl, ho, hb⟩
end Go.Proofs.Ytgflnfmnjlmenaa
