/- Further on the memory of a function. -/
import Derived.Test.YtnedhjaphfjdmaaDV
import Derived.Test.YtnedhjaphfjdmaaDNZ
namespace Go.Proofs.Ytnedhjaphfjdmaa
open Go.RowKit Go.Deep Go.Joins
theorem Mem.e0 {W w : World} {g : Nat} {k : Int} {s : ByteArray} {l : List (Nat × Array Value × Nat)} {r : List (Nat × Value × Nat × List Value)} (h : Mem W w ((g, #[.int .i64 k, .string s], 80) :: l) r) : EBox w g k s := h.cel (g, #[.int .i64 k, .string s], 80) (by simp)
theorem Mem.e1 {W w : World} {x0 : Nat × Array Value × Nat} {g : Nat} {k : Int} {s : ByteArray} {l : List (Nat × Array Value × Nat)} {r : List (Nat × Value × Nat × List Value)} (h : Mem W w (x0 :: (g, #[.int .i64 k, .string s], 80) :: l) r) : EBox w g k s := h.cel (g, #[.int .i64 k, .string s], 80) (by simp)
theorem Mem.e2 {W w : World} {x0 x1 : Nat × Array Value × Nat} {g : Nat} {k : Int} {s : ByteArray} {l : List (Nat × Array Value × Nat)} {r : List (Nat × Value × Nat × List Value)} (h : Mem W w (x0 :: x1 :: (g, #[.int .i64 k, .string s], 80) :: l) r) : EBox w g k s := h.cel (g, #[.int .i64 k, .string s], 80) (by simp)
theorem Mem.e3 {W w : World} {x0 x1 x2 : Nat × Array Value × Nat} {g : Nat} {k : Int} {s : ByteArray} {l : List (Nat × Array Value × Nat)} {r : List (Nat × Value × Nat × List Value)} (h : Mem W w (x0 :: x1 :: x2 :: (g, #[.int .i64 k, .string s], 80) :: l) r) : EBox w g k s := h.cel (g, #[.int .i64 k, .string s], 80) (by simp)
theorem Mem.e4 {W w : World} {x0 x1 x2 x3 : Nat × Array Value × Nat} {g : Nat} {k : Int} {s : ByteArray} {l : List (Nat × Array Value × Nat)} {r : List (Nat × Value × Nat × List Value)} (h : Mem W w (x0 :: x1 :: x2 :: x3 :: (g, #[.int .i64 k, .string s], 80) :: l) r) : EBox w g k s := h.cel (g, #[.int .i64 k, .string s], 80) (by simp)
theorem Mem.e5 {W w : World} {x0 x1 x2 x3 x4 : Nat × Array Value × Nat} {g : Nat} {k : Int} {s : ByteArray} {l : List (Nat × Array Value × Nat)} {r : List (Nat × Value × Nat × List Value)} (h : Mem W w (x0 :: x1 :: x2 :: x3 :: x4 :: (g, #[.int .i64 k, .string s], 80) :: l) r) : EBox w g k s := h.cel (g, #[.int .i64 k, .string s], 80) (by simp)
theorem Mem.e6 {W w : World} {x0 x1 x2 x3 x4 x5 : Nat × Array Value × Nat} {g : Nat} {k : Int} {s : ByteArray} {l : List (Nat × Array Value × Nat)} {r : List (Nat × Value × Nat × List Value)} (h : Mem W w (x0 :: x1 :: x2 :: x3 :: x4 :: x5 :: (g, #[.int .i64 k, .string s], 80) :: l) r) : EBox w g k s := h.cel (g, #[.int .i64 k, .string s], 80) (by simp)
theorem Mem.e7 {W w : World} {x0 x1 x2 x3 x4 x5 x6 : Nat × Array Value × Nat} {g : Nat} {k : Int} {s : ByteArray} {l : List (Nat × Array Value × Nat)} {r : List (Nat × Value × Nat × List Value)} (h : Mem W w (x0 :: x1 :: x2 :: x3 :: x4 :: x5 :: x6 :: (g, #[.int .i64 k, .string s], 80) :: l) r) : EBox w g k s := h.cel (g, #[.int .i64 k, .string s], 80) (by simp)
theorem Mem.newZ {W w : World} {l : List (Nat × Array Value × Nat)} {r : List (Nat × Value × Nat × List Value)} (h : Mem W w l r) : Mem W (w.alloc zeroO) ((w.heap.size, bdC bdZ, 35) :: l) r := h.new (bdC bdZ) 35 (by decide)
theorem Mem.newE {W w : World} {l : List (Nat × Array Value × Nat)} {r : List (Nat × Value × Nat × List Value)} (h : Mem W w l r) : Mem W (w.alloc effO) ((w.heap.size, #[.int .i64 0, .string ⟨#[]⟩], 80) :: l) r := h.new _ 80 (by decide)
theorem Mem.newZE {W w : World} {l : List (Nat × Array Value × Nat)} {r : List (Nat × Value × Nat × List Value)} (h : Mem W w l r) : Mem W ((w.alloc zeroO).alloc effO) ((w.heap.size + 1, #[.int .i64 0, .string ⟨#[]⟩], 80) :: (w.heap.size, bdC bdZ, 35) :: l) r := by
  have k := h.newZ.newE
  rwa [World.size_alloc] at k
theorem FAt.of {w : World} {B : Nat} {v : Value} {F : List ByteArray} (h : w.ownsRow B 9 1 v F.length (sC F)) : FAt w v F := reads_of_owns h
/-- A world in which all that was there is as it was. -/
structure Near (w : World) where
  wx : World
  near : Below w.heap.size w wx
theorem wp_region_near {P : Program} {id : Nat} {Q : Exit → Act → World → Prop} {a : Act} {w : World} {l : List Oper} (hm : P.follows .mixedOrders = true) (hB : Region.lexB .any l.toArray = true)
    (h : wpQuiet P l.toArray (fun w' => ∃ p : Near w, w' = p.wx) (fun a' => ∀ w', (∃ p : Near w, w' = p.wx) → Q .normal a' w') l a) : (Code.region id l.toArray true).wp P Q a w :=
  wp_region_quiet (C := fun w' => ∃ p : Near w, w' = p.wx) hm hB ⟨⟨w.drew, (Below.refl _ _).drew⟩, rfl⟩ (by simpa using h)
theorem near_call {P : Program} {f : FuncId} {args : Array Value} {w : World} {p : Near w} {v : Value} (h : Calls P f args p.wx fun e w' => e = .returned v ∧ Below p.wx.heap.size p.wx w') :
    Calls P f args p.wx fun e w'' => e = .returned v ∧ ∃ p : Near w, w'' = p.wx :=
  h.mono fun _ _ ⟨he, hb⟩ => ⟨he, ⟨_, below_then p.near hb⟩, rfl⟩
theorem quiet_by {P : Program} {a : Act} {C : World → Prop} {o : Oper} {K : Act → Prop} (r : Value) (hrun : ∀ w, C w → (execOp a.eval o).run P w = .ok (.value r) w) (hk : K (a.put o.dst r)) : o.quiet P a C K :=
  ⟨r, fun w hw => by unfold Oper.quietAt; rw [hrun w hw]; exact ⟨rfl, rfl⟩, hk⟩
theorem near_load {w : World} {g : Nat} {b : Bd} (k : Box w g b) (w' : World) (hw : ∃ p : Near w, w' = p.wx) : (Instr.loadAt 35 (.pointer (some ⟨g, 0, none⟩))).run Try.prog w' = .ok (bdV b) w' := by
  obtain ⟨p, rfl⟩ := hw
  exact (k.next p.near).load

end Go.Proofs.Ytnedhjaphfjdmaa
namespace Go
theorem yields_loadw {P : Program} {ops : Array Oper} {S : World → Prop} {o : Oper} {a : Act} {t : TypeId} {p : Operand} {v r : Value} (hgd : Region.wanted o (yielded ops a.tmps) = true) (ho : o.op = .load t p) (hp : a.eval p = v) (h : ∀ w, S w → (Instr.loadAt t v).run P w = .ok r w) : YieldsIf P ops S o r a :=
  .inl ⟨hgd, fun w hw => exec_load ho (h w hw) hp⟩
theorem held_calls {P : Program} {md : Region.Mode} {ops : Array Oper} {Q : Exit → Act → World → Prop} {S : World → Prop} {fuel : Nat} {listed : Array Bool} {a : Act} {w : World} {i : Nat} {o : Oper} {f : FuncId} {args : Array Value} {R : Value → World → Prop}
    (hr : Region.ready md ops listed = [i]) (hi : ops[i]? = some o) (hgd : Region.wanted o (yielded ops a.tmps) = true) (hrun : (execOp a.eval o).run P w = .ok (.enter f args) w) (hc : Calls P f args w fun e w' => ∃ v, e = .returned v ∧ R v w')
    (h : ∀ v w', R v w' → S w' ∧ (S w' → wpAnyH P md ops Q S fuel (listed.setIfInBounds i true) (a.put o.dst v) w')) : wpAnyH P md ops Q S (fuel + 1) listed a w := by
  refine wpAnyH_ready (rs := [i]) hr (by simp) (AllReadyH.cons hi (fun K hK => ?_) AllReadyH.nil)
  rw [if_pos hgd]
  unfold Oper.wp
  rw [hrun, Oper.upon_enter]
  refine hc.mono ?_
  rintro e w' ⟨v, rfl, hR⟩
  obtain ⟨h1, h2⟩ := h v w' hR
  exact hK.out _ _ h1 h2

end Go
namespace Go.Proofs.Ytnedhjaphfjdmaa
open Go.RowKit Go.Deep Go.Joins

end Go.Proofs.Ytnedhjaphfjdmaa

namespace Go
theorem cons_op {P : Program} {md : Region.Mode} {ops : Array Oper} {Q : Exit → Act → World → Prop} {S : World → Prop} {fuel : Nat} {listed : Array Bool} {a : Act} {w w' : World} {i : Nat} {o : Oper} {v : Value} {rs : List Nat}
    (hi : ops[i]? = some o) (hgd : o.guard = none) (hrun : (execOp a.eval o).run P w = .ok (.value v) w') (hS : S w')
    (h : wpAnyH P md ops Q S fuel (listed.setIfInBounds i true) (a.put o.dst v) w') (hs : AllReadyH P md ops Q S fuel listed a w rs) : AllReadyH P md ops Q S fuel listed a w (i :: rs) := by
  refine AllReadyH.cons hi (fun K hK => ?_) hs
  simp only [Region.wanted, hgd, if_true]
  unfold Oper.wp
  rw [hrun]
  exact hK.out _ _ hS (fun _ => h)
theorem cons_store {P : Program} {md : Region.Mode} {ops : Array Oper} {Q : Exit → Act → World → Prop} {S : World → Prop} {fuel : Nat} {listed : Array Bool} {a : Act} {w w' : World} {i : Nat} {o : Oper} {t : TypeId} {p x : Operand} {v u : Value} {rs : List Nat}
    (hi : ops[i]? = some o) (hgd : o.guard = none) (ho : o.op = .store t p x) (hp : a.eval p = v) (hx : a.eval x = u) (hrun : (Instr.storeAt t v u).run P w = .ok () w') (hS : S w')
    (h : wpAnyH P md ops Q S fuel (listed.setIfInBounds i true) (a.put o.dst undef) w') (hs : AllReadyH P md ops Q S fuel listed a w rs) : AllReadyH P md ops Q S fuel listed a w (i :: rs) := by
  refine AllReadyH.cons hi (fun K hK => ?_) hs
  simp only [Region.wanted, hgd, if_true]
  unfold Oper.wp
  simp [execOp, ho, hp, hx, hrun, Result.andThen]
  exact hK.out _ _ hS (fun _ => h)
theorem cons_calls {P : Program} {md : Region.Mode} {ops : Array Oper} {Q : Exit → Act → World → Prop} {S : World → Prop} {fuel : Nat} {listed : Array Bool} {a : Act} {w : World} {i : Nat} {o : Oper} {f : FuncId} {args : Array Value} {R : Value → World → Prop} {rs : List Nat}
    (hi : ops[i]? = some o) (hgd : Region.wanted o (yielded ops a.tmps) = true) (hrun : (execOp a.eval o).run P w = .ok (.enter f args) w) (hc : Calls P f args w fun e w' => ∃ v, e = .returned v ∧ R v w')
    (h : ∀ v w', R v w' → S w' ∧ (S w' → wpAnyH P md ops Q S fuel (listed.setIfInBounds i true) (a.put o.dst v) w')) (hs : AllReadyH P md ops Q S fuel listed a w rs) : AllReadyH P md ops Q S fuel listed a w (i :: rs) := by
  refine AllReadyH.cons hi (fun K hK => ?_) hs
  rw [if_pos hgd]
  unfold Oper.wp
  rw [hrun, Oper.upon_enter]
  refine hc.mono ?_
  rintro e w' ⟨v, rfl, hR⟩
  obtain ⟨h1, h2⟩ := h v w' hR
  exact hK.out _ _ h1 h2
end Go
namespace Go.Proofs.Ytnedhjaphfjdmaa
open Go.RowKit Go.Deep Go.Joins
theorem calls_copied {f : FuncId} {args : Array Value} {w : World} {b : Bd} {F : List ByteArray} (h : Calls Try.prog f args w (Copied w b F)) : Calls Try.prog f args w fun e w' => ∃ u, e = .returned u ∧ (∃ p c, u = bdV (b.at p F.length c) ∧ OwnF w' w.heap.size (.slice p F.length c) F ∧ Below w.heap.size w w') :=
  h.mono fun _ _ ⟨p, c, he, ho, hb⟩ => ⟨_, he, p, c, rfl, ho, hb⟩
end Go.Proofs.Ytnedhjaphfjdmaa
