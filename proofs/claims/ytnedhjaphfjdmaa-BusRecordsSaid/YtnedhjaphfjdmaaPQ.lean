/- Near. -/
import Derived.Test.YtnedhjaphfjdmaaPB
namespace Go.Proofs.Ytnedhjaphfjdmaa.Pc
open Go.RowKit Go.Deep Go.Joins
theorem plG : Try.prog.eqGuardType Try.prog.depth 33 = false := by kernel_rfl
/-- A world in which all that was there is as it was. -/
structure Near (w : World) where
  wx : World
  near : Below w.heap.size w wx
theorem wp_region_near {P : Program} {id : Nat} {Q : Exit → Act → World → Prop} {a : Act} {w : World} {l : List Oper} (hm : P.follows .mixedOrders = true) (hB : Region.lexB .any l.toArray = true)
    (h : wpQuiet P l.toArray (fun w' => ∃ p : Near w, w' = p.wx) (fun a' => ∀ w', (∃ p : Near w, w' = p.wx) → Q .normal a' w') l a) : (Code.region id l.toArray true).wp P Q a w :=
  wp_region_quiet (C := fun w' => ∃ p : Near w, w' = p.wx) hm hB ⟨⟨w.drew, (Below.refl _ _).drew⟩, rfl⟩ (by simpa using h)
theorem near_call {P : Program} {f : FuncId} {args : Array Value} {w : World} {p : Near w} {v : Value} (h : Calls P f args p.wx fun e w' => e = .returned v ∧ Below p.wx.heap.size p.wx w') :
    Calls P f args p.wx fun e w'' => e = .returned v ∧ ∃ p : Near w, w'' = p.wx :=
  h.mono fun _ _ ⟨he, hb⟩ => ⟨he, ⟨_, below_then p.near (Nat.le_refl _) hb⟩, rfl⟩
theorem near_same {P : Program} {f : FuncId} {args : Array Value} {w : World} {p : Near w} {v : Value} (h : Calls P f args p.wx fun e w' => e = .returned v ∧ p.wx = w') :
    Calls P f args p.wx fun e w'' => e = .returned v ∧ ∃ p : Near w, w'' = p.wx :=
  h.mono fun _ _ ⟨he, hb⟩ => ⟨he, p, hb.symm⟩
theorem quiet_by {P : Program} {a : Act} {C : World → Prop} {o : Oper} {K : Act → Prop} (r : Value) (hrun : ∀ w, C w → (execOp a.eval o).run P w = .ok (.value r) w) (hk : K (a.put o.dst r)) : o.quiet P a C K :=
  ⟨r, fun w hw => by unfold Oper.quietAt; rw [hrun w hw]; exact ⟨rfl, rfl⟩, hk⟩
theorem exec_load {P : Program} {ρ : Operand → Value} {o : Oper} {t : TypeId} {p : Operand} (ho : o.op = .load t p) {v r : Value} {w : World} (hrun : (Instr.loadAt t v).run P w = .ok r w) (hp : ρ p = v) : (execOp ρ o).run P w = .ok (.value r) w := by
  unfold execOp
  simp [ho, hp, hrun, Result.andThen]
theorem wpList_exec {w : World} {ops : Array Oper} {rest : List Oper} {o : Oper} {a : Act} {Q : Exit → Act → World → Prop} (hgd : Region.wanted o (yielded ops a.tmps) = true) {r : Value} (hrun : (execOp a.eval o).run Try.prog w = .ok (.value r) w)
    (h : wpList Try.prog ops Q rest (a.put o.dst r) w) : wpList Try.prog ops Q (o :: rest) a w := by
  refine wpList_step fun K hK => ?_
  rw [if_pos hgd]
  unfold Oper.wp
  rw [hrun]
  exact hK _ _ h
theorem near_load {w : World} {b : Nat} {h : Pl} (k : Box w b h) (w' : World) (hw : ∃ p : Near w, w' = p.wx) : (Instr.loadAt 33 (.pointer (some ⟨b, 0, none⟩))).run Try.prog w' = .ok (plV h) w' := by
  obtain ⟨p, rfl⟩ := hw
  exact (k.next p.near).load
theorem near_p0 {w : World} {b : Nat} {h : Pl} (k : Box w b h) (w' : World) (hw : ∃ p : Near w, w' = p.wx) : (Instr.loadAt 29 (.pointer (some ⟨b, 0, none⟩))).run Try.prog w' = .ok (.int .u32 h.p0) w' := by
  obtain ⟨p, rfl⟩ := hw
  exact (k.next p.near).load_p0
theorem near_p1 {w : World} {b : Nat} {h : Pl} (k : Box w b h) (w' : World) (hw : ∃ p : Near w, w' = p.wx) : (Instr.loadAt 29 (.pointer (some ⟨b, 1, none⟩))).run Try.prog w' = .ok (.int .u32 h.p1) w' := by
  obtain ⟨p, rfl⟩ := hw
  exact (k.next p.near).load_p1
theorem near_p2 {w : World} {b : Nat} {h : Pl} (k : Box w b h) (w' : World) (hw : ∃ p : Near w, w' = p.wx) : (Instr.loadAt 29 (.pointer (some ⟨b, 2, none⟩))).run Try.prog w' = .ok (.int .u32 h.p2) w' := by
  obtain ⟨p, rfl⟩ := hw
  exact (k.next p.near).load_p2
theorem near_p3 {w : World} {b : Nat} {h : Pl} (k : Box w b h) (w' : World) (hw : ∃ p : Near w, w' = p.wx) : (Instr.loadAt 29 (.pointer (some ⟨b, 3, none⟩))).run Try.prog w' = .ok (.int .u32 h.p3) w' := by
  obtain ⟨p, rfl⟩ := hw
  exact (k.next p.near).load_p3
theorem near_e0 {w : World} {b : Nat} {h : Pl} (k : Box w b h) (w' : World) (hw : ∃ p : Near w, w' = p.wx) : (Instr.loadAt 29 (.pointer (some ⟨b, 4, none⟩))).run Try.prog w' = .ok (.int .u32 h.e0) w' := by
  obtain ⟨p, rfl⟩ := hw
  exact (k.next p.near).load_e0
theorem near_e1 {w : World} {b : Nat} {h : Pl} (k : Box w b h) (w' : World) (hw : ∃ p : Near w, w' = p.wx) : (Instr.loadAt 29 (.pointer (some ⟨b, 5, none⟩))).run Try.prog w' = .ok (.int .u32 h.e1) w' := by
  obtain ⟨p, rfl⟩ := hw
  exact (k.next p.near).load_e1
theorem near_l0 {w : World} {b : Nat} {h : Pl} (k : Box w b h) (w' : World) (hw : ∃ p : Near w, w' = p.wx) : (Instr.loadAt 29 (.pointer (some ⟨b, 6, none⟩))).run Try.prog w' = .ok (.int .u32 h.l0) w' := by
  obtain ⟨p, rfl⟩ := hw
  exact (k.next p.near).load_l0
theorem near_l1 {w : World} {b : Nat} {h : Pl} (k : Box w b h) (w' : World) (hw : ∃ p : Near w, w' = p.wx) : (Instr.loadAt 29 (.pointer (some ⟨b, 7, none⟩))).run Try.prog w' = .ok (.int .u32 h.l1) w' := by
  obtain ⟨p, rfl⟩ := hw
  exact (k.next p.near).load_l1
theorem near_c {w : World} {b : Nat} {h : Pl} (k : Box w b h) (w' : World) (hw : ∃ p : Near w, w' = p.wx) : (Instr.loadAt 29 (.pointer (some ⟨b, 8, none⟩))).run Try.prog w' = .ok (.int .u32 h.c) w' := by
  obtain ⟨p, rfl⟩ := hw
  exact (k.next p.near).load_c

end Go.Proofs.Ytnedhjaphfjdmaa.Pc
