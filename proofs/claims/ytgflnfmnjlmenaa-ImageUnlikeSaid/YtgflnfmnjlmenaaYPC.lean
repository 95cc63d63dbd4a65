/- waiting, bit, place. Near. Best of the program. -/
import Derived.Test.YtgflnfmnjlmenaaYPS
namespace Go.Proofs.Ytgflnfmnjlmenaa.Pc
open Go.RowKit Go.Deep Go.Joins
/-- The sources that wait. -/
def waitV (s c : Int) : Int := bits .and .u32 (bits .andNot .u32 s c) 14
/-- It has no bits but those of the sources. -/
def onlyB (x : Int) : Bool := bits .andNot .u32 x 14 == 0
theorem big_none (k : Nat) (h : k ≤ 32) (h4 : 4 ≤ k) : bits .and .u32 (2 ^ k % 4294967296) 14 = 0 := by
  revert k
  decide +kernel
/-- Nothing lies at the address. -/
structure NoPlace (t : Int) : Prop where
  n_p1 : ¬ t = 201326596
  n_p2 : ¬ t = 201326600
  n_p3 : ¬ t = 201326604
  n_wait : ¬ t = 201330688
  n_e0 : ¬ t = 201334784
  n_e1 : ¬ t = 201334912
  n_l0 : ¬ t = 203423744
  n_l1 : ¬ t = 203427840
  n_b0 : ¬ t = 203423748
  n_b1 : ¬ t = 203427844
def rplV (o f s : Int) : Int := if (o == f) = true then 0 else if (o == IntKind.u64.wrap (f + s)) = true then 1 else -1
end Go.Proofs.Ytgflnfmnjlmenaa.Pc
namespace Go.Proofs.Ytgflnfmnjlmenaa.Pc
open Go.RowKit Go.Deep Go.Joins
theorem plG : Try.prog.eqGuardType Try.prog.depth 33 = false := by kernel_rfl
/-- A world in which all that was there is as it was. -/
structure Near (w : World) where
  wx : World
  near : Below w.heap.size w wx
theorem wp_region_near {P : Program} {id : Nat} {Q : Exit → Act → World → Prop} {a : Act} {w : World} {l : List Oper} (hm : P.follows .mixedOrders = true) (hB : Region.lexB .any l.toArray = true)
    (h : wpQuiet P l.toArray (fun w' => ∃ p : Near w, w' = p.wx) (fun a' => ∀ w', (∃ p : Near w, w' = p.wx) → Q .normal a' w') l a) : (Code.region id l.toArray true).wp P Q a w :=
  wp_region_quiet (C := fun w' => ∃ p : Near w, w' = p.wx) hm hB ⟨⟨w.drew, (Below.refl _ _).drew⟩, rfl⟩ (by simpa using h)
theorem near_call {P : Program} {f : FuncId} {args : Array Value} {w : World} {p : Near w} {v : Value} (h : Calls P f args p.wx fun e w' => e = .returned v ∧ Below p.wx.heap.size p.wx w') :
    Calls P f args p.wx fun e w'' => e = .returned v ∧ ∃ p : Near w, w'' = p.wx :=
  h.mono fun _ _ ⟨he, hb⟩ => ⟨he, ⟨_, below_then p.near (Nat.le_refl _) hb⟩, rfl⟩
theorem near_same {P : Program} {f : FuncId} {args : Array Value} {w : World} {p : Near w} {v : Value} (h : Calls P f args p.wx fun e w' => e = .returned v ∧ p.wx = w') :
    Calls P f args p.wx fun e w'' => e = .returned v ∧ ∃ p : Near w, w'' = p.wx :=
  h.mono fun _ _ ⟨he, hb⟩ => ⟨he, p, hb.symm⟩
theorem quiet_by {P : Program} {a : Act} {C : World → Prop} {o : Oper} {K : Act → Prop} (r : Value) (hrun : ∀ w, C w → (execOp a.eval o).run P w = .ok (.value r) w) (hk : K (a.put o.dst r)) : o.quiet P a C K :=
  ⟨r, fun w hw => by unfold Oper.quietAt; rw [hrun w hw]; exact ⟨rfl, rfl⟩, hk⟩
theorem exec_load {P : Program} {ρ : Operand → Value} {o : Oper} {t : TypeId} {p : Operand} (ho : o.op = .load t p) {v r : Value} {w : World} (hrun : (Instr.loadAt t v).run P w = .ok r w) (hp : ρ p = v) : (execOp ρ o).run P w = .ok (.value r) w := by
  unfold execOp
  simp [ho, hp, hrun, Result.andThen]
theorem wpList_exec {w : World} {ops : Array Oper} {rest : List Oper} {o : Oper} {a : Act} {Q : Exit → Act → World → Prop} (hgd : Region.wanted o (yielded ops a.tmps) = true) {r : Value} (hrun : (execOp a.eval o).run Try.prog w = .ok (.value r) w)
    (h : wpList Try.prog ops Q rest (a.put o.dst r) w) : wpList Try.prog ops Q (o :: rest) a w := by
  refine wpList_step fun K hK => ?_
  rw [if_pos hgd]
  unfold Oper.wp
  rw [hrun]
  exact hK _ _ h
theorem near_load {w : World} {b : Nat} {h : Pl} (k : Box w b h) (w' : World) (hw : ∃ p : Near w, w' = p.wx) : (Instr.loadAt 33 (.pointer (some ⟨b, 0, none⟩))).run Try.prog w' = .ok (plV h) w' := by
  obtain ⟨p, rfl⟩ := hw
  exact (k.next p.near).load
theorem near_p0 {w : World} {b : Nat} {h : Pl} (k : Box w b h) (w' : World) (hw : ∃ p : Near w, w' = p.wx) : (Instr.loadAt 29 (.pointer (some ⟨b, 0, none⟩))).run Try.prog w' = .ok (.int .u32 h.p0) w' := by
  obtain ⟨p, rfl⟩ := hw
  exact (k.next p.near).load_p0
theorem near_p1 {w : World} {b : Nat} {h : Pl} (k : Box w b h) (w' : World) (hw : ∃ p : Near w, w' = p.wx) : (Instr.loadAt 29 (.pointer (some ⟨b, 1, none⟩))).run Try.prog w' = .ok (.int .u32 h.p1) w' := by
  obtain ⟨p, rfl⟩ := hw
  exact (k.next p.near).load_p1
theorem near_p2 {w : World} {b : Nat} {h : Pl} (k : Box w b h) (w' : World) (hw : ∃ p : Near w, w' = p.wx) : (Instr.loadAt 29 (.pointer (some ⟨b, 2, none⟩))).run Try.prog w' = .ok (.int .u32 h.p2) w' := by
  obtain ⟨p, rfl⟩ := hw
  exact (k.next p.near).load_p2
theorem near_p3 {w : World} {b : Nat} {h : Pl} (k : Box w b h) (w' : World) (hw : ∃ p : Near w, w' = p.wx) : (Instr.loadAt 29 (.pointer (some ⟨b, 3, none⟩))).run Try.prog w' = .ok (.int .u32 h.p3) w' := by
  obtain ⟨p, rfl⟩ := hw
  exact (k.next p.near).load_p3
theorem near_e0 {w : World} {b : Nat} {h : Pl} (k : Box w b h) (w' : World) (hw : ∃ p : Near w, w' = p.wx) : (Instr.loadAt 29 (.pointer (some ⟨b, 4, none⟩))).run Try.prog w' = .ok (.int .u32 h.e0) w' := by
  obtain ⟨p, rfl⟩ := hw
  exact (k.next p.near).load_e0
theorem near_e1 {w : World} {b : Nat} {h : Pl} (k : Box w b h) (w' : World) (hw : ∃ p : Near w, w' = p.wx) : (Instr.loadAt 29 (.pointer (some ⟨b, 5, none⟩))).run Try.prog w' = .ok (.int .u32 h.e1) w' := by
  obtain ⟨p, rfl⟩ := hw
  exact (k.next p.near).load_e1
theorem near_l0 {w : World} {b : Nat} {h : Pl} (k : Box w b h) (w' : World) (hw : ∃ p : Near w, w' = p.wx) : (Instr.loadAt 29 (.pointer (some ⟨b, 6, none⟩))).run Try.prog w' = .ok (.int .u32 h.l0) w' := by
  obtain ⟨p, rfl⟩ := hw
  exact (k.next p.near).load_l0
theorem near_l1 {w : World} {b : Nat} {h : Pl} (k : Box w b h) (w' : World) (hw : ∃ p : Near w, w' = p.wx) : (Instr.loadAt 29 (.pointer (some ⟨b, 7, none⟩))).run Try.prog w' = .ok (.int .u32 h.l1) w' := by
  obtain ⟨p, rfl⟩ := hw
  exact (k.next p.near).load_l1
theorem near_c {w : World} {b : Nat} {h : Pl} (k : Box w b h) (w' : World) (hw : ∃ p : Near w, w' = p.wx) : (Instr.loadAt 29 (.pointer (some ⟨b, 8, none⟩))).run Try.prog w' = .ok (.int .u32 h.c) w' := by
  obtain ⟨p, rfl⟩ := hw
  exact (k.next p.near).load_c

end Go.Proofs.Ytgflnfmnjlmenaa.Pc
namespace Go.Proofs.Ytgflnfmnjlmenaa.Pc
open Go.RowKit Go.Deep Go.Joins
theorem zero_and (x : Int) : bits .and .u32 x 0 = 0 := by
  apply bit_ext _ _ (u32_and _ _) u32_zero
  intro i _
  rw [bit_and, bit_zero]
  simp
/-- One source more: is it the best? -/
def stepB (m : Bool) (k q : Int) (x : Int × Int) : Int × Int := if (m && decide (x.2 < q)) = true then (k, q) else x
def onB (h : Pl) (s e : Int) (k : Nat) : Bool := bitT (bits .and .u32 (waitV s h.c) e) k
/-- The best of the first sources. -/
def stB (h : Pl) (s e l : Int) : Nat → Int × Int
  | 0 => (0, l)
  | 1 => (0, l)
  | 2 => stepB (onB h s e 1) 1 h.p1 (0, l)
  | 3 => stepB (onB h s e 2) 2 h.p2 (stepB (onB h s e 1) 1 h.p1 (0, l))
  | _ => stepB (onB h s e 3) 3 h.p3 (stepB (onB h s e 2) 2 h.p2 (stepB (onB h s e 1) 1 h.p1 (0, l)))
theorem stepB_take (m : Bool) (k q b t : Int) (hm : m = true) (h : t < q) : stepB m k q (b, t) = (k, q) := by unfold stepB; simp [hm, h]
theorem stepB_off (m : Bool) (k q b t : Int) (hm : m = false) : stepB m k q (b, t) = (b, t) := by unfold stepB; simp [hm]
theorem stepB_low (m : Bool) (k q b t : Int) (h : ¬ t < q) : stepB m k q (b, t) = (b, t) := by unfold stepB; simp [h]
/-- The source that interrupts. -/
def bestF (h : Pl) (s who : Int) : Int := if who = 0 then (stB h s h.e0 h.l0 4).1 else if who = 1 then (stB h s h.e1 h.l1 4).1 else 0
end Go.Proofs.Ytgflnfmnjlmenaa.Pc
