/- HartInterrupted: the processor and the machine that the law makes. -/
import Derived.Test.YtjohcpokmdofkaaGreatDoorYHC
namespace Go.Proofs.YtjohcpokmdofkaaGreatDoor.Tr
open Go.RowKit Go.Deep Go.Joins
theorem mk_3 : ∀ j, j < 64 → bitT 8 j = decide (j = 3) := by decide +kernel
theorem mk63 : ∀ j, j < 64 → bitT 9223372036854775808 j = decide (j = 63) := by decide +kernel
theorem and_one (n : Int) (hn : U64 n) (i : Nat) (hi : i < 64) : bits .and .u64 (n / 2 ^ i) 1 = if bitT n i = true then 1 else 0 := by
  rw [bit_of n hn i hi]
  obtain ⟨k, rfl⟩ := Int.eq_ofNat_of_zero_le hn.1
  have h2 := hn.2
  have e : ((k : Int) / 2 ^ i) = ((k / 2 ^ i : Nat) : Int) := by simp
  have hle : k / 2 ^ i ≤ k := Nat.div_le_self _ _
  have h3 := bits_and_u64_nat (k / 2 ^ i) 1 (by omega) (by omega)
  rw [e]
  rw [show (1 : Int) = ((1 : Nat) : Int) from rfl, h3, Nat.and_one_is_mod]
  simp only [decide_eq_true_eq]
  split <;> omega
theorem nz_one (n : Int) (hn : U64 n) (i : Nat) (hi : i < 64) : (bits .and .u64 (n / 2 ^ i) 1 != 0) = bitT n i := by
  rw [and_one n hn i hi]
  cases bitT n i <;> rfl
end Go.Proofs.YtjohcpokmdofkaaGreatDoor.Tr
namespace Go.Proofs.YtjohcpokmdofkaaGreatDoor
open Go.RowKit Go.Deep Go.Joins
theorem wpList_exec {w : World} {ops : Array Oper} {rest : List Oper} {o : Oper} {a : Act} {Q : Exit → Act → World → Prop} (hgd : Region.wanted o (yielded ops a.tmps) = true) {r : Value} (hrun : (execOp a.eval o).run Tryz.prog w = .ok (.value r) w)
    (h : wpList Tryz.prog ops Q rest (a.put o.dst r) w) : wpList Tryz.prog ops Q (o :: rest) a w := by
  refine wpList_step fun K hK => ?_
  rw [if_pos hgd]
  unfold Oper.wp
  rw [hrun]
  exact hK _ _ h

theorem exec_x {ρ : Operand → Value} {o : Oper} {x y : Operand} {t2 : TypeId} (h : Hart) (w : World) (ho : o.op = .binOp .eql 23 x y t2) (hx : ρ x = .agg (xC h)) (hy : ρ y = .agg (xC h)) : (execOp ρ o).run Tryz.prog w = .ok (.value (.bool true)) w := by
  unfold execOp
  simp [ho, hx, hy, Sem.run_bind, run_eqGuard_agg, run_eql_struct, eq_x, Result.andThen]
theorem MBox.load_x {w : World} {g : Nat} {m : Mc} (k : MBox w g m) : (Instr.loadAt 23 (.pointer (some ⟨g, 0, none⟩))).run Tryz.prog w = .ok (.agg (xC m.h)) w :=
  run_load_rowAt w g 0 42 23 (mcC m) (xL m.h) _ k Tryz.underlying23 rfl (by rw [size23, xL_length]) fun j v hv => by
    have hj : j < 32 := by have := (List.getElem?_eq_some_iff.1 hv).1; rwa [xL_length] at this
    rw [Nat.zero_add, mcC_h m j (by omega), hartC_x m.h j hj]
    exact hv
theorem mc_setB (m m' : Mc) (k : Nat) (v : Value) (hh : m'.h = m.h) (ht : mcT m' = mcT m) (hk : k < 21) (he : (bdC m.b).setIfInBounds k v = bdC m'.b) : (mcC m).setIfInBounds (52 + k) v = mcC m' := by
  have e2 : (bdC m'.b).toList = (bdC m.b).toList.set k v := by rw [← he, Array.toList_setIfInBounds]
  unfold mcC mcL
  rw [List.setIfInBounds_toArray, List.set_append_right _ _ (by rw [hartL_length]; omega), hartL_length, show 52 + k - 52 = k by omega, List.set_append_left _ _ (by rw [bdC_length]; exact hk), hh, ht, e2]
theorem MBox.store_msip {w : World} {g : Nat} {m : Mc} (k : MBox w g m) (v : Bool) : (Instr.storeAt 4 (.pointer (some ⟨g, 52, none⟩)) (.bool v)).run Tryz.prog w = .ok () (w.setRow g (mcC { m with b := { m.b with msip := v } })) := by
  rw [← mc_setB m { m with b := { m.b with msip := v } } 0 (.bool v) rfl rfl (by decide) (bdC_set m.b { m.b with msip := v } 0 (.bool v) (by omega) rfl rfl)]
  exact run_store_cell w g 52 4 42 (mcC m) _ k size4 (by rw [mcC_size]; omega) rfl rfl
/-- The processor that the law makes. -/
def modeH (h : Hart) : Hart := { h with mode := 0 }
def delH (h : Hart) : Hart := { h with c := { h.c with s2 := 0 } }
def mieH (h : Hart) : Hart := { h with c := { h.c with s3 := bits .or .u64 h.c.s3 8 } }
def lawM (m : Mc) : Mc := { m with h := mieH (delH (modeH m.h)), b := { m.b with msip := true } }
theorem bit8 : Tr.bitT 8 3 = true := by decide +kernel
theorem bit2730 : Tr.bitT 2730 3 = true := by decide +kernel
/-- An interrupt that is on comes. -/
theorem pend_law (m : Mc) (p : Pt) : Tr.pendV (lawM m).h (linesV (lawM m) p) = 11 ∨ Tr.pendV (lawM m).h (linesV (lawM m) p) = 3 := by
  have hl : Tr.bitT (linesV (lawM m) p) 3 = true := by
    unfold linesV clockV
    rw [Tr.bit_or, Tr.bit_or, show bV (lawM m).b.msip 3 = 8 from rfl, bit8]
    rfl
  have ht : Tr.bitT (Tr.topV (lawM m).h (linesV (lawM m) p)) 3 = true := by
    unfold Tr.topV Tr.onV
    rw [Tr.bit_andNot _ _ _ (by omega), Tr.bit_and, Tr.bit_and, Tr.bit_or, hl, show (lawM m).h.c.s3 = bits .or .u64 m.h.c.s3 8 from rfl, Tr.bit_or, bit8, bit2730, show (lawM m).h.c.s2 = 0 from rfl, Tr.bit_zero]
    simp
  have hu : Tr.U64 (Tr.topV (lawM m).h (linesV (lawM m) p)) := Tr.u64_bits _ _ _
  have hup : Tr.upV (lawM m).h = true := rfl
  unfold Tr.pendV
  rw [hup, Bool.and_true]
  generalize Tr.topV (lawM m).h (linesV (lawM m) p) = t at ht hu
  have hne : (t != 0) = true := by
    rw [bne_iff_ne]
    intro h
    rw [h, Tr.bit_zero] at ht
    cases ht
  rw [if_pos hne]
  have h3 : (bits .and .u64 (t / 8) 1 != 0) = true := by
    have h := Tr.nz_one t hu 3 (by omega)
    rw [ht] at h
    exact h
  unfold Tr.firstV
  rw [if_pos h3]
  split
  · exact .inl rfl
  · exact .inr rfl
/-- What the interrupt leaves of the processor. -/
structure Taken (h g : Hart) : Prop where
  mode : g.mode = 3
  cause : g.c.s8 / 9223372036854775808 = 1
  epc : g.c.s7 = bits .andNot .u64 h.pc 1
  x : g.x = h.x
theorem take_law (m : Mc) (n : Nat) (hn : n = 11 ∨ n = 3) : Taken (lawM m).h (Tr.takeF (lawM m).h n true 0) := by
  have e : Tr.takeF (lawM m).h n true 0 = Tr.toUpF (Tr.noRes (lawM m).h) (Tr.toldV n true) 0 := by
    unfold Tr.takeF
    have hh : Tr.handV (lawM m).h n true = false := by
      unfold Tr.handV
      rw [show (lawM m).h.c.s2 = 0 from rfl, show (lawM m).h.mode = 0 from rfl]
      rw [if_pos rfl]
      rcases hn with rfl | rfl <;> decide +kernel
    rw [hh]
    rfl
  rw [e]
  refine ⟨rfl, ?_, rfl, rfl⟩
  show Tr.toldV n true / 9223372036854775808 = 1
  rcases hn with rfl | rfl <;> decide +kernel

end Go.Proofs.YtjohcpokmdofkaaGreatDoor
