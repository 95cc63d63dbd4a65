/- Bits; the control registers in memory (of my own texts of the seats csr and trap). -/
import Derived.Test.YtmjlgoceokdabaaD
import Derived.Below
import Derived.Deep.Draws
import Derived.Deep.WholeRow
import Derived.IntWalk
import Derived.Laws.BitsAllLaws
import Derived.Laws.Bits64b
import Derived.Laws.Closers25b
import Derived.Laws.ResultCell
import Derived.ChangeKeysEq
namespace Go.Proofs.Ytmjlgoceokdabaa
open Go.RowKit Go.Deep Go.Joins
def nzV (n m : Int) : Bool := bits .and .u64 n m != 0
def bV (n b : Int) : Bool := bits .and .u64 (n / b) 1 == 1
def U64 (x : Int) : Prop := 0 ≤ x ∧ x < 18446744073709551616
def bitT (x : Int) (i : Nat) : Bool := (BitVec.ofInt 64 x).getLsbD i
theorem ofInt_wrap (y : BitVec 64) : BitVec.ofInt 64 (IntKind.u64.wrap (y.toNat : Int)) = y := by
  have h := y.isLt
  have e : IntKind.u64.wrap (y.toNat : Int) = (y.toNat : Int) := by rw [IntKind.wrap_u64]; omega
  rw [e, BitVec.ofInt_natCast]
  simp
theorem bv_and (a b : Int) : BitVec.ofInt 64 (bits .and .u64 a b) = BitVec.ofInt 64 a &&& BitVec.ofInt 64 b := ofInt_wrap _
theorem bv_or (a b : Int) : BitVec.ofInt 64 (bits .or .u64 a b) = BitVec.ofInt 64 a ||| BitVec.ofInt 64 b := ofInt_wrap _
theorem bv_andNot (a b : Int) : BitVec.ofInt 64 (bits .andNot .u64 a b) = BitVec.ofInt 64 a &&& ~~~BitVec.ofInt 64 b := ofInt_wrap _
theorem bit_and (a b : Int) (i : Nat) : bitT (bits .and .u64 a b) i = (bitT a i && bitT b i) := by unfold bitT; rw [bv_and, BitVec.getLsbD_and]
theorem bit_or (a b : Int) (i : Nat) : bitT (bits .or .u64 a b) i = (bitT a i || bitT b i) := by unfold bitT; rw [bv_or, BitVec.getLsbD_or]
theorem bit_andNot (a b : Int) (i : Nat) (hi : i < 64) : bitT (bits .andNot .u64 a b) i = (bitT a i && !bitT b i) := by
  unfold bitT
  rw [bv_andNot, BitVec.getLsbD_and, BitVec.getLsbD_not]
  simp [hi]
theorem u64_bits (op : BinOp) (a b : Int) : U64 (bits op .u64 a b) := ⟨bits_lo_u64 op a b, by have := bits_hi_u64 op a b; omega⟩
theorem bit_ext (a b : Int) (ha : U64 a) (hb : U64 b) (h : ∀ i, i < 64 → bitT a i = bitT b i) : a = b := by
  have e : BitVec.ofInt 64 a = BitVec.ofInt 64 b := BitVec.eq_of_getLsbD_eq fun i hi => h i hi
  obtain ⟨n, rfl⟩ := Int.eq_ofNat_of_zero_le ha.1
  obtain ⟨k, rfl⟩ := Int.eq_ofNat_of_zero_le hb.1
  have e2 := congrArg BitVec.toNat e
  rw [BitVec.ofInt_natCast, BitVec.ofInt_natCast, BitVec.toNat_ofNat, BitVec.toNat_ofNat] at e2
  have h1 := ha.2
  have h2 := hb.2
  omega
theorem bit_of (x : Int) (hx : U64 x) (i : Nat) (hi : i < 64) : bitT x i = decide (x / (2 : Int) ^ i % 2 = 1) := by
  obtain ⟨n, rfl⟩ := Int.eq_ofNat_of_zero_le hx.1
  have h := hx.2
  unfold bitT
  rw [BitVec.ofInt_natCast, BitVec.getLsbD_ofNat, Nat.testBit_eq_decide_div_mod_eq]
  simp only [hi, decide_true, Bool.true_and]
  apply decide_eq_decide.2
  have e : (n : Int) / (2 : Int) ^ i % 2 = ((n / 2 ^ i % 2 : Nat) : Int) := by simp
  rw [e]
  omega
theorem bit_zero (i : Nat) : bitT 0 i = false := by unfold bitT; simp
theorem u64_zero : U64 0 := ⟨by omega, by omega⟩
theorem nz_bit (n m : Int) (i : Nat) (hi : i < 64) (hm : ∀ j, j < 64 → bitT m j = decide (j = i)) : nzV n m = bitT n i := by
  unfold nzV
  rcases Bool.eq_false_or_eq_true (bitT n i) with h | h
  · rw [h]
    rw [bne_iff_ne]
    intro e
    have k := congrArg (fun y => bitT y i) e
    simp only [bit_and, h, hm i hi, bit_zero] at k
    simp at k
  · rw [h]
    have e : bits .and .u64 n m = 0 := by
      refine bit_ext _ _ (u64_bits _ _ _) u64_zero fun j hj => ?_
      rw [bit_and, hm j hj, bit_zero]
      by_cases e : j = i
      · subst e; rw [h]; rfl
      · simp [e]
    rw [e]
    rfl
theorem and_one (n : Int) (hn : U64 n) (i : Nat) (hi : i < 64) : bits .and .u64 (n / 2 ^ i) 1 = if bitT n i = true then 1 else 0 := by
  rw [bit_of n hn i hi]
  obtain ⟨k, rfl⟩ := Int.eq_ofNat_of_zero_le hn.1
  have h2 := hn.2
  have e : ((k : Int) / 2 ^ i) = ((k / 2 ^ i : Nat) : Int) := by simp
  have hle : k / 2 ^ i ≤ k := Nat.div_le_self _ _
  have h3 := bits_and_u64_nat (k / 2 ^ i) 1 (by omega) (by omega)
  rw [e]
  rw [show (1 : Int) = ((1 : Nat) : Int) from rfl, h3, Nat.and_one_is_mod]
  simp only [decide_eq_true_eq]
  split <;> omega
theorem bV_bit (n b : Int) (hn : U64 n) (i : Nat) (hi : i < 64) (hb : b = 2 ^ i) : bV n b = bitT n i := by
  unfold bV
  rw [hb, and_one n hn i hi]
  cases bitT n i <;> rfl
theorem nz_one (n : Int) (hn : U64 n) (i : Nat) (hi : i < 64) : (bits .and .u64 (n / 2 ^ i) 1 != 0) = bitT n i := by
  rw [and_one n hn i hi]
  cases bitT n i <;> rfl

/-! The control registers, as a row: the first and the last of sixteen are looked at. -/
structure CsrAt (C : Array Value) (ms sp : Int) : Prop where
  size : C.size = 16
  f0 : C[0]? = some (.int .u64 ms)
  f15 : C[15]? = some (.int .u64 sp)
theorem size24 : (Try.prog.info? 24).map (·.size) = some 16 := by kernel_rfl

end Go.Proofs.Ytmjlgoceokdabaa
namespace Go
/-- A load, by what it does. -/
theorem wpList_load_by {P : Program} {w : World} {ops : Array Oper} {rest : List Oper} {o : Oper} {a : Act} {Q : Exit → Act → World → Prop} (hgd : o.guard = none) {t : TypeId} {p : Operand} (ho : o.op = .load t p) {v r : Value}
    (hrun : (Instr.loadAt t v).run P w = .ok r w) (hp : a.eval p = v) (h : wpList P ops Q rest (a.put o.dst r) w) : wpList P ops Q (o :: rest) a w := by
  refine wpList_plain hgd fun K hK => ?_
  unfold Oper.wp
  simp [execOp, ho, hp, hrun, Result.andThen]
  exact hK _ _ h
theorem wpList_load_wanted {P : Program} {w : World} {ops : Array Oper} {rest : List Oper} {o : Oper} {a : Act} {Q : Exit → Act → World → Prop} (hgd : Region.wanted o (yielded ops a.tmps) = true) {t : TypeId} {p : Operand} (ho : o.op = .load t p) {v r : Value}
    (hrun : (Instr.loadAt t v).run P w = .ok r w) (hp : a.eval p = v) (h : wpList P ops Q rest (a.put o.dst r) w) : wpList P ops Q (o :: rest) a w := by
  refine wpList_step fun K hK => ?_
  rw [if_pos hgd]
  unfold Oper.wp
  simp [execOp, ho, hp, hrun, Result.andThen]
  exact hK _ _ h

end Go
namespace Go.Proofs.Ytmjlgoceokdabaa
open Go.RowKit Go.Deep Go.Joins
/-- A block that holds these registers. -/
def Box (w : World) (b : Nat) (C : Array Value) : Prop := w.heap[b]? = some (.cells C 24 (0, 0))
theorem Box.lt {w : World} {b : Nat} {C : Array Value} (k : Box w b C) : b < w.heap.size := (Array.getElem?_eq_some_iff.1 k).1
theorem Box.next {w w' : World} {b : Nat} {C : Array Value} (k : Box w b C) (j : Below w.heap.size w w') : Box w' b C := (j.block b k.lt).trans k
theorem Box.alloc {w : World} {b : Nat} {C : Array Value} (k : Box w b C) (o : Obj) : Box (w.alloc o) b C := k.next ((Below.refl _ _).alloc (Nat.le_refl _) o)
theorem Box.new (w : World) (C : Array Value) : Box (w.alloc (.cells C 24)) w.heap.size C := heap_alloc_last w _
theorem Box.load {w : World} {b : Nat} {C : Array Value} (k : Box w b C) (h : C.size = 16) : (Instr.loadAt 24 (.pointer (some ⟨b, 0, none⟩))).run Try.prog w = .ok (.agg C) w := by
  simp only [Instr.loadAt, Instr.sureAddr, Sem.run_bind, Sem.run_pure, Result.andThen]
  exact run_loadVar_row w b 24 24 C (0, 0) _ k Try.underlying24 rfl (by rw [size24, h])
theorem Box.cell {w : World} {b : Nat} {C : Array Value} (k : Box w b C) (i : Nat) : w.cell? ⟨b, i, none⟩ = C[i]? := cell_of_row w b i C 24 (0, 0) k

end Go.Proofs.Ytmjlgoceokdabaa
