/- Short moves of a walk through a region that draws its order. Bits of 32 bits. -/
import Derived.Test.YtgflnfmnjlmenaaYDVV
import Derived.Below
import Derived.Deep.Draws
import Derived.Deep.Slices
import Derived.BigQuiet
import Derived.Carry
import Derived.ChangeMaps
import Derived.ChangeKeysEq
import Derived.Deep.DeepCutAuto
import Derived.Deep.RegionHeld3
import Derived.Deep.RegionWith
import Derived.Deep.WholeRow
import Derived.IntWalk
import Derived.Laws.BitsAllLaws
import Derived.Laws.Bits64b
import Derived.Laws.Closers25b
import Derived.Laws.ResultCell
import Derived.Laws.CopyOwn
import Derived.Laws.StructEq
import Derived.Lib.Hide
import Derived.Lib.SmallJoins
import Derived.OpenShut
import Derived.ProofKit
import Derived.SizedLaws
import Derived.WalkKit
import Derived.WalkLawsBesides
namespace Go
open Go.RowKit Go.Deep Go.Joins
theorem puts : (∀ (t : List Value) (d : List Deferred) (k : Nat) (v : Value), (Act.mk t.toArray d).put (some k) v = Act.mk (t.set k v).toArray d) ∧ (∀ (a : Act) (v : Value), a.put none v = a) ∧ (∀ (a v : Value) (l : List Value), (a :: l).set 0 v = v :: l) ∧ (∀ (a v : Value) (l : List Value) (n : Nat), (a :: l).set (n + 1) v = a :: l.set n v) :=
  ⟨fun _ _ _ _ => by simp [Act.put], fun _ _ => rfl, fun _ _ _ => rfl, fun _ _ _ _ => rfl⟩
theorem nths : (∀ (l : List Oper) (i : Nat), (l.toArray)[i]? = l[i]?) ∧ (∀ (a : Oper) (l : List Oper), (a :: l)[0]? = some a) ∧ (∀ (a : Oper) (l : List Oper) (n : Nat), (a :: l)[n + 1]? = l[n]?) := ⟨fun _ _ => by simp, fun _ _ => by simp, fun _ _ _ => by simp⟩
theorem calls_told {P : Program} {f : FuncId} {args : Array Value} {w : World} {v : Value} (h : Calls P f args w fun e w' => e = .returned v ∧ RowKit.Below w.heap.size w w') : Calls P f args w fun e w' => ∃ u, e = .returned u ∧ (u = v ∧ RowKit.Below w.heap.size w w') := h.mono fun _ _ h => ⟨v, h.1, rfl, h.2⟩
section
variable {P : Program} {md : Region.Mode} {ops : Array Oper} {Q : Exit → Act → World → Prop} {S : World → Prop} {fuel : Nat} {listed : Array Bool} {a a' : Act} {w w' : World} {o : Oper} {v : Value} {t : TypeId} {p x : Operand} {u : Value} {f : FuncId} {args : Array Value} {R : Value → World → Prop}
/-- What reads, reckons, or is struck out: first, whatever else may come up. -/
theorem tk (i : Nat) (hS : S w) (h : wpAnyH P md ops Q S fuel (listed.setIfInBounds i true) a' w) (hi : ops[i]? = some o := by (simp only [nths]; exact rfl))
    (hs : Region.noSelect ops = true := by kernel_rfl) (hf : Region.free md ops listed i = true := by kernel_rfl) (hr : (Region.ready md ops listed).contains i = true := by kernel_rfl)
    (hQ : ∀ c a w, Q (.panic c) (a.put o.dst v) w → Q (.panic c) a w := by exact fun _ _ _ h => h)
    (hy : YieldsIf P ops S o v a := by first | exact Or.inr ⟨by rfl, rfl⟩ | (refine Or.inl ⟨by rfl, ?_⟩; intro w hSw; (try dsimp only at hSw); (try obtain ⟨_, _⟩ := hSw); go_simp; try with_reducible rfl))
    (ha : a.put o.dst v = a' := by (simp only [puts]; exact rfl)) : wpAnyH P md ops Q S (fuel + 1) listed a w := by
  subst ha
  exact wpAnyH_take hi hs hf hr hQ hy hS h
/-- A load by its run equation, in every world that meets S. -/
theorem tl (i : Nat) (hS : S w) (hl : ∀ w, S w → (Instr.loadAt t u).run P w = .ok v w) (h : wpAnyH P md ops Q S fuel (listed.setIfInBounds i true) a' w) (hi : ops[i]? = some o := by (simp only [nths]; exact rfl)) (ho : o.op = .load t p := by rfl) (hp : a.eval p = u := by rfl)
    (hs : Region.noSelect ops = true := by kernel_rfl) (hf : Region.free md ops listed i = true := by kernel_rfl) (hr : (Region.ready md ops listed).contains i = true := by kernel_rfl)
    (hQ : ∀ c a w, Q (.panic c) (a.put o.dst v) w → Q (.panic c) a w := by exact fun _ _ _ h => h)
    (hg : Region.wanted o (yielded ops a.tmps) = true := by kernel_rfl)
    (ha : a.put o.dst v = a' := by (simp only [puts]; exact rfl)) : wpAnyH P md ops Q S (fuel + 1) listed a w := by
  subst ha
  exact wpAnyH_take hi hs hf hr hQ (.inl ⟨hg, fun w hw => exec_load ho (hl w hw) hp⟩) hS h
/-- A load that alone may come up. -/
theorem hl (i : Nat) (hl : (Instr.loadAt t u).run P w = .ok v w) (hS : S w) (h : wpAnyH P md ops Q S fuel (listed.setIfInBounds i true) a' w) (hi : ops[i]? = some o := by (simp only [nths]; exact rfl)) (ho : o.op = .load t p := by rfl) (hp : a.eval p = u := by rfl)
    (hr : Region.ready md ops listed = [i] := by kernel_rfl) (hg : Region.wanted o (yielded ops a.tmps) = true := by kernel_rfl) (ha : a.put o.dst v = a' := by (simp only [puts]; exact rfl)) : wpAnyH P md ops Q S (fuel + 1) listed a w := by
  subst ha
  refine wpAnyH_ready (rs := [i]) hr (by simp) (AllReadyH.cons hi (fun K hK => ?_) AllReadyH.nil)
  rw [if_pos hg]
  unfold Oper.wp
  rw [exec_load ho hl hp]
  exact hK.out _ _ hS (fun _ => h)
/-- A store that alone may come up. -/
theorem hs (i : Nat) (hrun : (Instr.storeAt t u v).run P w = .ok () w') (h : ∀ wy, wy = w' → S wy ∧ (S wy → wpAnyH P md ops Q S fuel (listed.setIfInBounds i true) a' wy)) (hi : ops[i]? = some o := by (simp only [nths]; exact rfl)) (ho : o.op = .store t p x := by rfl) (hp : a.eval p = u := by rfl) (hx : a.eval x = v := by rfl)
    (hr : Region.ready md ops listed = [i] := by kernel_rfl) (hg : o.guard = none := by rfl) (ha : a.put o.dst undef = a' := by (simp only [puts]; exact rfl)) : wpAnyH P md ops Q S (fuel + 1) listed a w := by
  subst ha
  exact held_store hr hi hg ho hp hx hrun (h w' rfl).1 ((h w' rfl).2 (h w' rfl).1)
/-- A call that alone may come up. -/
theorem hc (i : Nat) (hc : Calls P f args w fun e w' => ∃ v, e = .returned v ∧ R v w') (h : ∀ v w', R v w' → S w' ∧ (S w' → wpAnyH P md ops Q S fuel (listed.setIfInBounds i true) (a.put o.dst v) w'))
    (hi : ops[i]? = some o := by (simp only [nths]; exact rfl)) (hrun : (execOp a.eval o).run P w = .ok (.enter f args) w := by (go_simp; try exact rfl)) (hr : Region.ready md ops listed = [i] := by kernel_rfl) (hg : Region.wanted o (yielded ops a.tmps) = true := by kernel_rfl) : wpAnyH P md ops Q S (fuel + 1) listed a w :=
  held_calls hr hi hg hrun hc h
/-- An alloc that alone may come up. -/
theorem ho (i : Nat) (hS : S w') (h : wpAnyH P md ops Q S fuel (listed.setIfInBounds i true) a' w') (hi : ops[i]? = some o := by (simp only [nths]; exact rfl)) (hr : Region.ready md ops listed = [i] := by kernel_rfl) (hg : o.guard = none := by rfl) (hrun : (execOp a.eval o).run P w = .ok (.value v) w' := by (go_simp; try exact rfl))
    (ha : a.put o.dst v = a' := by (simp only [puts]; exact rfl)) : wpAnyH P md ops Q S (fuel + 1) listed a w := by
  subst ha
  exact held_op hr hi hg hrun hS h
/-- Several may come up. -/
theorem two (i j : Nat) (h1 : AllReadyH P md ops Q S fuel listed a w [i, j]) (hr : Region.ready md ops listed = [i, j] := by kernel_rfl) : wpAnyH P md ops Q S (fuel + 1) listed a w := wpAnyH_ready hr (by simp) h1
theorem three (i j l : Nat) (h1 : AllReadyH P md ops Q S fuel listed a w [i, j, l]) (hr : Region.ready md ops listed = [i, j, l] := by kernel_rfl) : wpAnyH P md ops Q S (fuel + 1) listed a w := wpAnyH_ready hr (by simp) h1
theorem al {rs : List Nat} (i : Nat) (hS : S w') (h : wpAnyH P md ops Q S fuel (listed.setIfInBounds i true) a' w') (hs : AllReadyH P md ops Q S fuel listed a w rs) (hi : ops[i]? = some o := by (simp only [nths]; exact rfl)) (hg : o.guard = none := by rfl) (hrun : (execOp a.eval o).run P w = .ok (.value v) w' := by (go_simp; try exact rfl))
    (ha : a.put o.dst v = a' := by (simp only [puts]; exact rfl)) : AllReadyH P md ops Q S fuel listed a w (i :: rs) := by
  subst ha
  exact cons_op hi hg hrun hS h hs
theorem ld {rs : List Nat} (i : Nat) (hl : (Instr.loadAt t u).run P w = .ok v w) (hS : S w) (h : wpAnyH P md ops Q S fuel (listed.setIfInBounds i true) a' w) (hs : AllReadyH P md ops Q S fuel listed a w rs) (hi : ops[i]? = some o := by (simp only [nths]; exact rfl)) (ho : o.op = .load t p := by rfl) (hp : a.eval p = u := by rfl) (hg : o.guard = none := by rfl)
    (ha : a.put o.dst v = a' := by (simp only [puts]; exact rfl)) : AllReadyH P md ops Q S fuel listed a w (i :: rs) := by
  subst ha
  exact cons_op hi hg (exec_load ho hl hp) hS h hs
theorem cc {rs : List Nat} (i : Nat) (hc : Calls P f args w fun e w' => ∃ v, e = .returned v ∧ R v w') (h : ∀ v w', R v w' → S w' ∧ (S w' → wpAnyH P md ops Q S fuel (listed.setIfInBounds i true) (a.put o.dst v) w')) (hs : AllReadyH P md ops Q S fuel listed a w rs)
    (hi : ops[i]? = some o := by (simp only [nths]; exact rfl)) (hrun : (execOp a.eval o).run P w = .ok (.enter f args) w := by (go_simp; try exact rfl)) (hg : Region.wanted o (yielded ops a.tmps) = true := by kernel_rfl) : AllReadyH P md ops Q S fuel listed a w (i :: rs) :=
  cons_calls hi hg hrun hc h hs
/-- The beginning. -/
theorem dr {id : Nat} (S : World → Prop) (h : ∀ wz, Below w.heap.size w wz → wpAnyH P .any ops Q S ops.size (Array.replicate ops.size false) a wz) (hm : P.follows .mixedOrders = true := by kernel_rfl) : (Code.region id ops true).wp P Q a w :=
  wp_region_held hm (h w.drew (Below.refl _ _).drew)
end
end Go
namespace Go.Proofs.Ytgflnfmnjlmenaa.Pc
open Go.RowKit Go.Deep Go.Joins
theorem below_then {B : Nat} {a b c : World} (h : Below B a b) (hB : B ≤ a.heap.size) (k : Below b.heap.size b c) : Below B a c := h.trans (k.mono (Nat.le_trans hB h.size))
def U32 (x : Int) : Prop := 0 ≤ x ∧ x < 4294967296
/-- Bit i of a word. -/
def bitT (x : Int) (i : Nat) : Bool := (BitVec.ofInt 32 x).getLsbD i
theorem ofInt_wrap (y : BitVec 32) : BitVec.ofInt 32 (IntKind.u32.wrap (y.toNat : Int)) = y := by
  have h := y.isLt
  have e : IntKind.u32.wrap (y.toNat : Int) = (y.toNat : Int) := by rw [IntKind.wrap_u32]; omega
  rw [e, BitVec.ofInt_natCast]
  simp
theorem bv_and (a b : Int) : BitVec.ofInt 32 (bits .and .u32 a b) = BitVec.ofInt 32 a &&& BitVec.ofInt 32 b := ofInt_wrap _
theorem bv_or (a b : Int) : BitVec.ofInt 32 (bits .or .u32 a b) = BitVec.ofInt 32 a ||| BitVec.ofInt 32 b := ofInt_wrap _
theorem bv_andNot (a b : Int) : BitVec.ofInt 32 (bits .andNot .u32 a b) = BitVec.ofInt 32 a &&& ~~~BitVec.ofInt 32 b := ofInt_wrap _
theorem bit_and (a b : Int) (i : Nat) : bitT (bits .and .u32 a b) i = (bitT a i && bitT b i) := by unfold bitT; rw [bv_and, BitVec.getLsbD_and]
theorem bit_or (a b : Int) (i : Nat) : bitT (bits .or .u32 a b) i = (bitT a i || bitT b i) := by unfold bitT; rw [bv_or, BitVec.getLsbD_or]
theorem bit_andNot (a b : Int) (i : Nat) (hi : i < 32) : bitT (bits .andNot .u32 a b) i = (bitT a i && !bitT b i) := by
  unfold bitT
  rw [bv_andNot, BitVec.getLsbD_and, BitVec.getLsbD_not]
  simp [hi]
theorem u32_wrap (y : BitVec 32) : U32 (IntKind.u32.wrap (y.toNat : Int)) := by
  unfold U32
  rw [IntKind.wrap_u32]
  omega
theorem u32_and (a b : Int) : U32 (bits .and .u32 a b) := u32_wrap _
theorem u32_or (a b : Int) : U32 (bits .or .u32 a b) := u32_wrap _
theorem u32_andNot (a b : Int) : U32 (bits .andNot .u32 a b) := u32_wrap _
theorem bit_ext (a b : Int) (ha : U32 a) (hb : U32 b) (h : ∀ i, i < 32 → bitT a i = bitT b i) : a = b := by
  have e : BitVec.ofInt 32 a = BitVec.ofInt 32 b := BitVec.eq_of_getLsbD_eq fun i hi => h i hi
  obtain ⟨n, rfl⟩ := Int.eq_ofNat_of_zero_le ha.1
  obtain ⟨k, rfl⟩ := Int.eq_ofNat_of_zero_le hb.1
  have e2 := congrArg BitVec.toNat e
  rw [BitVec.ofInt_natCast, BitVec.ofInt_natCast, BitVec.toNat_ofNat, BitVec.toNat_ofNat] at e2
  have h1 := ha.2
  have h2 := hb.2
  omega
theorem bit_of (x : Int) (hx : U32 x) (i : Nat) (hi : i < 32) : bitT x i = decide (x / (2 : Int) ^ i % 2 = 1) := by
  obtain ⟨n, rfl⟩ := Int.eq_ofNat_of_zero_le hx.1
  have h := hx.2
  unfold bitT
  rw [BitVec.ofInt_natCast, BitVec.getLsbD_ofNat, Nat.testBit_eq_decide_div_mod_eq]
  simp only [hi, decide_true, Bool.true_and]
  apply decide_eq_decide.2
  have e : (n : Int) / (2 : Int) ^ i % 2 = ((n / 2 ^ i % 2 : Nat) : Int) := by simp
  rw [e]
  omega
theorem bit_zero (i : Nat) : bitT 0 i = false := by unfold bitT; simp
theorem u32_zero : U32 0 := ⟨by omega, by omega⟩
/-- The weights of the sources. -/
def wt : Int → Int
  | 1 => 2
  | 2 => 4
  | 3 => 8
  | _ => 0
theorem bit14 (i : Nat) (hi : i < 32) : bitT 14 i = (i == 1 || i == 2 || i == 3) := by
  revert i
  decide +kernel
theorem bit_2 (i : Nat) (hi : i < 32) : bitT 2 i = (i == 1) := by revert i; decide +kernel
theorem bit_4 (i : Nat) (hi : i < 32) : bitT 4 i = (i == 2) := by revert i; decide +kernel
theorem bit_8 (i : Nat) (hi : i < 32) : bitT 8 i = (i == 3) := by revert i; decide +kernel
theorem bit_wt (k : Nat) (hk : 1 ≤ k ∧ k ≤ 3) (i : Nat) (hi : i < 32) : bitT (wt k) i = (i == k) := by
  match k, hk with
  | 1, _ => exact bit_2 i hi
  | 2, _ => exact bit_4 i hi
  | 3, _ => exact bit_8 i hi
  | k + 4, h => omega
/-- Has the word bit k? (by the program's way) -/
theorem has_and (x : Int) (k : Nat) (hk : 1 ≤ k ∧ k ≤ 3) : (bits .and .u32 x (wt k) != 0) = bitT x k := by
  have e : bits .and .u32 x (wt k) = if bitT x k = true then wt k else 0 := by
    apply bit_ext _ _ (u32_and _ _)
    · split
      · match k, hk with
        | 1, _ => exact ⟨by decide, by decide⟩
        | 2, _ => exact ⟨by decide, by decide⟩
        | 3, _ => exact ⟨by decide, by decide⟩
        | k + 4, h => omega
      · exact u32_zero
    · intro i hi
      rw [bit_and, bit_wt k hk i hi]
      by_cases hik : i = k
      · subst hik
        split
        · rename_i h; rw [bit_wt i hk i hi, h]; rfl
        · rename_i h; rw [bit_zero]; simp at h; rw [h]; rfl
      · have : (i == k) = false := by simp [hik]
        rw [this]
        split
        · rw [bit_wt k hk i hi, this]; simp
        · rw [bit_zero]; simp
  rw [e]
  match k, hk with
  | 1, _ => cases bitT x 1 <;> rfl
  | 2, _ => cases bitT x 2 <;> rfl
  | 3, _ => cases bitT x 3 <;> rfl
  | k + 4, h => omega
/-- The same, by the reference's way. -/
theorem has_shift (x : Int) (hx : U32 x) (k : Nat) (hk : 1 ≤ k ∧ k ≤ 3) : (bits .and .u32 (x / 2 ^ k) 1 == 1) = bitT x k := by
  rw [bit_of x hx k (by omega)]
  obtain ⟨n, rfl⟩ := Int.eq_ofNat_of_zero_le hx.1
  have h2 := hx.2
  have e : ((n : Int) / 2 ^ k) = ((n / 2 ^ k : Nat) : Int) := by simp
  have hlt : n / 2 ^ k ≤ n := Nat.div_le_self _ _
  rw [e, show (1 : Int) = ((1 : Nat) : Int) from rfl, u32_and_nat _ _ (by omega) (by omega), show (1 : Nat) = 2 ^ 1 - 1 from rfl, Nat.and_two_pow_sub_one_eq_mod]
  apply Bool.eq_iff_iff.2
  simp only [beq_iff_eq, decide_eq_true_eq]
  omega

end Go.Proofs.Ytgflnfmnjlmenaa.Pc
