/- Bits of 32 bits. The state of who interrupts, in memory. waiting, bit, place. Near. -/
import Derived.Test.YtjohcpokmdofkaaGreatDoorYDX
import Derived.Below
import Derived.Deep.Draws
import Derived.Deep.Slices
import Derived.BigQuiet
import Derived.Carry
import Derived.ChangeMaps
import Derived.ChangeKeysEq
import Derived.Deep.DeepCutAuto
import Derived.Deep.RegionHeld3
import Derived.Deep.RegionWith
import Derived.Deep.WholeRow
import Derived.IntWalk
import Derived.Laws.BitsAllLaws
import Derived.Laws.Bits64b
import Derived.Laws.Closers25b
import Derived.Laws.ResultCell
import Derived.Laws.CopyOwn
import Derived.Laws.StructEq
import Derived.Lib.Hide
import Derived.Lib.SmallJoins
import Derived.OpenShut
import Derived.ProofKit
import Derived.SizedLaws
import Derived.WalkKit
import Derived.WalkLawsBesides
namespace Go.Proofs.YtjohcpokmdofkaaGreatDoor.Pc
open Go.RowKit Go.Deep Go.Joins
theorem below_then {B : Nat} {a b c : World} (h : Below B a b) (hB : B ≤ a.heap.size) (k : Below b.heap.size b c) : Below B a c := h.trans (k.mono (Nat.le_trans hB h.size))
def U32 (x : Int) : Prop := 0 ≤ x ∧ x < 4294967296
/-- Bit i of a word. -/
def bitT (x : Int) (i : Nat) : Bool := (BitVec.ofInt 32 x).getLsbD i
theorem ofInt_wrap (y : BitVec 32) : BitVec.ofInt 32 (IntKind.u32.wrap (y.toNat : Int)) = y := by
  have h := y.isLt
  have e : IntKind.u32.wrap (y.toNat : Int) = (y.toNat : Int) := by rw [IntKind.wrap_u32]; omega
  rw [e, BitVec.ofInt_natCast]
  simp
theorem bv_and (a b : Int) : BitVec.ofInt 32 (bits .and .u32 a b) = BitVec.ofInt 32 a &&& BitVec.ofInt 32 b := ofInt_wrap _
theorem bv_or (a b : Int) : BitVec.ofInt 32 (bits .or .u32 a b) = BitVec.ofInt 32 a ||| BitVec.ofInt 32 b := ofInt_wrap _
theorem bv_andNot (a b : Int) : BitVec.ofInt 32 (bits .andNot .u32 a b) = BitVec.ofInt 32 a &&& ~~~BitVec.ofInt 32 b := ofInt_wrap _
theorem bit_and (a b : Int) (i : Nat) : bitT (bits .and .u32 a b) i = (bitT a i && bitT b i) := by unfold bitT; rw [bv_and, BitVec.getLsbD_and]
theorem bit_or (a b : Int) (i : Nat) : bitT (bits .or .u32 a b) i = (bitT a i || bitT b i) := by unfold bitT; rw [bv_or, BitVec.getLsbD_or]
theorem bit_andNot (a b : Int) (i : Nat) (hi : i < 32) : bitT (bits .andNot .u32 a b) i = (bitT a i && !bitT b i) := by
  unfold bitT
  rw [bv_andNot, BitVec.getLsbD_and, BitVec.getLsbD_not]
  simp [hi]
theorem u32_wrap (y : BitVec 32) : U32 (IntKind.u32.wrap (y.toNat : Int)) := by
  unfold U32
  rw [IntKind.wrap_u32]
  omega
theorem u32_and (a b : Int) : U32 (bits .and .u32 a b) := u32_wrap _
theorem u32_or (a b : Int) : U32 (bits .or .u32 a b) := u32_wrap _
theorem u32_andNot (a b : Int) : U32 (bits .andNot .u32 a b) := u32_wrap _
theorem bit_ext (a b : Int) (ha : U32 a) (hb : U32 b) (h : ∀ i, i < 32 → bitT a i = bitT b i) : a = b := by
  have e : BitVec.ofInt 32 a = BitVec.ofInt 32 b := BitVec.eq_of_getLsbD_eq fun i hi => h i hi
  obtain ⟨n, rfl⟩ := Int.eq_ofNat_of_zero_le ha.1
  obtain ⟨k, rfl⟩ := Int.eq_ofNat_of_zero_le hb.1
  have e2 := congrArg BitVec.toNat e
  rw [BitVec.ofInt_natCast, BitVec.ofInt_natCast, BitVec.toNat_ofNat, BitVec.toNat_ofNat] at e2
  have h1 := ha.2
  have h2 := hb.2
  omega
theorem bit_of (x : Int) (hx : U32 x) (i : Nat) (hi : i < 32) : bitT x i = decide (x / (2 : Int) ^ i % 2 = 1) := by
  obtain ⟨n, rfl⟩ := Int.eq_ofNat_of_zero_le hx.1
  have h := hx.2
  unfold bitT
  rw [BitVec.ofInt_natCast, BitVec.getLsbD_ofNat, Nat.testBit_eq_decide_div_mod_eq]
  simp only [hi, decide_true, Bool.true_and]
  apply decide_eq_decide.2
  have e : (n : Int) / (2 : Int) ^ i % 2 = ((n / 2 ^ i % 2 : Nat) : Int) := by simp
  rw [e]
  omega
theorem bit_zero (i : Nat) : bitT 0 i = false := by unfold bitT; simp
theorem u32_zero : U32 0 := ⟨by omega, by omega⟩
/-- The weights of the sources. -/
def wt : Int → Int
  | 1 => 2
  | 2 => 4
  | 3 => 8
  | _ => 0
theorem bit14 (i : Nat) (hi : i < 32) : bitT 14 i = (i == 1 || i == 2 || i == 3) := by
  revert i
  decide +kernel
theorem bit_2 (i : Nat) (hi : i < 32) : bitT 2 i = (i == 1) := by revert i; decide +kernel
theorem bit_4 (i : Nat) (hi : i < 32) : bitT 4 i = (i == 2) := by revert i; decide +kernel
theorem bit_8 (i : Nat) (hi : i < 32) : bitT 8 i = (i == 3) := by revert i; decide +kernel
theorem bit_wt (k : Nat) (hk : 1 ≤ k ∧ k ≤ 3) (i : Nat) (hi : i < 32) : bitT (wt k) i = (i == k) := by
  match k, hk with
  | 1, _ => exact bit_2 i hi
  | 2, _ => exact bit_4 i hi
  | 3, _ => exact bit_8 i hi
  | k + 4, h => omega
/-- Has the word bit k? (by the program's way) -/
theorem has_and (x : Int) (k : Nat) (hk : 1 ≤ k ∧ k ≤ 3) : (bits .and .u32 x (wt k) != 0) = bitT x k := by
  have e : bits .and .u32 x (wt k) = if bitT x k = true then wt k else 0 := by
    apply bit_ext _ _ (u32_and _ _)
    · split
      · match k, hk with
        | 1, _ => exact ⟨by decide, by decide⟩
        | 2, _ => exact ⟨by decide, by decide⟩
        | 3, _ => exact ⟨by decide, by decide⟩
        | k + 4, h => omega
      · exact u32_zero
    · intro i hi
      rw [bit_and, bit_wt k hk i hi]
      by_cases hik : i = k
      · subst hik
        split
        · rename_i h; rw [bit_wt i hk i hi, h]; rfl
        · rename_i h; rw [bit_zero]; simp at h; rw [h]; rfl
      · have : (i == k) = false := by simp [hik]
        rw [this]
        split
        · rw [bit_wt k hk i hi, this]; simp
        · rw [bit_zero]; simp
  rw [e]
  match k, hk with
  | 1, _ => cases bitT x 1 <;> rfl
  | 2, _ => cases bitT x 2 <;> rfl
  | 3, _ => cases bitT x 3 <;> rfl
  | k + 4, h => omega
/-- The same, by the reference's way. -/
theorem has_shift (x : Int) (hx : U32 x) (k : Nat) (hk : 1 ≤ k ∧ k ≤ 3) : (bits .and .u32 (x / 2 ^ k) 1 == 1) = bitT x k := by
  rw [bit_of x hx k (by omega)]
  obtain ⟨n, rfl⟩ := Int.eq_ofNat_of_zero_le hx.1
  have h2 := hx.2
  have e : ((n : Int) / 2 ^ k) = ((n / 2 ^ k : Nat) : Int) := by simp
  have hlt : n / 2 ^ k ≤ n := Nat.div_le_self _ _
  rw [e, show (1 : Int) = ((1 : Nat) : Int) from rfl, u32_and_nat _ _ (by omega) (by omega), show (1 : Nat) = 2 ^ 1 - 1 from rfl, Nat.and_two_pow_sub_one_eq_mod]
  apply Bool.eq_iff_iff.2
  simp only [beq_iff_eq, decide_eq_true_eq]
  omega

end Go.Proofs.YtjohcpokmdofkaaGreatDoor.Pc
namespace Go.Proofs.YtjohcpokmdofkaaGreatDoor.Pc
open Go.RowKit Go.Deep Go.Joins
/-- All of it are words of 32 bits. -/
structure Ok (h : Pl) : Prop where
  p0 : U32 h.p0
  p1 : U32 h.p1
  p2 : U32 h.p2
  p3 : U32 h.p3
  e0 : U32 h.e0
  e1 : U32 h.e1
  l0 : U32 h.l0
  l1 : U32 h.l1
  c : U32 h.c
abbrev plV (h : Pl) : Value := .agg (plC h)
abbrev plO (h : Pl) : Obj := .cells (plC h) 33
theorem plC_size (h : Pl) : (plC h).size = 9 := rfl
theorem plC_at (h : Pl) (k : Nat) : (plC h)[k]? = (plL h)[k]? := by unfold plC; rw [List.getElem?_toArray]
theorem plC_set (h g : Pl) (k : Nat) (v : Value) (ht : plL g = (plL h).set k v) : (plC h).setIfInBounds k v = plC g := by
  unfold plC
  rw [List.setIfInBounds_toArray, ht]
theorem pl_one (h : Pl) : (plC h).all (·.oneCell') = true := by
  unfold plC plL
  simp [Value.oneCell']
theorem size33 : (Tryz.prog.info? 33).map (·.size) = some 9 := by kernel_rfl
theorem size30 : (Tryz.prog.info? 30).map (·.size) = some 4 := by kernel_rfl
theorem size31 : (Tryz.prog.info? 31).map (·.size) = some 2 := by kernel_rfl
theorem size29 : (Tryz.prog.info? 29).map (·.size) = some 1 := by kernel_rfl

end Go.Proofs.YtjohcpokmdofkaaGreatDoor.Pc
namespace Go

end Go
namespace Go.Proofs.YtjohcpokmdofkaaGreatDoor.Pc
open Go.RowKit Go.Deep Go.Joins
/-- A block that holds this state. -/
def Box (w : World) (b : Nat) (h : Pl) : Prop := w.heap[b]? = some (plO h)
theorem Box.lt {w : World} {b : Nat} {h : Pl} (k : Box w b h) : b < w.heap.size := (Array.getElem?_eq_some_iff.1 k).1
theorem Box.next {w w' : World} {b : Nat} {h : Pl} (k : Box w b h) (j : Below w.heap.size w w') : Box w' b h := (j.block b k.lt).trans k
theorem Box.drew {w : World} {b : Nat} {h : Pl} (k : Box w b h) : Box w.drew b h := k
theorem Box.alloc {w : World} {b : Nat} {h : Pl} (k : Box w b h) (o : Obj) : Box (w.alloc o) b h := k.next ((Below.refl _ _).alloc (Nat.le_refl _) o)
theorem Box.new (w : World) (h : Pl) : Box (w.alloc (plO h)) w.heap.size h := heap_alloc_last w _
theorem Box.over {w : World} {b g : Nat} {h : Pl} (k : Box w b h) (hg : b ≠ g) (cs : Array Value) : Box (w.setRow g cs) b h := (setRow_other w g b cs hg).trans k
theorem Box.mine {w : World} {g : Nat} {old : Array Value} (k : w.heap[g]? = some (.cells old 33 (0, 0))) (h : Pl) : Box (w.setRow g (plC h)) g h := setRow_heap w g old (plC h) 33 (0, 0) k
theorem Box.load {w : World} {b : Nat} {h : Pl} (k : Box w b h) : (Instr.loadAt 33 (.pointer (some ⟨b, 0, none⟩))).run Tryz.prog w = .ok (plV h) w := by
  simp only [Instr.loadAt, Instr.sureAddr, Sem.run_bind, Sem.run_pure, Result.andThen]
  exact run_loadVar_row w b 33 33 (plC h) (0, 0) _ k Tryz.underlying33 rfl (by rw [size33, plC_size])
theorem Box.result {w : World} {b : Nat} {h : Pl} (k : Box w b h) : (loadVar 33 ⟨b, 0, none⟩).run Tryz.prog w = .ok (plV h) w :=
  run_loadVar_row w b 33 33 (plC h) (0, 0) _ k Tryz.underlying33 rfl (by rw [size33, plC_size])
theorem Box.load_prio {w : World} {b : Nat} {h : Pl} (k : Box w b h) : (Instr.loadAt 30 (.pointer (some ⟨b, 0, none⟩))).run Tryz.prog w = .ok (.agg #[.int .u32 h.p0, .int .u32 h.p1, .int .u32 h.p2, .int .u32 h.p3]) w :=
  run_load_rowAt w b 0 33 30 (plC h) [.int .u32 h.p0, .int .u32 h.p1, .int .u32 h.p2, .int .u32 h.p3] _ k Tryz.underlying30 rfl (by rw [size30]; rfl) fun j v hv => by
    rw [Nat.zero_add, plC_at]
    match j, hv with
    | 0, hv => exact hv
    | 1, hv => exact hv
    | 2, hv => exact hv
    | 3, hv => exact hv
    | j + 4, hv => simp at hv
theorem Box.load_level {w : World} {b : Nat} {h : Pl} (k : Box w b h) : (Instr.loadAt 31 (.pointer (some ⟨b, 6, none⟩))).run Tryz.prog w = .ok (.agg #[.int .u32 h.l0, .int .u32 h.l1]) w :=
  run_load_rowAt w b 6 33 31 (plC h) [.int .u32 h.l0, .int .u32 h.l1] _ k Tryz.underlying31 rfl (by rw [size31]; rfl) fun j v hv => by
    rw [plC_at]
    match j, hv with
    | 0, hv => exact hv
    | 1, hv => exact hv
    | j + 2, hv => simp at hv
theorem Box.cell {w : World} {b : Nat} {h : Pl} (k : Box w b h) (i : Nat) : w.cell? ⟨b, i, none⟩ = (plL h)[i]? := by
  rw [cell_of_row w b _ (plC h) 33 (0, 0) k, plC_at]
theorem Box.load_p0 {w : World} {b : Nat} {h : Pl} (k : Box w b h) : (Instr.loadAt 29 (.pointer (some ⟨b, 0, none⟩))).run Tryz.prog w = .ok (.int .u32 h.p0) w :=
  run_load_cell w b 0 29 33 (plC h) _ _ k Tryz.underlying29 rfl (plC_at h 0)
theorem Box.load_p1 {w : World} {b : Nat} {h : Pl} (k : Box w b h) : (Instr.loadAt 29 (.pointer (some ⟨b, 1, none⟩))).run Tryz.prog w = .ok (.int .u32 h.p1) w :=
  run_load_cell w b 1 29 33 (plC h) _ _ k Tryz.underlying29 rfl (plC_at h 1)
theorem Box.load_p2 {w : World} {b : Nat} {h : Pl} (k : Box w b h) : (Instr.loadAt 29 (.pointer (some ⟨b, 2, none⟩))).run Tryz.prog w = .ok (.int .u32 h.p2) w :=
  run_load_cell w b 2 29 33 (plC h) _ _ k Tryz.underlying29 rfl (plC_at h 2)
theorem Box.load_p3 {w : World} {b : Nat} {h : Pl} (k : Box w b h) : (Instr.loadAt 29 (.pointer (some ⟨b, 3, none⟩))).run Tryz.prog w = .ok (.int .u32 h.p3) w :=
  run_load_cell w b 3 29 33 (plC h) _ _ k Tryz.underlying29 rfl (plC_at h 3)
theorem Box.load_e0 {w : World} {b : Nat} {h : Pl} (k : Box w b h) : (Instr.loadAt 29 (.pointer (some ⟨b, 4, none⟩))).run Tryz.prog w = .ok (.int .u32 h.e0) w :=
  run_load_cell w b 4 29 33 (plC h) _ _ k Tryz.underlying29 rfl (plC_at h 4)
theorem Box.load_e1 {w : World} {b : Nat} {h : Pl} (k : Box w b h) : (Instr.loadAt 29 (.pointer (some ⟨b, 5, none⟩))).run Tryz.prog w = .ok (.int .u32 h.e1) w :=
  run_load_cell w b 5 29 33 (plC h) _ _ k Tryz.underlying29 rfl (plC_at h 5)
theorem Box.load_l0 {w : World} {b : Nat} {h : Pl} (k : Box w b h) : (Instr.loadAt 29 (.pointer (some ⟨b, 6, none⟩))).run Tryz.prog w = .ok (.int .u32 h.l0) w :=
  run_load_cell w b 6 29 33 (plC h) _ _ k Tryz.underlying29 rfl (plC_at h 6)
theorem Box.load_l1 {w : World} {b : Nat} {h : Pl} (k : Box w b h) : (Instr.loadAt 29 (.pointer (some ⟨b, 7, none⟩))).run Tryz.prog w = .ok (.int .u32 h.l1) w :=
  run_load_cell w b 7 29 33 (plC h) _ _ k Tryz.underlying29 rfl (plC_at h 7)
theorem Box.load_c {w : World} {b : Nat} {h : Pl} (k : Box w b h) : (Instr.loadAt 29 (.pointer (some ⟨b, 8, none⟩))).run Tryz.prog w = .ok (.int .u32 h.c) w :=
  run_load_cell w b 8 29 33 (plC h) _ _ k Tryz.underlying29 rfl (plC_at h 8)
theorem store_box (w : World) (b : Nat) (old : Array Value) (h : Pl) (k : w.heap[b]? = some (.cells old 33 (0, 0))) (ho : old.size = 9) : (Instr.storeAt 33 (.pointer (some ⟨b, 0, none⟩)) (plV h)).run Tryz.prog w = .ok () (w.setRow b (plC h)) := by
  simp only [Instr.storeAt, Instr.sureAddr, Sem.run_bind, Sem.run_pure, Result.andThen]
  exact run_storeVar_row w b 33 33 old (plC h) k (by rw [size33, plC_size]) (by rw [ho, plC_size]) (pl_one h)
def zeroP : Pl := ⟨0, 0, 0, 0, 0, 0, 0, 0, 0⟩
abbrev zeroC : Array Value := #[.int .u32 0, .int .u32 0, .int .u32 0, .int .u32 0, .int .u32 0, .int .u32 0, .int .u32 0, .int .u32 0, .int .u32 0]
abbrev zeroO : Obj := .cells zeroC 33
theorem store_new (w : World) (h : Pl) : (Instr.storeAt 33 (.pointer (some ⟨w.heap.size, 0, none⟩)) (plV h)).run Tryz.prog (w.alloc zeroO) = .ok () (w.alloc (plO h)) :=
  run_storeAt_new w 33 _ (plC h) (by rw [size33, plC_size]) (by rw [plC_size]; rfl) (pl_one h)
/-- A function's own state, and behind it its result. -/
def St (n : Nat) (W : World) (h : Pl) (r : Array Value) : World := ((W.alloc (plO h)).alloc (.cells r 33)).drewN n
theorem St.box (n : Nat) (W : World) (h : Pl) (r : Array Value) : Box (St n W h r) W.heap.size h := (Box.new W h).alloc (.cells r 33)
theorem St.res (n : Nat) (W : World) (h : Pl) (r : Array Value) : (St n W h r).heap[W.heap.size + 1]? = some (.cells r 33 (0, 0)) := by
  have k := heap_alloc_last (W.alloc (plO h)) (.cells r 33)
  rwa [World.size_alloc] at k
theorem St.put (n : Nat) (W : World) (h g : Pl) (r : Array Value) : (St n W h r).setRow W.heap.size (plC g) = St n W g r := by
  have k : ((W.alloc (plO h)).alloc (.cells r 33)).setRow W.heap.size (plC g) = (W.alloc (plO g)).alloc (.cells r 33) := by rw [setRow_alloc_old _ _ _ _ (by simp), World.setRow_alloc_new]
  exact congrArg (fun w => w.drewN n) k
theorem St.full (n : Nat) (W : World) (h : Pl) (r r' : Array Value) : (St n W h r).setRow (W.heap.size + 1) r' = St n W h r' := by
  have k := World.setRow_alloc_new (W.alloc (plO h)) r r' 33
  rw [World.size_alloc] at k
  exact congrArg (fun w => w.drewN n) k
theorem St.below (n : Nat) (W : World) (h : Pl) (r : Array Value) : Below W.heap.size W (St n W h r) := ⟨rfl, rfl, rfl, by show W.heap.size ≤ ((W.heap.push _).push _).size; simp; omega, fun k hk => (((Below.refl _ _).alloc (Nat.le_refl _) _).alloc (by simp) _).block k hk⟩
theorem St.load (n : Nat) (W : World) (h : Pl) (r : Array Value) : (Instr.loadAt 33 (.pointer (some ⟨W.heap.size, 0, none⟩))).run Tryz.prog (St n W h r) = .ok (plV h) (St n W h r) := (St.box n W h r).load
theorem St.store (n : Nat) (W : World) (h g : Pl) : (Instr.storeAt 33 (.pointer (some ⟨W.heap.size + 1, 0, none⟩)) (plV g)).run Tryz.prog (St n W h zeroC) = .ok () (St n W h (plC g)) :=
  (store_box _ _ _ _ (St.res n W h zeroC) rfl).trans (by rw [St.full])
theorem St.store_at {n : Nat} {W : World} {h : Pl} (g : Pl) {r : Array Value} (i : Nat) {v : Value} (hi : i < 9) (h1 : v.oneCell' = true) (hc : v.cells = #[v]) (ht : plL g = (plL h).set i v) : (Instr.storeAt 29 (.pointer (some ⟨W.heap.size, i, none⟩)) v).run Tryz.prog (St n W h r) = .ok () (St n W g r) := by
  refine (run_store_cell _ _ i 29 33 _ _ (St.box n W h r) size29 (by rw [plC_size]; omega) h1 hc).trans ?_
  rw [plC_set h g i v ht, St.put]
theorem St.result (n : Nat) (W : World) (h g : Pl) : (loadVar 33 ⟨W.heap.size + 1, 0, none⟩).run Tryz.prog (St n W h (plC g)) = .ok (plV g) (St n W h (plC g)) := Box.result (St.res n W h (plC g))
theorem St.zero (W : World) (h : Pl) : (W.alloc (plO h)).alloc zeroO = St 0 W h zeroC := rfl
theorem St.drew (n : Nat) (W : World) (h : Pl) (r : Array Value) : (St n W h r).drew = St (n + 1) W h r := rfl
theorem plC_zero : plC zeroP = zeroC := rfl
theorem St.load_p0 {n : Nat} {W : World} {p0 p1 p2 p3 e0 e1 l0 l1 c : Int} {r : Array Value} : (Instr.loadAt 29 (.pointer (some ⟨W.heap.size, 0, none⟩))).run Tryz.prog (St n W (⟨p0, p1, p2, p3, e0, e1, l0, l1, c⟩ : Pl) r) = .ok (.int .u32 p0) (St n W (⟨p0, p1, p2, p3, e0, e1, l0, l1, c⟩ : Pl) r) := (St.box n W _ r).load_p0
theorem St.store_p0 {n : Nat} {W : World} {p0 p1 p2 p3 e0 e1 l0 l1 c : Int} {r : Array Value} {v : Int} : (Instr.storeAt 29 (.pointer (some ⟨W.heap.size, 0, none⟩)) (.int .u32 v)).run Tryz.prog (St n W (⟨p0, p1, p2, p3, e0, e1, l0, l1, c⟩ : Pl) r) = .ok () (St n W (⟨v, p1, p2, p3, e0, e1, l0, l1, c⟩ : Pl) r) := St.store_at (⟨v, p1, p2, p3, e0, e1, l0, l1, c⟩ : Pl) 0 (by omega) rfl rfl rfl
theorem St.load_p1 {n : Nat} {W : World} {p0 p1 p2 p3 e0 e1 l0 l1 c : Int} {r : Array Value} : (Instr.loadAt 29 (.pointer (some ⟨W.heap.size, 1, none⟩))).run Tryz.prog (St n W (⟨p0, p1, p2, p3, e0, e1, l0, l1, c⟩ : Pl) r) = .ok (.int .u32 p1) (St n W (⟨p0, p1, p2, p3, e0, e1, l0, l1, c⟩ : Pl) r) := (St.box n W _ r).load_p1
theorem St.store_p1 {n : Nat} {W : World} {p0 p1 p2 p3 e0 e1 l0 l1 c : Int} {r : Array Value} {v : Int} : (Instr.storeAt 29 (.pointer (some ⟨W.heap.size, 1, none⟩)) (.int .u32 v)).run Tryz.prog (St n W (⟨p0, p1, p2, p3, e0, e1, l0, l1, c⟩ : Pl) r) = .ok () (St n W (⟨p0, v, p2, p3, e0, e1, l0, l1, c⟩ : Pl) r) := St.store_at (⟨p0, v, p2, p3, e0, e1, l0, l1, c⟩ : Pl) 1 (by omega) rfl rfl rfl
theorem St.load_p2 {n : Nat} {W : World} {p0 p1 p2 p3 e0 e1 l0 l1 c : Int} {r : Array Value} : (Instr.loadAt 29 (.pointer (some ⟨W.heap.size, 2, none⟩))).run Tryz.prog (St n W (⟨p0, p1, p2, p3, e0, e1, l0, l1, c⟩ : Pl) r) = .ok (.int .u32 p2) (St n W (⟨p0, p1, p2, p3, e0, e1, l0, l1, c⟩ : Pl) r) := (St.box n W _ r).load_p2
theorem St.store_p2 {n : Nat} {W : World} {p0 p1 p2 p3 e0 e1 l0 l1 c : Int} {r : Array Value} {v : Int} : (Instr.storeAt 29 (.pointer (some ⟨W.heap.size, 2, none⟩)) (.int .u32 v)).run Tryz.prog (St n W (⟨p0, p1, p2, p3, e0, e1, l0, l1, c⟩ : Pl) r) = .ok () (St n W (⟨p0, p1, v, p3, e0, e1, l0, l1, c⟩ : Pl) r) := St.store_at (⟨p0, p1, v, p3, e0, e1, l0, l1, c⟩ : Pl) 2 (by omega) rfl rfl rfl
theorem St.load_p3 {n : Nat} {W : World} {p0 p1 p2 p3 e0 e1 l0 l1 c : Int} {r : Array Value} : (Instr.loadAt 29 (.pointer (some ⟨W.heap.size, 3, none⟩))).run Tryz.prog (St n W (⟨p0, p1, p2, p3, e0, e1, l0, l1, c⟩ : Pl) r) = .ok (.int .u32 p3) (St n W (⟨p0, p1, p2, p3, e0, e1, l0, l1, c⟩ : Pl) r) := (St.box n W _ r).load_p3
theorem St.store_p3 {n : Nat} {W : World} {p0 p1 p2 p3 e0 e1 l0 l1 c : Int} {r : Array Value} {v : Int} : (Instr.storeAt 29 (.pointer (some ⟨W.heap.size, 3, none⟩)) (.int .u32 v)).run Tryz.prog (St n W (⟨p0, p1, p2, p3, e0, e1, l0, l1, c⟩ : Pl) r) = .ok () (St n W (⟨p0, p1, p2, v, e0, e1, l0, l1, c⟩ : Pl) r) := St.store_at (⟨p0, p1, p2, v, e0, e1, l0, l1, c⟩ : Pl) 3 (by omega) rfl rfl rfl
theorem St.load_e0 {n : Nat} {W : World} {p0 p1 p2 p3 e0 e1 l0 l1 c : Int} {r : Array Value} : (Instr.loadAt 29 (.pointer (some ⟨W.heap.size, 4, none⟩))).run Tryz.prog (St n W (⟨p0, p1, p2, p3, e0, e1, l0, l1, c⟩ : Pl) r) = .ok (.int .u32 e0) (St n W (⟨p0, p1, p2, p3, e0, e1, l0, l1, c⟩ : Pl) r) := (St.box n W _ r).load_e0
theorem St.store_e0 {n : Nat} {W : World} {p0 p1 p2 p3 e0 e1 l0 l1 c : Int} {r : Array Value} {v : Int} : (Instr.storeAt 29 (.pointer (some ⟨W.heap.size, 4, none⟩)) (.int .u32 v)).run Tryz.prog (St n W (⟨p0, p1, p2, p3, e0, e1, l0, l1, c⟩ : Pl) r) = .ok () (St n W (⟨p0, p1, p2, p3, v, e1, l0, l1, c⟩ : Pl) r) := St.store_at (⟨p0, p1, p2, p3, v, e1, l0, l1, c⟩ : Pl) 4 (by omega) rfl rfl rfl
theorem St.load_e1 {n : Nat} {W : World} {p0 p1 p2 p3 e0 e1 l0 l1 c : Int} {r : Array Value} : (Instr.loadAt 29 (.pointer (some ⟨W.heap.size, 5, none⟩))).run Tryz.prog (St n W (⟨p0, p1, p2, p3, e0, e1, l0, l1, c⟩ : Pl) r) = .ok (.int .u32 e1) (St n W (⟨p0, p1, p2, p3, e0, e1, l0, l1, c⟩ : Pl) r) := (St.box n W _ r).load_e1
theorem St.store_e1 {n : Nat} {W : World} {p0 p1 p2 p3 e0 e1 l0 l1 c : Int} {r : Array Value} {v : Int} : (Instr.storeAt 29 (.pointer (some ⟨W.heap.size, 5, none⟩)) (.int .u32 v)).run Tryz.prog (St n W (⟨p0, p1, p2, p3, e0, e1, l0, l1, c⟩ : Pl) r) = .ok () (St n W (⟨p0, p1, p2, p3, e0, v, l0, l1, c⟩ : Pl) r) := St.store_at (⟨p0, p1, p2, p3, e0, v, l0, l1, c⟩ : Pl) 5 (by omega) rfl rfl rfl
theorem St.load_l0 {n : Nat} {W : World} {p0 p1 p2 p3 e0 e1 l0 l1 c : Int} {r : Array Value} : (Instr.loadAt 29 (.pointer (some ⟨W.heap.size, 6, none⟩))).run Tryz.prog (St n W (⟨p0, p1, p2, p3, e0, e1, l0, l1, c⟩ : Pl) r) = .ok (.int .u32 l0) (St n W (⟨p0, p1, p2, p3, e0, e1, l0, l1, c⟩ : Pl) r) := (St.box n W _ r).load_l0
theorem St.store_l0 {n : Nat} {W : World} {p0 p1 p2 p3 e0 e1 l0 l1 c : Int} {r : Array Value} {v : Int} : (Instr.storeAt 29 (.pointer (some ⟨W.heap.size, 6, none⟩)) (.int .u32 v)).run Tryz.prog (St n W (⟨p0, p1, p2, p3, e0, e1, l0, l1, c⟩ : Pl) r) = .ok () (St n W (⟨p0, p1, p2, p3, e0, e1, v, l1, c⟩ : Pl) r) := St.store_at (⟨p0, p1, p2, p3, e0, e1, v, l1, c⟩ : Pl) 6 (by omega) rfl rfl rfl
theorem St.load_l1 {n : Nat} {W : World} {p0 p1 p2 p3 e0 e1 l0 l1 c : Int} {r : Array Value} : (Instr.loadAt 29 (.pointer (some ⟨W.heap.size, 7, none⟩))).run Tryz.prog (St n W (⟨p0, p1, p2, p3, e0, e1, l0, l1, c⟩ : Pl) r) = .ok (.int .u32 l1) (St n W (⟨p0, p1, p2, p3, e0, e1, l0, l1, c⟩ : Pl) r) := (St.box n W _ r).load_l1
theorem St.store_l1 {n : Nat} {W : World} {p0 p1 p2 p3 e0 e1 l0 l1 c : Int} {r : Array Value} {v : Int} : (Instr.storeAt 29 (.pointer (some ⟨W.heap.size, 7, none⟩)) (.int .u32 v)).run Tryz.prog (St n W (⟨p0, p1, p2, p3, e0, e1, l0, l1, c⟩ : Pl) r) = .ok () (St n W (⟨p0, p1, p2, p3, e0, e1, l0, v, c⟩ : Pl) r) := St.store_at (⟨p0, p1, p2, p3, e0, e1, l0, v, c⟩ : Pl) 7 (by omega) rfl rfl rfl
theorem St.load_c {n : Nat} {W : World} {p0 p1 p2 p3 e0 e1 l0 l1 c : Int} {r : Array Value} : (Instr.loadAt 29 (.pointer (some ⟨W.heap.size, 8, none⟩))).run Tryz.prog (St n W (⟨p0, p1, p2, p3, e0, e1, l0, l1, c⟩ : Pl) r) = .ok (.int .u32 c) (St n W (⟨p0, p1, p2, p3, e0, e1, l0, l1, c⟩ : Pl) r) := (St.box n W _ r).load_c
theorem St.store_c {n : Nat} {W : World} {p0 p1 p2 p3 e0 e1 l0 l1 c : Int} {r : Array Value} {v : Int} : (Instr.storeAt 29 (.pointer (some ⟨W.heap.size, 8, none⟩)) (.int .u32 v)).run Tryz.prog (St n W (⟨p0, p1, p2, p3, e0, e1, l0, l1, c⟩ : Pl) r) = .ok () (St n W (⟨p0, p1, p2, p3, e0, e1, l0, l1, v⟩ : Pl) r) := St.store_at (⟨p0, p1, p2, p3, e0, e1, l0, l1, v⟩ : Pl) 8 (by omega) rfl rfl rfl
theorem results_three {fn : Func} {p u q : Tmp} (h : fn.results = #[.cell p 33, .tmp u, .tmp q]) (tmps : Array Value) (w : World) (g : Nat) (k : Pl) (v x : Value) (hp : tmps.getD p undef = .pointer (some ⟨g, 0, none⟩)) (hg : Box w g k) (hv : tmps.getD u undef = v) (hx : tmps.getD q undef = x) :
    (results fn tmps).run Tryz.prog w = .ok (.tuple #[plV k, v, x]) w := by
  have hp' : tmps[p]?.getD undef = .pointer (some ⟨g, 0, none⟩) := by simpa using hp
  have hv' : tmps[u]?.getD undef = v := by simpa using hv
  have hx' : tmps[q]?.getD undef = x := by simpa using hx
  simp [results, h, hp', hv', hx', asAddr, Box.result hg]
theorem results_two {fn : Func} {p u : Tmp} (h : fn.results = #[.cell p 33, .tmp u]) (tmps : Array Value) (w : World) (g : Nat) (k : Pl) (v : Value) (hp : tmps.getD p undef = .pointer (some ⟨g, 0, none⟩)) (hg : Box w g k) (hv : tmps.getD u undef = v) :
    (results fn tmps).run Tryz.prog w = .ok (.tuple #[plV k, v]) w := by
  rw [results_cell_tmp h, hp, hv]
  simp [asAddr, Result.andThen, Box.result hg]

end Go.Proofs.YtjohcpokmdofkaaGreatDoor.Pc
namespace Go.Proofs.YtjohcpokmdofkaaGreatDoor.Pc
open Go.RowKit Go.Deep Go.Joins
/-- The sources that wait. -/
def waitV (s c : Int) : Int := bits .and .u32 (bits .andNot .u32 s c) 14
set_option maxHeartbeats 1000000 in
theorem wait_any (h : Pl) (s : Int) (W : World) : Calls Tryz.prog 87 #[plV h, .int .u32 s] W fun e W' => e = .returned (.int .u32 (waitV s h.c)) ∧ Below W.heap.size W W' := by
  have m_c : (plC h)[8]? = some (.int .u32 h.c) := plC_at h 8
  go_enter Tryz.func87, Tryz.ntmps87
  go_wp2
  go_ret
  exact ⟨rfl, (Below.refl _ _).alloc (Nat.le_refl _) _⟩
/-- It has no bits but those of the sources. -/
def onlyB (x : Int) : Bool := bits .andNot .u32 x 14 == 0
set_option maxHeartbeats 1000000 in
theorem bit_lit0 (W : World) : Calls Tryz.prog 88 #[.int .u32 0] W fun e W' => e = .returned (.int .u32 0) ∧ W = W' := by
  go_enter Tryz.func88, Tryz.ntmps88
  go_wp2
  go_ret
  exact ⟨ret_int (by decide +kernel), rfl⟩
set_option maxHeartbeats 1000000 in
theorem bit_lit1 (W : World) : Calls Tryz.prog 88 #[.int .u32 1] W fun e W' => e = .returned (.int .u32 2) ∧ W = W' := by
  go_enter Tryz.func88, Tryz.ntmps88
  go_wp2
  go_ret
  exact ⟨ret_int (by decide +kernel), rfl⟩
set_option maxHeartbeats 1000000 in
theorem bit_lit2 (W : World) : Calls Tryz.prog 88 #[.int .u32 2] W fun e W' => e = .returned (.int .u32 4) ∧ W = W' := by
  go_enter Tryz.func88, Tryz.ntmps88
  go_wp2
  go_ret
  exact ⟨ret_int (by decide +kernel), rfl⟩
set_option maxHeartbeats 1000000 in
theorem bit_lit3 (W : World) : Calls Tryz.prog 88 #[.int .u32 3] W fun e W' => e = .returned (.int .u32 8) ∧ W = W' := by
  go_enter Tryz.func88, Tryz.ntmps88
  go_wp2
  go_ret
  exact ⟨ret_int (by decide +kernel), rfl⟩
theorem big_none (k : Nat) (h : k ≤ 32) (h4 : 4 ≤ k) : bits .and .u32 (2 ^ k % 4294967296) 14 = 0 := by
  revert k
  decide +kernel
set_option maxHeartbeats 1000000 in
theorem bit_big (n : Int) (hn : U32 n) (h4 : 4 ≤ n) (W : World) : Calls Tryz.prog 88 #[.int .u32 n] W fun e W' => e = .returned (.int .u32 0) ∧ W = W' := by
  obtain ⟨h0, h1⟩ := hn
  have HB := Lib.hid (big_none (min n.toNat 32) (by omega) (by omega))
  go_enter Tryz.func88, Tryz.ntmps88
  go_wp2
  go_ret
  exact ⟨ret_int HB.out, rfl⟩
set_option maxHeartbeats 1000000 in
theorem place_p1 (W : World) : Calls Tryz.prog 215 #[.int .u64 201326596] W fun e W' => e = .returned (.tuple #[.int .i64 1, .int .i64 1]) ∧ W = W' := by
  go_enter Tryz.func215, Tryz.ntmps215
  go_wp2
  go_ret2
  exact ⟨rfl, rfl⟩
set_option maxHeartbeats 1000000 in
theorem place_p2 (W : World) : Calls Tryz.prog 215 #[.int .u64 201326600] W fun e W' => e = .returned (.tuple #[.int .i64 1, .int .i64 2]) ∧ W = W' := by
  go_enter Tryz.func215, Tryz.ntmps215
  go_wp2
  go_ret2
  exact ⟨rfl, rfl⟩
set_option maxHeartbeats 1000000 in
theorem place_p3 (W : World) : Calls Tryz.prog 215 #[.int .u64 201326604] W fun e W' => e = .returned (.tuple #[.int .i64 1, .int .i64 3]) ∧ W = W' := by
  go_enter Tryz.func215, Tryz.ntmps215
  go_wp2
  go_ret2
  exact ⟨rfl, rfl⟩
set_option maxHeartbeats 1000000 in
theorem place_wait (W : World) : Calls Tryz.prog 215 #[.int .u64 201330688] W fun e W' => e = .returned (.tuple #[.int .i64 2, .int .i64 0]) ∧ W = W' := by
  go_enter Tryz.func215, Tryz.ntmps215
  go_wp2
  go_ret2
  exact ⟨rfl, rfl⟩
set_option maxHeartbeats 1000000 in
theorem place_e0 (W : World) : Calls Tryz.prog 215 #[.int .u64 201334784] W fun e W' => e = .returned (.tuple #[.int .i64 3, .int .i64 0]) ∧ W = W' := by
  go_enter Tryz.func215, Tryz.ntmps215
  go_wp2
  go_ret2
  exact ⟨rfl, rfl⟩
set_option maxHeartbeats 1000000 in
theorem place_e1 (W : World) : Calls Tryz.prog 215 #[.int .u64 201334912] W fun e W' => e = .returned (.tuple #[.int .i64 3, .int .i64 1]) ∧ W = W' := by
  go_enter Tryz.func215, Tryz.ntmps215
  go_wp2
  go_ret2
  exact ⟨rfl, rfl⟩
set_option maxHeartbeats 1000000 in
theorem place_l0 (W : World) : Calls Tryz.prog 215 #[.int .u64 203423744] W fun e W' => e = .returned (.tuple #[.int .i64 4, .int .i64 0]) ∧ W = W' := by
  go_enter Tryz.func215, Tryz.ntmps215
  go_wp2
  go_ret2
  exact ⟨rfl, rfl⟩
set_option maxHeartbeats 1000000 in
theorem place_l1 (W : World) : Calls Tryz.prog 215 #[.int .u64 203427840] W fun e W' => e = .returned (.tuple #[.int .i64 4, .int .i64 1]) ∧ W = W' := by
  go_enter Tryz.func215, Tryz.ntmps215
  go_wp2
  go_ret2
  exact ⟨rfl, rfl⟩
set_option maxHeartbeats 1000000 in
theorem place_b0 (W : World) : Calls Tryz.prog 215 #[.int .u64 203423748] W fun e W' => e = .returned (.tuple #[.int .i64 5, .int .i64 0]) ∧ W = W' := by
  go_enter Tryz.func215, Tryz.ntmps215
  go_wp2
  go_ret2
  exact ⟨rfl, rfl⟩
set_option maxHeartbeats 1000000 in
theorem place_b1 (W : World) : Calls Tryz.prog 215 #[.int .u64 203427844] W fun e W' => e = .returned (.tuple #[.int .i64 5, .int .i64 1]) ∧ W = W' := by
  go_enter Tryz.func215, Tryz.ntmps215
  go_wp2
  go_ret2
  exact ⟨rfl, rfl⟩
/-- Nothing lies at the address. -/
structure NoPlace (t : Int) : Prop where
  n_p1 : ¬ t = 201326596
  n_p2 : ¬ t = 201326600
  n_p3 : ¬ t = 201326604
  n_wait : ¬ t = 201330688
  n_e0 : ¬ t = 201334784
  n_e1 : ¬ t = 201334912
  n_l0 : ¬ t = 203423744
  n_l1 : ¬ t = 203427840
  n_b0 : ¬ t = 203423748
  n_b1 : ¬ t = 203427844
set_option maxHeartbeats 1000000 in
theorem place_none (t : Int) (hn : NoPlace t) (W : World) : Calls Tryz.prog 215 #[.int .u64 t] W fun e W' => e = .returned (.tuple #[.int .i64 0, .int .i64 0]) ∧ W = W' := by
  have x_p1 := hn.n_p1
  have x_p2 := hn.n_p2
  have x_p3 := hn.n_p3
  have x_wait := hn.n_wait
  have x_e0 := hn.n_e0
  have x_e1 := hn.n_e1
  have x_l0 := hn.n_l0
  have x_l1 := hn.n_l1
  have x_b0 := hn.n_b0
  have x_b1 := hn.n_b1
  go_enter Tryz.func215, Tryz.ntmps215
  go_wp2
  go_ret2
  exact ⟨rfl, rfl⟩
def rplV (o f s : Int) : Int := if (o == f) = true then 0 else if (o == IntKind.u64.wrap (f + s)) = true then 1 else -1
end Go.Proofs.YtjohcpokmdofkaaGreatDoor.Pc
namespace Go.Proofs.YtjohcpokmdofkaaGreatDoor.Pc
open Go.RowKit Go.Deep Go.Joins
theorem plG : Tryz.prog.eqGuardType Tryz.prog.depth 33 = false := by kernel_rfl
/-- A world in which all that was there is as it was. -/
structure Near (w : World) where
  wx : World
  near : Below w.heap.size w wx
theorem wp_region_near {P : Program} {id : Nat} {Q : Exit → Act → World → Prop} {a : Act} {w : World} {l : List Oper} (hm : P.follows .mixedOrders = true) (hB : Region.lexB .any l.toArray = true)
    (h : wpQuiet P l.toArray (fun w' => ∃ p : Near w, w' = p.wx) (fun a' => ∀ w', (∃ p : Near w, w' = p.wx) → Q .normal a' w') l a) : (Code.region id l.toArray true).wp P Q a w :=
  wp_region_quiet (C := fun w' => ∃ p : Near w, w' = p.wx) hm hB ⟨⟨w.drew, (Below.refl _ _).drew⟩, rfl⟩ (by simpa using h)
theorem near_call {P : Program} {f : FuncId} {args : Array Value} {w : World} {p : Near w} {v : Value} (h : Calls P f args p.wx fun e w' => e = .returned v ∧ Below p.wx.heap.size p.wx w') :
    Calls P f args p.wx fun e w'' => e = .returned v ∧ ∃ p : Near w, w'' = p.wx :=
  h.mono fun _ _ ⟨he, hb⟩ => ⟨he, ⟨_, below_then p.near (Nat.le_refl _) hb⟩, rfl⟩
theorem near_same {P : Program} {f : FuncId} {args : Array Value} {w : World} {p : Near w} {v : Value} (h : Calls P f args p.wx fun e w' => e = .returned v ∧ p.wx = w') :
    Calls P f args p.wx fun e w'' => e = .returned v ∧ ∃ p : Near w, w'' = p.wx :=
  h.mono fun _ _ ⟨he, hb⟩ => ⟨he, p, hb.symm⟩
theorem quiet_by {P : Program} {a : Act} {C : World → Prop} {o : Oper} {K : Act → Prop} (r : Value) (hrun : ∀ w, C w → (execOp a.eval o).run P w = .ok (.value r) w) (hk : K (a.put o.dst r)) : o.quiet P a C K :=
  ⟨r, fun w hw => by unfold Oper.quietAt; rw [hrun w hw]; exact ⟨rfl, rfl⟩, hk⟩
theorem exec_load {P : Program} {ρ : Operand → Value} {o : Oper} {t : TypeId} {p : Operand} (ho : o.op = .load t p) {v r : Value} {w : World} (hrun : (Instr.loadAt t v).run P w = .ok r w) (hp : ρ p = v) : (execOp ρ o).run P w = .ok (.value r) w := by
  unfold execOp
  simp [ho, hp, hrun, Result.andThen]
theorem wpList_exec {w : World} {ops : Array Oper} {rest : List Oper} {o : Oper} {a : Act} {Q : Exit → Act → World → Prop} (hgd : Region.wanted o (yielded ops a.tmps) = true) {r : Value} (hrun : (execOp a.eval o).run Tryz.prog w = .ok (.value r) w)
    (h : wpList Tryz.prog ops Q rest (a.put o.dst r) w) : wpList Tryz.prog ops Q (o :: rest) a w := by
  refine wpList_step fun K hK => ?_
  rw [if_pos hgd]
  unfold Oper.wp
  rw [hrun]
  exact hK _ _ h
theorem near_load {w : World} {b : Nat} {h : Pl} (k : Box w b h) (w' : World) (hw : ∃ p : Near w, w' = p.wx) : (Instr.loadAt 33 (.pointer (some ⟨b, 0, none⟩))).run Tryz.prog w' = .ok (plV h) w' := by
  obtain ⟨p, rfl⟩ := hw
  exact (k.next p.near).load
theorem near_p0 {w : World} {b : Nat} {h : Pl} (k : Box w b h) (w' : World) (hw : ∃ p : Near w, w' = p.wx) : (Instr.loadAt 29 (.pointer (some ⟨b, 0, none⟩))).run Tryz.prog w' = .ok (.int .u32 h.p0) w' := by
  obtain ⟨p, rfl⟩ := hw
  exact (k.next p.near).load_p0
theorem near_p1 {w : World} {b : Nat} {h : Pl} (k : Box w b h) (w' : World) (hw : ∃ p : Near w, w' = p.wx) : (Instr.loadAt 29 (.pointer (some ⟨b, 1, none⟩))).run Tryz.prog w' = .ok (.int .u32 h.p1) w' := by
  obtain ⟨p, rfl⟩ := hw
  exact (k.next p.near).load_p1
theorem near_p2 {w : World} {b : Nat} {h : Pl} (k : Box w b h) (w' : World) (hw : ∃ p : Near w, w' = p.wx) : (Instr.loadAt 29 (.pointer (some ⟨b, 2, none⟩))).run Tryz.prog w' = .ok (.int .u32 h.p2) w' := by
  obtain ⟨p, rfl⟩ := hw
  exact (k.next p.near).load_p2
theorem near_p3 {w : World} {b : Nat} {h : Pl} (k : Box w b h) (w' : World) (hw : ∃ p : Near w, w' = p.wx) : (Instr.loadAt 29 (.pointer (some ⟨b, 3, none⟩))).run Tryz.prog w' = .ok (.int .u32 h.p3) w' := by
  obtain ⟨p, rfl⟩ := hw
  exact (k.next p.near).load_p3
theorem near_e0 {w : World} {b : Nat} {h : Pl} (k : Box w b h) (w' : World) (hw : ∃ p : Near w, w' = p.wx) : (Instr.loadAt 29 (.pointer (some ⟨b, 4, none⟩))).run Tryz.prog w' = .ok (.int .u32 h.e0) w' := by
  obtain ⟨p, rfl⟩ := hw
  exact (k.next p.near).load_e0
theorem near_e1 {w : World} {b : Nat} {h : Pl} (k : Box w b h) (w' : World) (hw : ∃ p : Near w, w' = p.wx) : (Instr.loadAt 29 (.pointer (some ⟨b, 5, none⟩))).run Tryz.prog w' = .ok (.int .u32 h.e1) w' := by
  obtain ⟨p, rfl⟩ := hw
  exact (k.next p.near).load_e1
theorem near_l0 {w : World} {b : Nat} {h : Pl} (k : Box w b h) (w' : World) (hw : ∃ p : Near w, w' = p.wx) : (Instr.loadAt 29 (.pointer (some ⟨b, 6, none⟩))).run Tryz.prog w' = .ok (.int .u32 h.l0) w' := by
  obtain ⟨p, rfl⟩ := hw
  exact (k.next p.near).load_l0
theorem near_l1 {w : World} {b : Nat} {h : Pl} (k : Box w b h) (w' : World) (hw : ∃ p : Near w, w' = p.wx) : (Instr.loadAt 29 (.pointer (some ⟨b, 7, none⟩))).run Tryz.prog w' = .ok (.int .u32 h.l1) w' := by
  obtain ⟨p, rfl⟩ := hw
  exact (k.next p.near).load_l1
theorem near_c {w : World} {b : Nat} {h : Pl} (k : Box w b h) (w' : World) (hw : ∃ p : Near w, w' = p.wx) : (Instr.loadAt 29 (.pointer (some ⟨b, 8, none⟩))).run Tryz.prog w' = .ok (.int .u32 h.c) w' := by
  obtain ⟨p, rfl⟩ := hw
  exact (k.next p.near).load_c

end Go.Proofs.YtjohcpokmdofkaaGreatDoor.Pc
