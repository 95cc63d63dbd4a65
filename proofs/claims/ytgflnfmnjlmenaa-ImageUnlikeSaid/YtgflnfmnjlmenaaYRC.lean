/- How memory lies (my own texts of the seat ram). there, loads, spot. Load and Text of the program. -/
import Derived.Test.YtgflnfmnjlmenaaRows
import Derived.BigQuiet
import Derived.Carry
import Derived.ChangeMaps
import Derived.Deep.AppendSrc
import Derived.Deep.DeepCutAuto
import Derived.Deep.RegionHeld3
import Derived.Deep.RegionLaw
import Derived.Deep.RegionWith
import Derived.Deep.Slices
import Derived.JoinedCond
import Derived.Laws.AppendOwnNone
import Derived.Laws.CopyOwn
import Derived.Laws.IdiomStrings
import Derived.Lib.Hide
import Derived.Lib.SmallJoins
import Derived.OpenShut
import Derived.ProofKit
import Derived.SizedLaws
import Derived.StillTailTactics
import Derived.WalkKit
import Derived.WalkLawsBesides
import Derived.Laws.Bits64b
import Derived.IntWalk
namespace Go.Proofs.Ytgflnfmnjlmenaa
open Go.RowKit Go.Deep Go.Joins
theorem ret_bool {a b : Bool} (h : a = b) : Ending.returned (.bool a) = .returned (.bool b) := by rw [h]
theorem ret_int {k : IntKind} {a b : Int} (h : a = b) : Ending.returned (.int k a) = .returned (.int k b) := by rw [h]
theorem ret_string {a b : ByteArray} (h : a = b) : Ending.returned (.string a) = .returned (.string b) := by rw [h]

/-- The slice value 'v' reads as 'n' elements of 'size' cells each, which hold 'cells'. -/
def Reads (w : World) (v : Value) (size n : Nat) (cells : List Value) : Prop :=
  cells.length = n * size ∧ ((v = .slice none 0 0 ∧ n = 0) ∨
    ∃ a cap, v = .slice (some a) n cap ∧ n ≤ cap ∧ cap ≤ maxLen ∧ ∀ j u, cells[j]? = some u → w.cell? (a.add j) = some u)
theorem lt_of_cell {w : World} {a : Addr} {v : Value} (h : w.cell? a = some v) : a.block < w.heap.size := World.block_lt_of_cell? w a h
theorem below_cell {w w' : World} {a : Addr} {v : Value} (hb : Below w.heap.size w w') (h : w.cell? a = some v) : w'.cell? a = some v :=
  (hb.cell (lt_of_cell h)).trans h
theorem Reads.below {w w' : World} {v : Value} {size n : Nat} {cells : List Value} (h : Reads w v size n cells) (hb : Below w.heap.size w w') : Reads w' v size n cells := by
  obtain ⟨hl, h⟩ := h
  refine ⟨hl, ?_⟩
  rcases h with h | ⟨a, cap, hv, h1, h2, hc⟩
  · exact .inl h
  · exact .inr ⟨a, cap, hv, h1, h2, fun j u hu => below_cell hb (hc j u hu)⟩
theorem Reads.is {w : World} {v : Value} {size n : Nat} {cells : List Value} (h : Reads w v size n cells) : ∃ p cap, v = .slice p n cap := by
  rcases h.2 with ⟨rfl, rfl⟩ | ⟨a, cap, rfl, _⟩
  · exact ⟨_, _, rfl⟩
  · exact ⟨_, _, rfl⟩
theorem spot_none {w : World} {a : Addr} {v : Value} (h : w.cell? a = some v) : a.spot = none := by
  unfold World.cell? at h
  split at h
  · split at h
    · cases h
    · rename_i hs; simpa using hs
  · cases h
theorem add_lit (b off j : Nat) : (⟨b, off, none⟩ : Addr).add j = ⟨b, off + j, none⟩ := by
  unfold Addr.add; split <;> simp_all
theorem Reads.at {w : World} {v : Value} {size n : Nat} {cells : List Value} (h : Reads w v size n cells) (h0 : 0 < n * size) :
    ∃ b off cap, v = .slice (some ⟨b, off, none⟩) n cap ∧ n ≤ cap ∧ cap ≤ maxLen ∧ b < w.heap.size ∧ ∀ j u, cells[j]? = some u → w.cell? ⟨b, off + j, none⟩ = some u := by
  obtain ⟨hl, h⟩ := h
  rcases h with ⟨_, rfl⟩ | ⟨a, cap, hv, h1, h2, hc⟩
  · omega
  · obtain ⟨u, hu⟩ : ∃ u, cells[0]? = some u := ⟨cells[0]'(by omega), List.getElem?_eq_getElem _⟩
    have hc0 := hc 0 u hu
    have ha0 : a.add 0 = a := by simp [Addr.add]
    rw [ha0] at hc0
    have hs := spot_none hc0
    have hb := lt_of_cell hc0
    obtain ⟨b, off, spot⟩ := a
    dsimp at hs hb
    subst hs
    exact ⟨b, off, cap, hv, h1, h2, hb, fun j u hu => by rw [← add_lit]; exact hc j u hu⟩
theorem below1 (w : World) (a : Obj) : Below w.heap.size w (w.alloc a) := (Below.refl _ _).alloc (Nat.le_refl _) _
theorem below2 (w : World) (a b : Obj) : Below w.heap.size w ((w.alloc a).alloc b) := (below1 w a).alloc (by simp) _
theorem below_then {w w1 w2 : World} (h : Below w.heap.size w w1) (h2 : Below w1.heap.size w1 w2) : Below w.heap.size w w2 := h.trans (h2.mono h.size)

/-! ### Memory: bytes, marks -/
def dC (l : List UInt8) : List Value := l.map fun b => .int .u8 b.toNat
def mC (l : List Int) : List Value := l.map fun m => .int .u64 m
theorem dC_length (l : List UInt8) : (dC l).length = l.length := List.length_map _
theorem mC_length (l : List Int) : (mC l).length = l.length := List.length_map _
/-- Bytes, as a slice's value. -/
def DAt (w : World) (v : Value) (D : List UInt8) : Prop := Reads w v 1 D.length (dC D)
def MAt (w : World) (v : Value) (M : List Int) : Prop := Reads w v 1 M.length (mC M)
theorem DAt.below {w w' : World} {v : Value} {D : List UInt8} (h : DAt w v D) (hb : Below w.heap.size w w') : DAt w' v D := Reads.below h hb
theorem MAt.below {w w' : World} {v : Value} {M : List Int} (h : MAt w v M) (hb : Below w.heap.size w w') : MAt w' v M := Reads.below h hb
theorem DAt.le {w : World} {v : Value} {D : List UInt8} (h : DAt w v D) : D.length ≤ 9223372036854775807 := by
  rcases h.2 with ⟨_, h⟩ | ⟨a, cap, _, h1, h2, _⟩
  · omega
  · unfold maxLen at h2; omega
theorem MAt.le {w : World} {v : Value} {D : List Int} (h : MAt w v D) : D.length ≤ 9223372036854775807 := by
  rcases h.2 with ⟨_, h⟩ | ⟨a, cap, _, h1, h2, _⟩
  · omega
  · unfold maxLen at h2; omega

/-! ### there -/
def thereB (n : Nat) (t size : Int) : Bool := decide (0 ≤ size) && decide (2147483648 ≤ t) && decide (t - 2147483648 + size ≤ n)
end Go.Proofs.Ytgflnfmnjlmenaa
namespace Go.Proofs.Ytgflnfmnjlmenaa
open Go.RowKit Go.Deep Go.Joins
theorem there_iff {n : Nat} {t size : Int} : thereB n t size = true ↔ 0 ≤ size ∧ 2147483648 ≤ t ∧ t - 2147483648 + size ≤ n := by
  unfold thereB; simp [and_assoc]
theorem there_no {n : Nat} {t size : Int} : thereB n t size = false ↔ ¬ (0 ≤ size ∧ 2147483648 ≤ t ∧ t - 2147483648 + size ≤ n) := by
  rw [← there_iff]; simp
theorem u64_under (t : Int) (h0 : 0 ≤ t) (h1 : t < 2147483648) : IntKind.u64.wrap (t - 2147483648) = t - 2147483648 + 18446744073709551616 := by
  rw [IntKind.wrap_u64]; omega
def leafB (n : Nat) (k : Int) : Bool := decide (0 ≤ k ∧ k < ((n / 256 : Nat) : Int))
def loadsB (size : Int) : Bool := decide (size = 1 ∨ size = 2 ∨ size = 4 ∨ size = 8)
/-- Where the reference finds bytes: -1, or how far on. -/
def spotV (n : Nat) (t size : Int) : Int := if 1 ≤ size ∧ thereB n t size = true then t - 2147483648 else -1
end Go.Proofs.Ytgflnfmnjlmenaa
namespace Go.Proofs.Ytgflnfmnjlmenaa
open Go.RowKit Go.Deep Go.Joins
/-- The number of bytes, the least first. -/
def le : List UInt8 → Nat
  | [] => 0
  | b :: l => le l * 256 + b.toNat
theorem le_lt (l : List UInt8) : le l < 256 ^ l.length := by
  induction l with
  | nil => simp [le]
  | cons b l ih =>
    have hb : b.toNat < 256 := b.toNat_lt
    simp only [le, List.length_cons, Nat.pow_succ]
    omega
theorem le_step (L : List UInt8) (i : Nat) (h : i < L.length) : le (L.drop i) = le (L.drop (i + 1)) * 256 + L[i].toNat := by
  rw [List.drop_eq_getElem_cons h]; rfl
theorem or_byte (N : Nat) (c : UInt8) (h : N * 256 + c.toNat < 18446744073709551616) :
    bits .or .u64 (IntKind.u64.wrap ((N : Int) * 256)) (IntKind.u64.wrap (c.toNat : Int)) = ((N * 256 + c.toNat : Nat) : Int) := by
  have hc : c.toNat < 256 := c.toNat_lt
  rw [IntWalk.u64_in _ (by omega), IntWalk.u64_in _ (by omega)]
  have h1 := bits_or_u64_nat (N * 256) c.toNat (Nat.lt_of_le_of_lt (Nat.le_add_right _ _) h) (Nat.lt_of_le_of_lt (Nat.le_add_left _ _) h)
  have hh : ((N : Int) * 256) = ((N * 256 : Nat) : Int) := by simp
  rw [hh, h1]
  have h2 := Nat.two_pow_add_eq_or_of_lt (i := 8) (b := c.toNat) (by omega) N
  have h3 : (2 : Nat) ^ 8 = 256 := rfl
  rw [h3] at h2
  rw [Nat.mul_comm N 256, ← h2]
theorem load_step (D : List UInt8) (k s i : Nat) (hs : s ≤ 8) (h : k + s ≤ D.length) (hi : i + 1 ≤ s) :
    bits .or .u64 (IntKind.u64.wrap ((le (((D.drop k).take s).drop (i + 1)) : Int) * 256)) (IntKind.u64.wrap ((D[k + i]?.getD 0).toNat : Int)) = (le (((D.drop k).take s).drop i) : Nat) := by
  have hl : ((D.drop k).take s).length = s := by simp; omega
  have e := le_step ((D.drop k).take s) i (by omega)
  have e2 : ((D.drop k).take s)[i]'(by omega) = D[k + i]?.getD 0 := by
    rw [List.getElem_take, List.getElem_drop, List.getElem?_eq_getElem (by omega)]; rfl
  rw [e2] at e
  have hb := le_lt (((D.drop k).take s).drop i)
  have hp : 256 ^ (((D.drop k).take s).drop i).length ≤ 256 ^ 8 := Nat.pow_le_pow_right (by omega) (by rw [List.length_drop, hl]; omega)
  rw [or_byte _ _ (by rw [← e]; omega), e]
theorem DAt.cell {w : World} {v : Value} {D : List UInt8} (h : DAt w v D) (h0 : 0 < D.length) :
    ∃ b off cap, v = .slice (some ⟨b, off, none⟩) D.length cap ∧ D.length ≤ cap ∧ cap ≤ maxLen ∧ b < w.heap.size ∧ ∀ j (hj : j < D.length), w.cell? ⟨b, off + j, none⟩ = some (.int .u8 (D[j].toNat : Int)) := by
  obtain ⟨b, off, cap, h1, h2, h3, h4, h5⟩ := Reads.at h (by omega)
  exact ⟨b, off, cap, h1, h2, h3, h4, fun j hj => h5 j _ (by simp [dC, hj])⟩
/-! ### Text -/
def bytesOf (D : List UInt8) (k s : Nat) : ByteArray := ⟨((D.drop k).take s).toArray⟩
end Go.Proofs.Ytgflnfmnjlmenaa
