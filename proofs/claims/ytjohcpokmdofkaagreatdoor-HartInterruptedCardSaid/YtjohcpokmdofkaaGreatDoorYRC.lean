/- How memory lies (my own texts of the seat ram). there, loads, spot. Load and Text of the program. -/
import Derived.Test.YtjohcpokmdofkaaGreatDoorRows
import Derived.BigQuiet
import Derived.Carry
import Derived.ChangeMaps
import Derived.Deep.AppendSrc
import Derived.Deep.DeepCutAuto
import Derived.Deep.RegionHeld3
import Derived.Deep.RegionLaw
import Derived.Deep.RegionWith
import Derived.Deep.Slices
import Derived.JoinedCond
import Derived.Laws.AppendOwnNone
import Derived.Laws.CopyOwn
import Derived.Laws.IdiomStrings
import Derived.Lib.Hide
import Derived.Lib.SmallJoins
import Derived.OpenShut
import Derived.ProofKit
import Derived.SizedLaws
import Derived.StillTailTactics
import Derived.WalkKit
import Derived.WalkLawsBesides
import Derived.Laws.Bits64b
import Derived.IntWalk
namespace Go.Proofs.YtjohcpokmdofkaaGreatDoor
open Go.RowKit Go.Deep Go.Joins
theorem ret_bool {a b : Bool} (h : a = b) : Ending.returned (.bool a) = .returned (.bool b) := by rw [h]
theorem ret_int {k : IntKind} {a b : Int} (h : a = b) : Ending.returned (.int k a) = .returned (.int k b) := by rw [h]
theorem ret_string {a b : ByteArray} (h : a = b) : Ending.returned (.string a) = .returned (.string b) := by rw [h]

/-- The slice value 'v' reads as 'n' elements of 'size' cells each, which hold 'cells'. -/
def Reads (w : World) (v : Value) (size n : Nat) (cells : List Value) : Prop :=
  cells.length = n * size ∧ ((v = .slice none 0 0 ∧ n = 0) ∨
    ∃ a cap, v = .slice (some a) n cap ∧ n ≤ cap ∧ cap ≤ maxLen ∧ ∀ j u, cells[j]? = some u → w.cell? (a.add j) = some u)
theorem lt_of_cell {w : World} {a : Addr} {v : Value} (h : w.cell? a = some v) : a.block < w.heap.size := World.block_lt_of_cell? w a h
theorem below_cell {w w' : World} {a : Addr} {v : Value} (hb : Below w.heap.size w w') (h : w.cell? a = some v) : w'.cell? a = some v :=
  (hb.cell (lt_of_cell h)).trans h
theorem Reads.below {w w' : World} {v : Value} {size n : Nat} {cells : List Value} (h : Reads w v size n cells) (hb : Below w.heap.size w w') : Reads w' v size n cells := by
  obtain ⟨hl, h⟩ := h
  refine ⟨hl, ?_⟩
  rcases h with h | ⟨a, cap, hv, h1, h2, hc⟩
  · exact .inl h
  · exact .inr ⟨a, cap, hv, h1, h2, fun j u hu => below_cell hb (hc j u hu)⟩
theorem Reads.is {w : World} {v : Value} {size n : Nat} {cells : List Value} (h : Reads w v size n cells) : ∃ p cap, v = .slice p n cap := by
  rcases h.2 with ⟨rfl, rfl⟩ | ⟨a, cap, rfl, _⟩
  · exact ⟨_, _, rfl⟩
  · exact ⟨_, _, rfl⟩
theorem spot_none {w : World} {a : Addr} {v : Value} (h : w.cell? a = some v) : a.spot = none := by
  unfold World.cell? at h
  split at h
  · split at h
    · cases h
    · rename_i hs; simpa using hs
  · cases h
theorem add_lit (b off j : Nat) : (⟨b, off, none⟩ : Addr).add j = ⟨b, off + j, none⟩ := by
  unfold Addr.add; split <;> simp_all
theorem Reads.at {w : World} {v : Value} {size n : Nat} {cells : List Value} (h : Reads w v size n cells) (h0 : 0 < n * size) :
    ∃ b off cap, v = .slice (some ⟨b, off, none⟩) n cap ∧ n ≤ cap ∧ cap ≤ maxLen ∧ b < w.heap.size ∧ ∀ j u, cells[j]? = some u → w.cell? ⟨b, off + j, none⟩ = some u := by
  obtain ⟨hl, h⟩ := h
  rcases h with ⟨_, rfl⟩ | ⟨a, cap, hv, h1, h2, hc⟩
  · omega
  · obtain ⟨u, hu⟩ : ∃ u, cells[0]? = some u := ⟨cells[0]'(by omega), List.getElem?_eq_getElem _⟩
    have hc0 := hc 0 u hu
    have ha0 : a.add 0 = a := by simp [Addr.add]
    rw [ha0] at hc0
    have hs := spot_none hc0
    have hb := lt_of_cell hc0
    obtain ⟨b, off, spot⟩ := a
    dsimp at hs hb
    subst hs
    exact ⟨b, off, cap, hv, h1, h2, hb, fun j u hu => by rw [← add_lit]; exact hc j u hu⟩
theorem below1 (w : World) (a : Obj) : Below w.heap.size w (w.alloc a) := (Below.refl _ _).alloc (Nat.le_refl _) _
theorem below2 (w : World) (a b : Obj) : Below w.heap.size w ((w.alloc a).alloc b) := (below1 w a).alloc (by simp) _
theorem below_then {w w1 w2 : World} (h : Below w.heap.size w w1) (h2 : Below w1.heap.size w1 w2) : Below w.heap.size w w2 := h.trans (h2.mono h.size)

/-! ### Memory: bytes, marks -/
def dC (l : List UInt8) : List Value := l.map fun b => .int .u8 b.toNat
def mC (l : List Int) : List Value := l.map fun m => .int .u64 m
theorem dC_length (l : List UInt8) : (dC l).length = l.length := List.length_map _
theorem mC_length (l : List Int) : (mC l).length = l.length := List.length_map _
/-- Bytes, as a slice's value. -/
def DAt (w : World) (v : Value) (D : List UInt8) : Prop := Reads w v 1 D.length (dC D)
def MAt (w : World) (v : Value) (M : List Int) : Prop := Reads w v 1 M.length (mC M)
theorem DAt.below {w w' : World} {v : Value} {D : List UInt8} (h : DAt w v D) (hb : Below w.heap.size w w') : DAt w' v D := Reads.below h hb
theorem MAt.below {w w' : World} {v : Value} {M : List Int} (h : MAt w v M) (hb : Below w.heap.size w w') : MAt w' v M := Reads.below h hb
theorem DAt.le {w : World} {v : Value} {D : List UInt8} (h : DAt w v D) : D.length ≤ 9223372036854775807 := by
  rcases h.2 with ⟨_, h⟩ | ⟨a, cap, _, h1, h2, _⟩
  · omega
  · unfold maxLen at h2; omega
theorem MAt.le {w : World} {v : Value} {D : List Int} (h : MAt w v D) : D.length ≤ 9223372036854775807 := by
  rcases h.2 with ⟨_, h⟩ | ⟨a, cap, _, h1, h2, _⟩
  · omega
  · unfold maxLen at h2; omega

/-! ### there -/
def thereB (n : Nat) (t size : Int) : Bool := decide (0 ≤ size) && decide (2147483648 ≤ t) && decide (t - 2147483648 + size ≤ n)
end Go.Proofs.YtjohcpokmdofkaaGreatDoor
namespace Go.Proofs.YtjohcpokmdofkaaGreatDoor
open Go.RowKit Go.Deep Go.Joins
theorem there_iff {n : Nat} {t size : Int} : thereB n t size = true ↔ 0 ≤ size ∧ 2147483648 ≤ t ∧ t - 2147483648 + size ≤ n := by
  unfold thereB; simp [and_assoc]
theorem there_no {n : Nat} {t size : Int} : thereB n t size = false ↔ ¬ (0 ≤ size ∧ 2147483648 ≤ t ∧ t - 2147483648 + size ≤ n) := by
  rw [← there_iff]; simp
theorem u64_under (t : Int) (h0 : 0 ≤ t) (h1 : t < 2147483648) : IntKind.u64.wrap (t - 2147483648) = t - 2147483648 + 18446744073709551616 := by
  rw [IntKind.wrap_u64]; omega
set_option maxHeartbeats 400000 in
theorem there_any (p : Option Addr) (n cap : Nat) (mv ev : Value) (t size : Int) (w : World) (hn : n ≤ 9223372036854775807) (ht0 : 0 ≤ t) (ht1 : t ≤ 18446744073709551615) (hs0 : -9223372036854775808 ≤ size) (hs1 : size ≤ 9223372036854775807) :
    Calls Tryz.prog 191 #[.agg #[.slice p n cap, mv, ev], .int .u64 t, .int .i64 size] w fun e w' => e = .returned (.bool (thereB n t size)) ∧ Below w.heap.size w w' := by
  by_cases h0 : size < 0
  · have E := Lib.hid ((there_no (n := n) (t := t) (size := size)).2 (by omega))
    go_enter Tryz.func191, Tryz.ntmps191
    go_wp2
    go_ret
    exact ⟨ret_bool E.out.symm, (Below.refl _ _).alloc (Nat.le_refl _) _⟩
  by_cases h1 : (n : Int) < size
  · have E := Lib.hid ((there_no (n := n) (t := t) (size := size)).2 (by omega))
    go_enter Tryz.func191, Tryz.ntmps191
    go_wp2
    go_ret
    exact ⟨ret_bool E.out.symm, (Below.refl _ _).alloc (Nat.le_refl _) _⟩
  by_cases h2 : t < 2147483648
  · have E := Lib.hid ((there_no (n := n) (t := t) (size := size)).2 (by omega))
    have F := Lib.hid (u64_under t ht0 h2)
    go_enter Tryz.func191, Tryz.ntmps191
    go_wp2
    go_ret
    exact ⟨ret_bool (by rw [E.out, F.out]; exact decide_eq_false (by omega)), (Below.refl _ _).alloc (Nat.le_refl _) _⟩
  · by_cases h3 : t - 2147483648 + size ≤ n
    · have E := Lib.hid ((there_iff (n := n) (t := t) (size := size)).2 (by omega))
      go_enter Tryz.func191, Tryz.ntmps191
      go_wp2
      go_ret
      exact ⟨ret_bool (by rw [E.out]; exact decide_eq_true (by omega)), (Below.refl _ _).alloc (Nat.le_refl _) _⟩
    · have E := Lib.hid ((there_no (n := n) (t := t) (size := size)).2 (by omega))
      go_enter Tryz.func191, Tryz.ntmps191
      go_wp2
      go_ret
      exact ⟨ret_bool (by rw [E.out]; exact decide_eq_false (by omega)), (Below.refl _ _).alloc (Nat.le_refl _) _⟩

def leafB (n : Nat) (k : Int) : Bool := decide (0 ≤ k ∧ k < ((n / 256 : Nat) : Int))
def loadsB (size : Int) : Bool := decide (size = 1 ∨ size = 2 ∨ size = 4 ∨ size = 8)
set_option maxHeartbeats 400000 in
theorem loads_any (size : Int) (w : World) : Calls Tryz.prog 190 #[.int .i64 size] w fun e w' => e = .returned (.bool (loadsB size)) ∧ w = w' := by
  go_enter Tryz.func190, Tryz.ntmps190
  go_wp2
  all_goals go_ret
  all_goals refine ⟨ret_bool ?_, rfl⟩
  all_goals (unfold loadsB; apply Bool.eq_iff_iff.2; simp only [Bool.or_eq_true, decide_eq_true_eq, beq_iff_eq]; try (first | omega | (simp only [true_iff]; omega)))

/-- Where the reference finds bytes: -1, or how far on. -/
def spotV (n : Nat) (t size : Int) : Int := if 1 ≤ size ∧ thereB n t size = true then t - 2147483648 else -1
set_option maxHeartbeats 1000000 in
theorem spot_any (p : Option Addr) (n cap : Nat) (mv ev : Value) (t size : Int) (w : World) (hn : n ≤ 9223372036854775807) (ht0 : 0 ≤ t) (ht1 : t ≤ 18446744073709551615) (hs0 : -9223372036854775808 ≤ size) (hs1 : size ≤ 9223372036854775807) :
    Calls Tryz.prog 31 #[.agg #[.slice p n cap, mv, ev], .int .u64 t, .int .i64 size] w fun e w' => e = .returned (.int .i64 (spotV n t size)) ∧ Below w.heap.size w w' := by
  have E1 : ¬ (1 ≤ size ∧ thereB n t size = true) → Hid (spotV n t size = -1) := fun h => Lib.hid (if_neg h)
  have E2 : 1 ≤ size → 2147483648 ≤ t → t - 2147483648 + size ≤ n → Hid (spotV n t size = t - 2147483648) := fun h1 h2 h3 => Lib.hid (if_pos ⟨h1, there_iff.2 ⟨by omega, h2, h3⟩⟩)
  by_cases h0 : size < 1
  · have E := E1 (by omega)
    clear E1 E2
    go_enter Tryz.func31, Tryz.ntmps31
    go_wp2
    go_ret
    exact ⟨ret_int E.out.symm, (Below.refl _ _).alloc (Nat.le_refl _) _⟩
  by_cases h1 : t < 2147483648
  · have E := E1 (by rw [there_iff]; omega)
    clear E1 E2
    go_enter Tryz.func31, Tryz.ntmps31
    go_wp2
    go_ret
    exact ⟨ret_int E.out.symm, (Below.refl _ _).alloc (Nat.le_refl _) _⟩
  by_cases h2 : (n : Int) ≤ t - 2147483648
  · have E := E1 (by rw [there_iff]; omega)
    clear E1 E2
    go_enter Tryz.func31, Tryz.ntmps31
    go_wp2
    go_ret
    exact ⟨ret_int E.out.symm, (Below.refl _ _).alloc (Nat.le_refl _) _⟩
  by_cases h3 : (n : Int) - (t - 2147483648) < size
  · have E := E1 (by rw [there_iff]; omega)
    clear E1 E2
    go_enter Tryz.func31, Tryz.ntmps31
    go_wp2
    go_ret
    exact ⟨ret_int E.out.symm, (Below.refl _ _).alloc (Nat.le_refl _) _⟩
  · have E := E2 (by omega) (by omega) (by omega)
    clear E1 E2
    go_enter Tryz.func31, Tryz.ntmps31
    go_wp2
    go_ret
    exact ⟨ret_int E.out.symm, (Below.refl _ _).alloc (Nat.le_refl _) _⟩
end Go.Proofs.YtjohcpokmdofkaaGreatDoor
namespace Go.Proofs.YtjohcpokmdofkaaGreatDoor
open Go.RowKit Go.Deep Go.Joins
/-- The number of bytes, the least first. -/
def le : List UInt8 → Nat
  | [] => 0
  | b :: l => le l * 256 + b.toNat
theorem le_lt (l : List UInt8) : le l < 256 ^ l.length := by
  induction l with
  | nil => simp [le]
  | cons b l ih =>
    have hb : b.toNat < 256 := b.toNat_lt
    simp only [le, List.length_cons, Nat.pow_succ]
    omega
theorem le_step (L : List UInt8) (i : Nat) (h : i < L.length) : le (L.drop i) = le (L.drop (i + 1)) * 256 + L[i].toNat := by
  rw [List.drop_eq_getElem_cons h]; rfl
theorem or_byte (N : Nat) (c : UInt8) (h : N * 256 + c.toNat < 18446744073709551616) :
    bits .or .u64 (IntKind.u64.wrap ((N : Int) * 256)) (IntKind.u64.wrap (c.toNat : Int)) = ((N * 256 + c.toNat : Nat) : Int) := by
  have hc : c.toNat < 256 := c.toNat_lt
  rw [IntWalk.u64_in _ (by omega), IntWalk.u64_in _ (by omega)]
  have h1 := bits_or_u64_nat (N * 256) c.toNat (Nat.lt_of_le_of_lt (Nat.le_add_right _ _) h) (Nat.lt_of_le_of_lt (Nat.le_add_left _ _) h)
  have hh : ((N : Int) * 256) = ((N * 256 : Nat) : Int) := by simp
  rw [hh, h1]
  have h2 := Nat.two_pow_add_eq_or_of_lt (i := 8) (b := c.toNat) (by omega) N
  have h3 : (2 : Nat) ^ 8 = 256 := rfl
  rw [h3] at h2
  rw [Nat.mul_comm N 256, ← h2]
theorem load_step (D : List UInt8) (k s i : Nat) (hs : s ≤ 8) (h : k + s ≤ D.length) (hi : i + 1 ≤ s) :
    bits .or .u64 (IntKind.u64.wrap ((le (((D.drop k).take s).drop (i + 1)) : Int) * 256)) (IntKind.u64.wrap ((D[k + i]?.getD 0).toNat : Int)) = (le (((D.drop k).take s).drop i) : Nat) := by
  have hl : ((D.drop k).take s).length = s := by simp; omega
  have e := le_step ((D.drop k).take s) i (by omega)
  have e2 : ((D.drop k).take s)[i]'(by omega) = D[k + i]?.getD 0 := by
    rw [List.getElem_take, List.getElem_drop, List.getElem?_eq_getElem (by omega)]; rfl
  rw [e2] at e
  have hb := le_lt (((D.drop k).take s).drop i)
  have hp : 256 ^ (((D.drop k).take s).drop i).length ≤ 256 ^ 8 := Nat.pow_le_pow_right (by omega) (by rw [List.length_drop, hl]; omega)
  rw [or_byte _ _ (by rw [← e]; omega), e]
theorem DAt.cell {w : World} {v : Value} {D : List UInt8} (h : DAt w v D) (h0 : 0 < D.length) :
    ∃ b off cap, v = .slice (some ⟨b, off, none⟩) D.length cap ∧ D.length ≤ cap ∧ cap ≤ maxLen ∧ b < w.heap.size ∧ ∀ j (hj : j < D.length), w.cell? ⟨b, off + j, none⟩ = some (.int .u8 (D[j].toNat : Int)) := by
  obtain ⟨b, off, cap, h1, h2, h3, h4, h5⟩ := Reads.at h (by omega)
  exact ⟨b, off, cap, h1, h2, h3, h4, fun j hj => h5 j _ (by simp [dC, hj])⟩
set_option maxHeartbeats 1000000 in
theorem load_any (v : Value) (D : List UInt8) (mv ev : Value) (t size : Int) (w : World) (hd : DAt w v D) (ht0 : 0 ≤ t) (ht1 : t ≤ 18446744073709551615) (hl : loadsB size = true) (hth : thereB D.length t size = true) :
    Calls Tryz.prog 133 #[.agg #[v, mv, ev], .int .u64 t, .int .i64 size] w fun e w' => e = .returned (.tuple #[.int .u64 (le ((D.drop (t - 2147483648).toNat).take size.toNat)), .int .i64 0]) ∧ Below w.heap.size w w' := by
  have hn := hd.le
  obtain ⟨h0, h1, h2⟩ := there_iff.1 hth
  have hs : 1 ≤ size ∧ size ≤ 8 := by unfold loadsB at hl; simp at hl; omega
  obtain ⟨b, off, cap, rfl, _, _, hb, hc⟩ := hd.cell (by omega)
  have HL := Lib.hid hl
  have HT := Lib.hid hth
  have HC := Lib.hid hc
  clear hl hth hc
  obtain ⟨s, rfl⟩ : ∃ s : Nat, size = s := ⟨size.toNat, by omega⟩
  obtain ⟨k, rfl⟩ : ∃ k : Nat, t = k + 2147483648 := ⟨(t - 2147483648).toNat, by omega⟩
  go_enter Tryz.func133, Tryz.ntmps133
  go_wp2_with fail
  refine (loads_any _ _).mono ?_
  rintro e w1 ⟨rfl, rfl⟩
  rw [HL.out]
  go_wp2_with fail
  refine (there_any _ _ _ _ _ _ _ _ hn (by omega) (by omega) (by omega) (by omega)).mono ?_
  rintro e w1 ⟨rfl, hb1⟩
  rw [HT.out]
  have hbw := below_then (below1 w _) hb1
  have f0 := hb1.cell (p := ⟨w.heap.size, 0, none⟩) (by simp)
  rw [World.cell?_alloc_new] at f0
  have HB := Lib.hid hbw
  clear hbw hb1
  go_wp2_with fail
  have f1 : ∀ j, j < D.length → w1.cell? ⟨b, off + j, none⟩ = some (.int .u8 ((D.getD j 0).toNat : Int)) := fun j hj => by
    rw [HB.out.cell (p := ⟨b, off + j, none⟩) hb, HC.out j hj, List.getD_eq_getElem?_getD, List.getElem?_eq_getElem hj]; rfl
  have F1 := Lib.hid f1
  clear f1
  have hx : ∀ j, ((D.drop k).take s).length ≤ j → le (((D.drop k).take s).drop j) = 0 := fun j hj => by rw [List.drop_eq_nil_of_le hj]; rfl
  have hlen : ((D.drop k).take s).length = s := by simp; omega
  have HX := Lib.hid hx
  have HLEN := Lib.hid hlen
  clear hx hlen
  go_loop [8, 10] (fun n i => ∃ j : Nat, j ≤ s ∧ i = .int .i64 j ∧ n = .int .u64 (le (((D.drop k).take s).drop j))) (fun _ i => (intOf i).toNat)
  case atStart => exact ⟨s, Nat.le_refl _, rfl, by rw [HX.out s (by rw [HLEN.out]; omega)]; rfl⟩
  case round =>
    obtain ⟨j, hj, rfl, rfl⟩ := hrel
    by_cases hj0 : 0 < j
    · have g1 := F1.out (k + (j - 1)) (by omega)
      obtain ⟨i, rfl⟩ : ∃ i, j = i + 1 := ⟨j - 1, by omega⟩
      simp only [Nat.add_sub_cancel] at g1
      have hstep := Lib.hid (load_step D k s i (by omega) (by omega) hj)
      generalize le (((D.drop k).take s).drop (i + 1)) = N at *
      generalize hM : le (((D.drop k).take s).drop i) = M at *
      have HM := Lib.hid hM
      clear hM
      go_wp2_with fail
      exact ⟨⟨i, by omega, rfl, by rw [hstep.out, HM.out]⟩, by simp [intOf]⟩
    · obtain rfl : j = 0 := by omega
      go_wp2
      go_ret2
      exact ⟨rfl, HB.out⟩
set_option maxHeartbeats 1000000 in
theorem load_arg (v : Value) (mv ev : Value) (t size : Int) (w : World) (hl : loadsB size = false) :
    Calls Tryz.prog 133 #[.agg #[v, mv, ev], .int .u64 t, .int .i64 size] w fun e w' => e = .returned (.tuple #[.int .u64 0, .int .i64 1]) ∧ Below w.heap.size w w' := by
  have HL := Lib.hid hl
  clear hl
  go_enter Tryz.func133, Tryz.ntmps133
  go_wp2_with fail
  refine (loads_any _ _).mono ?_
  rintro e w1 ⟨rfl, rfl⟩
  rw [HL.out]
  go_wp2_with fail
  go_ret2
  exact ⟨rfl, below1 w _⟩
set_option maxHeartbeats 1000000 in
theorem load_ram (p : Option Addr) (n cap : Nat) (mv ev : Value) (t size : Int) (w : World) (hn : n ≤ 9223372036854775807) (ht0 : 0 ≤ t) (ht1 : t ≤ 18446744073709551615) (hl : loadsB size = true) (hth : thereB n t size = false) :
    Calls Tryz.prog 133 #[.agg #[.slice p n cap, mv, ev], .int .u64 t, .int .i64 size] w fun e w' => e = .returned (.tuple #[.int .u64 0, .int .i64 50]) ∧ Below w.heap.size w w' := by
  have hs : 1 ≤ size ∧ size ≤ 8 := by unfold loadsB at hl; simp at hl; omega
  have HL := Lib.hid hl
  have HT := Lib.hid hth
  clear hl hth
  go_enter Tryz.func133, Tryz.ntmps133
  go_wp2_with fail
  refine (loads_any _ _).mono ?_
  rintro e w1 ⟨rfl, rfl⟩
  rw [HL.out]
  go_wp2_with fail
  refine (there_any _ _ _ _ _ _ _ _ hn (by omega) (by omega) (by omega) (by omega)).mono ?_
  rintro e w1 ⟨rfl, hb1⟩
  rw [HT.out]
  have hbw := below_then (below1 w _) hb1
  go_wp2_with fail
  go_ret2
  exact ⟨rfl, hbw⟩

/-! ### Text -/
def bytesOf (D : List UInt8) (k s : Nat) : ByteArray := ⟨((D.drop k).take s).toArray⟩
set_option maxHeartbeats 1000000 in
theorem text_none (v : Value) (mv ev : Value) (t : Int) (w : World) :
    Calls Tryz.prog 218 #[.agg #[v, mv, ev], .int .u64 t, .int .i64 0] w fun e w' => e = .returned (.tuple #[.string ⟨#[]⟩, .int .i64 0]) ∧ Below w.heap.size w w' := by
  go_enter Tryz.func218, Tryz.ntmps218
  go_wp2_with fail
  go_ret2
  exact ⟨rfl, below1 w _⟩
set_option maxHeartbeats 1000000 in
theorem text_ram (p : Option Addr) (n cap : Nat) (mv ev : Value) (t size : Int) (w : World) (hn : n ≤ 9223372036854775807) (ht0 : 0 ≤ t) (ht1 : t ≤ 18446744073709551615) (hs0 : -9223372036854775808 ≤ size) (hs1 : size ≤ 9223372036854775807) (h0 : size ≠ 0)
    (hth : thereB n t size = false) :
    Calls Tryz.prog 218 #[.agg #[.slice p n cap, mv, ev], .int .u64 t, .int .i64 size] w fun e w' => e = .returned (.tuple #[.string ⟨#[]⟩, .int .i64 50]) ∧ Below w.heap.size w w' := by
  have h0' : (size == 0) = false := by simpa using h0
  have HT := Lib.hid hth
  clear hth
  go_enter Tryz.func218, Tryz.ntmps218
  go_wp2_with fail
  refine (there_any _ _ _ _ _ _ _ _ hn (by omega) (by omega) (by omega) (by omega)).mono ?_
  rintro e w1 ⟨rfl, hb1⟩
  rw [HT.out]
  have hbw := below_then (below1 w _) hb1
  go_wp2_with fail
  go_ret2
  exact ⟨rfl, hbw⟩
set_option maxHeartbeats 1000000 in
theorem text_any (v : Value) (D : List UInt8) (mv ev : Value) (t size : Int) (w : World) (hd : DAt w v D) (ht0 : 0 ≤ t) (ht1 : t ≤ 18446744073709551615) (hs1 : size ≤ 9223372036854775807) (h0 : 0 < size)
    (hth : thereB D.length t size = true) :
    Calls Tryz.prog 218 #[.agg #[v, mv, ev], .int .u64 t, .int .i64 size] w fun e w' => e = .returned (.tuple #[.string (bytesOf D (t - 2147483648).toNat size.toNat), .int .i64 0]) ∧ Below w.heap.size w w' := by
  have hn := hd.le
  obtain ⟨h00, h1, h2⟩ := there_iff.1 hth
  have h0' : (size == 0) = false := by simp; omega
  obtain ⟨b, off, cap, rfl, hcap, hmax, hb, hc⟩ := hd.cell (by omega)
  have HT := Lib.hid hth
  have HC := Lib.hid hc
  unfold maxLen at hmax
  clear hth hc
  obtain ⟨s, rfl⟩ : ∃ s : Nat, size = s := ⟨size.toNat, by omega⟩
  obtain ⟨k, rfl⟩ : ∃ k : Nat, t = k + 2147483648 := ⟨(t - 2147483648).toNat, by omega⟩
  have e1 : ((k : Int) + 2147483648 - 2147483648).toNat = k := by omega
  rw [e1, Int.toNat_natCast]
  clear e1
  go_enter Tryz.func218, Tryz.ntmps218
  go_wp2_with fail
  refine (there_any _ _ _ _ _ _ _ _ hn (by omega) (by omega) (by omega) (by omega)).mono ?_
  rintro e w1 ⟨rfl, hb1⟩
  rw [HT.out]
  have hbw := below_then (below1 w _) hb1
  have f0 := hb1.cell (p := ⟨w.heap.size, 0, none⟩) (by simp)
  rw [World.cell?_alloc_new] at f0
  have HB := Lib.hid hbw
  clear hbw hb1
  have hl : ((D.drop k).take s).length = s := by simp; omega
  have hcv : ∀ cap', (convert 36 9 (.slice (some ⟨b, off + k, none⟩) s cap')).run Tryz.prog w1 = .ok (.string (bytesOf D k s)) w1 := fun cap' => by
    have h := run_convert_bytes_back (P := Tryz.prog) w1 36 9 5 ⟨b, off + k, none⟩ cap' ((D.drop k).take s) Tryz.underlying36 Tryz.underlying5 Tryz.underlying9 (fun j hj => by
      rw [add_lit, List.getElem_take, List.getElem_drop, HB.out.cell (p := ⟨b, off + k + j, none⟩) hb, Nat.add_assoc]
      exact HC.out (k + j) (by omega))
    rw [hl] at h
    exact h
  have hcv1 := hcv (cap - k)
  clear hl hcv
  go_wp2_with fail
  go_ret2
  exact ⟨rfl, HB.out⟩
end Go.Proofs.YtjohcpokmdofkaaGreatDoor
