/- Leaf functions of the stand-in disk, and how its data lie in memory. -/
import Derived.Test.YtfpdfhncifcghaaRows
import Derived.WalkKit
import Derived.ProofKit
import Derived.OpenShut
import Derived.WalkLawsBesides
import Derived.Lib.Hide
import Derived.Deep.AppendSrc
namespace Go.Proofs.Ytfpdfhncifcghaa
open Go.RowKit

theorem ret_bool {a b : Bool} (h : a = b) : Ending.returned (.bool a) = .returned (.bool b) := by rw [h]
theorem ret_int {k : IntKind} {a b : Int} (h : a = b) : Ending.returned (.int k a) = .returned (.int k b) := by rw [h]
theorem ret_string {a b : ByteArray} (h : a = b) : Ending.returned (.string a) = .returned (.string b) := by rw [h]

/-! ### Data -/
structure Wr where
  pos : Int
  bytes : ByteArray
structure Fl where
  name : ByteArray
  safe : ByteArray
  opens : List Wr

def worksB (t : Int) (s : ByteArray) : Bool := !s.toList.isEmpty && decide (0 ≤ t) && decide (t ≤ 1048576)

theorem works_any (t : Int) (s : ByteArray) (w : World) :
    Calls Try.prog 35 #[.agg #[.int .i64 t, .string s]] w fun e w' => e = .returned (.bool (worksB t s)) ∧ Below w.heap.size w w' := by
  unfold worksB
  rcases Bool.eq_false_or_eq_true s.toList.isEmpty with hs | hs
  · go_enter Try.func35, Try.ntmps35
    go_wp2
    go_ret
    exact ⟨by simp [hs], (Below.refl _ _).alloc (Nat.le_refl _) _⟩
  · by_cases h0 : 0 ≤ t
    · by_cases h1 : t ≤ 1048576
      · go_enter Try.func35, Try.ntmps35
        go_wp2
        go_ret
        exact ⟨by simp [hs, h0, h1], (Below.refl _ _).alloc (Nat.le_refl _) _⟩
      · go_enter Try.func35, Try.ntmps35
        go_wp2
        go_ret
        exact ⟨by simp [h1], (Below.refl _ _).alloc (Nat.le_refl _) _⟩
    · go_enter Try.func35, Try.ntmps35
      go_wp2
      go_ret
      exact ⟨by simp; omega, (Below.refl _ _).alloc (Nat.le_refl _) _⟩

def letterB (c : Int) : Bool := (decide (97 ≤ c) && decide (c ≤ 122)) || (decide (48 ≤ c) && decide (c ≤ 57)) || c == 46

theorem letter_any (c : Int) (w : World) :
    Calls Try.prog 22 #[.int .u8 c] w fun e w' => e = .returned (.bool (letterB c)) ∧ w = w' := by
  unfold letterB
  go_enter Try.func22, Try.ntmps22
  go_wp2
  all_goals go_ret
  all_goals refine ⟨ret_bool ?_, rfl⟩
  all_goals (apply Bool.eq_iff_iff.2; simp only [Bool.or_eq_true, Bool.and_eq_true, decide_eq_true_eq, beq_iff_eq]; try omega)

def nameB (s : ByteArray) : Bool := decide (1 ≤ s.size) && decide (s.size ≤ 16) && s.data.toList.all fun c => letterB c.toNat

theorem len_eq (s : ByteArray) : s.data.toList.length = s.size := by rw [Array.length_toList]; rfl
theorem mem_at (s : ByteArray) (k : Nat) (h : k < s.size) : s[k] ∈ s.data.toList := by
  have : s[k] = s.data.toList[k]'(by rw [len_eq]; exact h) := rfl
  rw [this]; exact List.getElem_mem _
theorem take_snoc (s : ByteArray) (k : Nat) (h : k < s.size) : s.data.toList.take (k + 1) = s.data.toList.take k ++ [s[k]] := by
  rw [List.take_succ_eq_append_getElem (by simpa using h)]; rfl

theorem name_any (s : ByteArray) (w : World) (hs : s.size ≤ 9223372036854775807) :
    Calls Try.prog 10 #[.string s] w fun e w' => e = .returned (.bool (nameB s)) ∧ w = w' := by
  by_cases h0 : s.size < 1
  · go_enter Try.func10, Try.ntmps10
    go_wp2
    go_ret
    exact ⟨ret_bool (by unfold nameB; rw [show decide (1 ≤ s.size) = false from decide_eq_false (by omega)]; simp), rfl⟩
  by_cases h1 : 16 < s.size
  · go_enter Try.func10, Try.ntmps10
    go_wp2
    go_ret
    exact ⟨ret_bool (by unfold nameB; rw [show decide (s.size ≤ 16) = false from decide_eq_false (by omega)]; simp), rfl⟩
  have e : nameB s = s.data.toList.all fun c => letterB c.toNat := by
    unfold nameB
    rw [show decide (1 ≤ s.size) = true from decide_eq_true (by omega), show decide (s.size ≤ 16) = true from decide_eq_true (by omega)]
    rfl
  have E := Lib.hid e
  clear e
  go_enter Try.func10, Try.ntmps10
  go_wp2
  go_loop [14] (fun i => ∃ k : Nat, k ≤ s.size ∧ i = .int .i64 k ∧ (s.data.toList.take k).all (fun c => letterB c.toNat) = true) (fun i => s.size - (intOf i).toNat)
  case atStart => exact ⟨0, Nat.zero_le _, rfl, rfl⟩
  case round =>
    obtain ⟨k, hk, rfl, hall⟩ := hrel
    have Hall := Lib.hid hall
    clear hall
    by_cases hlt : k < s.size
    · have hts := take_snoc s k hlt
      have Hts := Lib.hid hts
      clear hts
      rcases Bool.eq_false_or_eq_true (letterB (s[k].toNat : Int)) with hl | hl
      · go_wp2_with (go_at_call 22; refine (letter_any _ _).mono ?_; rintro e w' ⟨rfl, rfl⟩)
        go_round
        case rel => exact ⟨k + 1, by omega, by go_num, by rw [Hts.out, List.all_append, Hall.out]; simp [hl]⟩
        case measure => simp [intOf]; omega
      · go_wp2_with (go_at_call 22; refine (letter_any _ _).mono ?_; rintro e w' ⟨rfl, rfl⟩)
        go_ret
        refine ⟨ret_bool ?_, rfl⟩
        rw [E.out]
        symm
        rw [List.all_eq_false]
        exact ⟨s[k], mem_at s k hlt, by simp [hl]⟩
    · go_wp2
      go_ret
      exact ⟨ret_bool (by rw [E.out, ← Hall.out, List.take_of_length_le (by rw [len_eq]; omega)]), rfl⟩

def sameN (n x : ByteArray) : Bool := n.toList == x.toList
theorem same_any (n s : ByteArray) (o : Value) (x : ByteArray) (b off : Nat) (w : World) (hlt : b < w.heap.size) (hc : w.cell? ⟨b, off, none⟩ = some (.string x)) :
    Calls Try.prog 38 #[.agg #[.string n, .string s, o], .pointer (some ⟨b, off, none⟩)] w fun e w' => e = .returned (.bool (sameN n x)) ∧ Below w.heap.size w w' := by
  go_enter Try.func38, Try.ntmps38
  go_wp2
  go_ret
  exact ⟨rfl, (Below.refl _ _).alloc (Nat.le_refl _) _⟩
def above (n x : ByteArray) : Bool := !(Op.bytesLess n.toList x.toList || n.toList == x.toList)
theorem after_any (n s : ByteArray) (o : Value) (x : ByteArray) (b off : Nat) (w : World) (hlt : b < w.heap.size) (hc : w.cell? ⟨b, off, none⟩ = some (.string x)) :
    Calls Try.prog 41 #[.agg #[.string n, .string s, o], .pointer (some ⟨b, off, none⟩)] w fun e w' => e = .returned (.bool (above n x)) ∧ Below w.heap.size w w' := by
  go_enter Try.func41, Try.ntmps41
  go_wp2
  go_ret
  exact ⟨ret_bool (by unfold above; simp), (Below.refl _ _).alloc (Nat.le_refl _) _⟩
end Go.Proofs.Ytfpdfhncifcghaa
