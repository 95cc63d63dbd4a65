/- Copy of the program. -/
import Derived.Test.YtgflnfmnjlmenaaYRD
namespace Go
open Go.RowKit
/-- copy OF A WHOLE SLICE INTO A ROW OF THE SAME LENGTH. -/
theorem run_copy_all {P : Program} {w : World} (dT sT ty elem : TypeId) (hu : P.underlying dT = some (.slice elem)) (hsz : (P.info? elem).map (·.size) = some 1)
    (B n cap g : Nat) (xs : List Value) (hown : w.ownsRow B elem 1 (.slice (some ⟨g, 0, none⟩) n cap) n xs)
    (q : Option Addr) (c : Nat) (cells : List Value) (hr : Proofs.Ytgflnfmnjlmenaa.Reads w (.slice q n c) 1 n cells) (h1 : ∀ v ∈ cells, v.oneCell' = true) :
    ∃ w', (Builtin.copy_ #[dT, sT] ty #[.slice (some ⟨g, 0, none⟩) n cap, .slice q n c]).run P w = .ok (goInt n) w' ∧ w'.ownsRow B elem 1 (.slice (some ⟨g, 0, none⟩) n cap) n cells ∧
      Proofs.Ytgflnfmnjlmenaa.Touch w w' (fun k => k = g) := by
  obtain ⟨hl, hr⟩ := hr
  rw [Nat.mul_one] at hl
  by_cases h0 : n = 0
  · subst h0
    obtain rfl : cells = [] := List.eq_nil_of_length_eq_zero hl
    obtain rfl : xs = [] := List.eq_nil_of_length_eq_zero (by have := hown.1; omega)
    exact ⟨w, run_copy_none (P := P) w dT sT ty elem _ q _ cap 0 c hu hsz rfl, hown, Proofs.Ytgflnfmnjlmenaa.Touch.refl _ _⟩
  · rcases hr with ⟨_, e⟩ | ⟨ad, c2, e, _, _, hc⟩
    · exact absurd e h0
    · simp only [Value.slice.injEq, true_and] at e
      obtain ⟨rfl, rfl⟩ := e
      rcases hown.2 with ⟨e, _⟩ | ⟨g', cap', cur, e, k2, k3, k4, k5, k6, k7⟩
      · cases e
      · simp only [Value.slice.injEq, Option.some.injEq, Addr.mk.injEq, and_true, true_and] at e
        obtain ⟨rfl, rfl⟩ := e
        have hcl : cur.toList.length = cap := by rw [Array.length_toList, k6, Nat.mul_one]
        have hrun := run_copy_row (P := P) w dT sT ty elem g 0 n cap ad n c cur elem cells hu hsz k3 (by rw [hl]; exact (Nat.min_self n).symm) hc (by rw [hl, k6]; omega) h1
        rw [hl] at hrun
        refine ⟨_, hrun, ⟨by rw [hl, Nat.mul_one], .inr ⟨g, cap, _, rfl, k2, setRow_heap w g _ _ elem _ k3, k4, k5, ?_, ?_⟩⟩, ?_⟩
        · simp only [List.take_zero, List.nil_append, Nat.zero_add, List.size_toArray, List.length_append, List.length_drop, hl, hcl]
          omega
        · simp only [List.take_zero, List.nil_append, Nat.zero_add, Nat.mul_one]
          rw [List.take_append, hl, Nat.sub_self, List.take_zero, List.append_nil, List.take_of_length_le (by omega)]
        · exact (Proofs.Ytgflnfmnjlmenaa.Touch.refl w (fun k => k = g)).setRow (.inl rfl) _
end Go
namespace Go.Proofs.Ytgflnfmnjlmenaa
open Go.RowKit Go.Deep Go.Joins
def box0 (a b : Value) (E : Int) : Obj := .cells #[a, b, .int .u64 E] 39
/-- Two rows of noughts and the variable that holds them, behind the box of the argument and that of the result. -/
def CMade (w w0 : World) (n m : Nat) (E : Int) (s : Value) (wx : World) : Prop :=
  ∃ z g h, s = .pointer (some ⟨z, 0, none⟩) ∧ RamVar wx z (.slice (some ⟨g, 0, none⟩) n n) (.slice (some ⟨h, 0, none⟩) m m) E ∧ OwnD wx w.heap.size (.slice (some ⟨g, 0, none⟩) n n) (List.replicate n 0) ∧
    OwnM wx w.heap.size (.slice (some ⟨h, 0, none⟩) m m) (List.replicate m 0) ∧ w.heap.size + 1 < z ∧ w.heap.size + 1 < g ∧ w.heap.size + 1 < h ∧ Below (w.heap.size + 2) w0 wx
theorem cmade_mk {w w0 wx : World} {n m z g h : Nat} {E : Int} (h1 : wx.heap[z]? = some (.cells #[.slice (some ⟨g, 0, none⟩) n n, .slice (some ⟨h, 0, none⟩) m m, .int .u64 E] 39 (0, 0))) (h2 : wx.heap[g]? = some (.cells (dC (List.replicate n 0)).toArray 5 (0, 0)))
    (h3 : wx.heap[h]? = some (.cells (mC (List.replicate m 0)).toArray 22 (0, 0))) (hz : w.heap.size + 1 < z) (hg : w.heap.size + 1 < g) (hh : w.heap.size + 1 < h) (hn : n ≤ maxLen) (hm : m ≤ maxLen)
    (hb : Below (w.heap.size + 2) w0 wx) : CMade w w0 n m E (.pointer (some ⟨z, 0, none⟩)) wx := by
  refine ⟨z, g, h, rfl, h1, ?_, ?_, hz, hg, hh, hb⟩
  · have e := owns_whole (n := n) (Nat.le_of_lt (Nat.lt_of_succ_lt hg)) h2 (by simp [dC]) hn
    show wx.ownsRow _ _ _ _ _ _
    rw [List.length_replicate]; exact e
  · have e := owns_whole (n := m) (Nat.le_of_lt (Nat.lt_of_succ_lt hh)) h3 (by simp [mC]) hm
    show wx.ownsRow _ _ _ _ _ _
    rw [List.length_replicate]; exact e
/-- A copy, the call's own. -/
def CopyMem (w : World) (D : List UInt8) (M : List Int) (E : Int) (e : Ending) (w' : World) : Prop :=
  ∃ dv mv, e = .returned (.agg #[dv, mv, .int .u64 E]) ∧ OwnD w' w.heap.size dv D ∧ OwnM w' w.heap.size mv M ∧ Below w.heap.size w w'
end Go.Proofs.Ytgflnfmnjlmenaa
