/- How files and writes lie in memory; the search for a file. -/
import Derived.Test.YtfpdfhncifcghaaA
namespace Go.Proofs.Ytfpdfhncifcghaa
open Go.RowKit

/-- The slice value 'v' reads as 'n' elements of 'size' cells each, which hold 'cells'. -/
def Reads (w : World) (v : Value) (size n : Nat) (cells : List Value) : Prop :=
  cells.length = n * size ∧ ((v = .slice none 0 0 ∧ n = 0) ∨
    ∃ a cap, v = .slice (some a) n cap ∧ n ≤ cap ∧ cap ≤ maxLen ∧ ∀ j u, cells[j]? = some u → w.cell? (a.add j) = some u)

theorem lt_of_cell {w : World} {a : Addr} {v : Value} (h : w.cell? a = some v) : a.block < w.heap.size := World.block_lt_of_cell? w a h

theorem below_cell {w w' : World} {a : Addr} {v : Value} (hb : Below w.heap.size w w') (h : w.cell? a = some v) : w'.cell? a = some v :=
  (hb.cell (lt_of_cell h)).trans h

theorem Reads.below {w w' : World} {v : Value} {size n : Nat} {cells : List Value} (h : Reads w v size n cells) (hb : Below w.heap.size w w') : Reads w' v size n cells := by
  obtain ⟨hl, h⟩ := h
  refine ⟨hl, ?_⟩
  rcases h with h | ⟨a, cap, hv, h1, h2, hc⟩
  · exact .inl h
  · exact .inr ⟨a, cap, hv, h1, h2, fun j u hu => below_cell hb (hc j u hu)⟩

theorem Reads.is {w : World} {v : Value} {size n : Nat} {cells : List Value} (h : Reads w v size n cells) : ∃ p cap, v = .slice p n cap := by
  rcases h.2 with ⟨rfl, rfl⟩ | ⟨a, cap, rfl, _⟩
  · exact ⟨_, _, rfl⟩
  · exact ⟨_, _, rfl⟩

theorem spot_none {w : World} {a : Addr} {v : Value} (h : w.cell? a = some v) : a.spot = none := by
  unfold World.cell? at h
  split at h
  · split at h
    · cases h
    · rename_i hs; simpa using hs
  · cases h

theorem add_lit (b off j : Nat) : (⟨b, off, none⟩ : Addr).add j = ⟨b, off + j, none⟩ := by
  unfold Addr.add; split <;> simp_all

theorem Reads.at {w : World} {v : Value} {size n : Nat} {cells : List Value} (h : Reads w v size n cells) (h0 : 0 < n * size) :
    ∃ b off cap, v = .slice (some ⟨b, off, none⟩) n cap ∧ n ≤ cap ∧ cap ≤ maxLen ∧ b < w.heap.size ∧ ∀ j u, cells[j]? = some u → w.cell? ⟨b, off + j, none⟩ = some u := by
  obtain ⟨hl, h⟩ := h
  rcases h with ⟨_, rfl⟩ | ⟨a, cap, hv, h1, h2, hc⟩
  · omega
  · obtain ⟨u, hu⟩ : ∃ u, cells[0]? = some u := ⟨cells[0]'(by omega), List.getElem?_eq_getElem _⟩
    have hc0 := hc 0 u hu
    have ha0 : a.add 0 = a := by simp [Addr.add]
    rw [ha0] at hc0
    have hs := spot_none hc0
    have hb := lt_of_cell hc0
    obtain ⟨b, off, spot⟩ := a
    dsimp at hs hb
    subst hs
    exact ⟨b, off, cap, hv, h1, h2, hb, fun j u hu => by rw [← add_lit]; exact hc j u hu⟩

/-! ### Rows of files -/
structure Rw where
  name : ByteArray
  safe : ByteArray
  ov : Value
  opens : List Wr
def rowCells (l : List Rw) : List Value := l.flatMap fun r => [.string r.name, .string r.safe, r.ov]
theorem rowCells_length (l : List Rw) : (rowCells l).length = l.length * 3 := by
  induction l with
  | nil => rfl
  | cons x l ih => simp only [rowCells, List.flatMap_cons, List.length_append, List.length_cons, List.length_nil] at *; omega
theorem rowCells_get (l : List Rw) (k : Nat) (h : k < l.length) :
    (rowCells l)[k * 3]? = some (.string l[k].name) ∧ (rowCells l)[k * 3 + 1]? = some (.string l[k].safe) ∧ (rowCells l)[k * 3 + 2]? = some l[k].ov := by
  induction l generalizing k with
  | nil => simp at h
  | cons x l ih =>
    have e : rowCells (x :: l) = .string x.name :: .string x.safe :: x.ov :: rowCells l := rfl
    rw [e]
    cases k with
    | zero => simp
    | succ k =>
      have := ih k (by simpa using h)
      rw [show (k + 1) * 3 = k * 3 + 1 + 1 + 1 by omega]
      simpa using this

def idx (p : Rw → Bool) (l : List Rw) : Int := match l.findIdx? p with | some i => i | none => -1
def noneYet (p : Rw → Bool) (l : List Rw) (k : Nat) : Prop := ∀ j (h : j < l.length), j < k → p l[j] = false
theorem idx_none {p : Rw → Bool} {l : List Rw} (h : noneYet p l l.length) : idx p l = -1 := by
  unfold idx
  have : l.findIdx? p = none := by
    rw [List.findIdx?_eq_none_iff]
    intro x hx
    obtain ⟨j, hj, rfl⟩ := List.getElem_of_mem hx
    exact h j hj hj
  rw [this]
theorem idx_some {p : Rw → Bool} {l : List Rw} {k : Nat} (hk : k < l.length) (h : noneYet p l k) (hp : p l[k] = true) : idx p l = k := by
  unfold idx
  have : l.findIdx? p = some k := by
    rw [List.findIdx?_eq_some_iff_getElem]
    exact ⟨hk, hp, fun j hj => by simp [h j (by omega) hj]⟩
  rw [this]
theorem noneYet_succ {p : Rw → Bool} {l : List Rw} {k : Nat} (h : noneYet p l k) (hp : ∀ hk : k < l.length, p l[k] = false) : noneYet p l (k + 1) := by
  intro j hj hlt
  by_cases e : j < k
  · exact h j hj e
  · have : j = k := by omega
    subst this
    exact hp hj

def sameName (x : ByteArray) (r : Rw) : Bool := sameN r.name x
def aboveName (x : ByteArray) (r : Rw) : Bool := above r.name x

/-- File number k's three cells. -/
theorem Reads.file {w : World} {v : Value} {l : List Rw} (h : Reads w v 3 l.length (rowCells l)) (k : Nat) (hk : k < l.length) :
    ∃ b off cap, v = .slice (some ⟨b, off, none⟩) l.length cap ∧ l.length ≤ cap ∧ cap ≤ maxLen ∧ b < w.heap.size ∧ w.cell? ⟨b, off + k * 3, none⟩ = some (.string l[k].name) ∧
      w.cell? ⟨b, off + k * 3 + 1, none⟩ = some (.string l[k].safe) ∧ w.cell? ⟨b, off + k * 3 + 2, none⟩ = some l[k].ov := by
  obtain ⟨b, off, cap, hv, h1, h2, hb, hc⟩ := h.at (by omega)
  obtain ⟨g0, g1, g2⟩ := rowCells_get l k hk
  exact ⟨b, off, cap, hv, h1, h2, hb, hc _ _ g0, hc _ _ g1, hc _ _ g2⟩

theorem indexSame_any (l : List Rw) (v : Value) (x : ByteArray) (b off : Nat) (w : World) (hr : Reads w v 3 l.length (rowCells l)) (hm : l.length ≤ 9223372036854775807)
    (hlt : b < w.heap.size) (hc : w.cell? ⟨b, off, none⟩ = some (.string x)) :
    Calls Try.prog 37 #[v, .func (.func 38) #[] #[.pointer (some ⟨b, off, none⟩)]] w fun e w' => e = .returned (.int .i64 (idx (sameName x) l)) ∧ Below w.heap.size w w' := by
  obtain ⟨p, cap, rfl⟩ := hr.is
  go_enter Try.func37, Try.ntmps37
  go_wp2
  go_loopw [8] (fun i wr => ∃ k : Nat, k ≤ l.length ∧ i = .int .i64 k ∧ noneYet (sameName x) l k ∧ Below w.heap.size w wr) (fun i _ => l.length - (intOf i).toNat)
  case atStart => exact ⟨0, Nat.zero_le _, rfl, fun j _ h => absurd h (Nat.not_lt_zero _), Below.refl _ _⟩
  case round =>
    obtain ⟨k, hk, rfl, hall, hbl⟩ := hrel
    have Hall := Lib.hid hall
    clear hall
    have hlb := hbl.size
    by_cases hlt : k < l.length
    · obtain ⟨b1, off1, cap1, hv, _, _, hb1, c0, c1, c2⟩ := (hr.below hbl).file k hlt
      obtain ⟨rfl, rfl⟩ : p = some ⟨b1, off1, none⟩ ∧ cap = cap1 := by simpa using hv
      have cx := below_cell hbl hc
      clear hr hc hv
      have HB := Lib.hid hbl
      clear hbl
      rcases Bool.eq_false_or_eq_true (sameN l[k].name x) with hl | hl
      · go_wp2_with (go_at_call 38; refine (same_any _ _ _ x b off _ (by omega) cx).mono ?_; rintro e w1 ⟨rfl, hb2⟩)
        go_ret
        exact ⟨ret_int (idx_some hlt Hall.out hl).symm, HB.out.trans (hb2.mono hlb)⟩
      · go_wp2_with (go_at_call 38; refine (same_any _ _ _ x b off _ (by omega) cx).mono ?_; rintro e w1 ⟨rfl, hb2⟩)
        go_roundw
        case rel => exact ⟨k + 1, by omega, by go_num, noneYet_succ Hall.out fun _ => hl, HB.out.trans (hb2.mono hlb)⟩
        case measure => simp [intOf]; omega
    · go_wp2
      go_ret
      refine ⟨ret_int ?_, hbl⟩
      obtain rfl : k = l.length := by omega
      exact (idx_none Hall.out).symm

theorem indexAbove_any (l : List Rw) (v : Value) (x : ByteArray) (b off : Nat) (w : World) (hr : Reads w v 3 l.length (rowCells l)) (hm : l.length ≤ 9223372036854775807)
    (hlt : b < w.heap.size) (hc : w.cell? ⟨b, off, none⟩ = some (.string x)) :
    Calls Try.prog 37 #[v, .func (.func 41) #[] #[.pointer (some ⟨b, off, none⟩)]] w fun e w' => e = .returned (.int .i64 (idx (aboveName x) l)) ∧ Below w.heap.size w w' := by
  obtain ⟨p, cap, rfl⟩ := hr.is
  go_enter Try.func37, Try.ntmps37
  go_wp2
  go_loopw [8] (fun i wr => ∃ k : Nat, k ≤ l.length ∧ i = .int .i64 k ∧ noneYet (aboveName x) l k ∧ Below w.heap.size w wr) (fun i _ => l.length - (intOf i).toNat)
  case atStart => exact ⟨0, Nat.zero_le _, rfl, fun j _ h => absurd h (Nat.not_lt_zero _), Below.refl _ _⟩
  case round =>
    obtain ⟨k, hk, rfl, hall, hbl⟩ := hrel
    have Hall := Lib.hid hall
    clear hall
    have hlb := hbl.size
    by_cases hlt : k < l.length
    · obtain ⟨b1, off1, cap1, hv, _, _, hb1, c0, c1, c2⟩ := (hr.below hbl).file k hlt
      obtain ⟨rfl, rfl⟩ : p = some ⟨b1, off1, none⟩ ∧ cap = cap1 := by simpa using hv
      have cx := below_cell hbl hc
      clear hr hc hv
      have HB := Lib.hid hbl
      clear hbl
      rcases Bool.eq_false_or_eq_true (above l[k].name x) with hl | hl
      · go_wp2_with (go_at_call 41; refine (after_any _ _ _ x b off _ (by omega) cx).mono ?_; rintro e w1 ⟨rfl, hb2⟩)
        go_ret
        exact ⟨ret_int (idx_some hlt Hall.out hl).symm, HB.out.trans (hb2.mono hlb)⟩
      · go_wp2_with (go_at_call 41; refine (after_any _ _ _ x b off _ (by omega) cx).mono ?_; rintro e w1 ⟨rfl, hb2⟩)
        go_roundw
        case rel => exact ⟨k + 1, by omega, by go_num, noneYet_succ Hall.out fun _ => hl, HB.out.trans (hb2.mono hlb)⟩
        case measure => simp [intOf]; omega
    · go_wp2
      go_ret
      refine ⟨ret_int ?_, hbl⟩
      obtain rfl : k = l.length := by omega
      exact (idx_none Hall.out).symm

theorem below1 (w : World) (a : Obj) : Below w.heap.size w (w.alloc a) := (Below.refl _ _).alloc (Nat.le_refl _) _
theorem below2 (w : World) (a b : Obj) : Below w.heap.size w ((w.alloc a).alloc b) := (below1 w a).alloc (by simp) _
theorem below_then {w w1 w2 : World} (h : Below w.heap.size w w1) (h2 : Below w1.heap.size w1 w2) : Below w.heap.size w w2 := h.trans (h2.mono h.size)

theorem find_any (l : List Rw) (v : Value) (x : ByteArray) (w : World) (hr : Reads w v 3 l.length (rowCells l)) (hm : l.length ≤ 9223372036854775807) :
    Calls Try.prog 28 #[.agg #[v], .string x] w fun e w' => e = .returned (.int .i64 (idx (sameName x) l)) ∧ Below w.heap.size w w' := by
  go_enter Try.func28, Try.ntmps28
  go_wp2_with fail
  refine (indexSame_any l v x _ 0 _ (hr.below (below2 w _ _)) hm (by simp) (by simp)).mono ?_
  rintro e w1 ⟨rfl, hb⟩
  go_wp2_with fail
  go_ret
  exact ⟨rfl, below_then (below2 w _ _) hb⟩

def placeOf (x : ByteArray) (l : List Rw) : Int := if idx (aboveName x) l < 0 then l.length else idx (aboveName x) l
theorem place_any (l : List Rw) (v : Value) (x : ByteArray) (w : World) (hr : Reads w v 3 l.length (rowCells l)) (hm : l.length ≤ 9223372036854775807) :
    Calls Try.prog 39 #[.agg #[v], .string x] w fun e w' => e = .returned (.int .i64 (placeOf x l)) ∧ Below w.heap.size w w' := by
  obtain ⟨p, cap, rfl⟩ := hr.is
  by_cases h0 : idx (aboveName x) l < 0
  all_goals
    go_enter Try.func39, Try.ntmps39
    go_wp2_with fail
    refine (indexAbove_any l _ x _ 0 _ (hr.below (below2 w _ _)) hm (by simp) (by simp)).mono ?_
    rintro e w1 ⟨rfl, hb⟩
    have c0 := hb.cell (p := ⟨w.heap.size, 0, none⟩) (by simp; omega)
    go_wp2_with fail
    go_ret
    exact ⟨ret_int (by unfold placeOf; split <;> first | rfl | omega), below_then (below2 w _ _) hb⟩
end Go.Proofs.Ytfpdfhncifcghaa
