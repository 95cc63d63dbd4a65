/- Accept of the reference; what the changes of a log leave, told of its reading alone. -/
import Derived.Test.YthlghmechldegaaZG
import Derived.Test.YthlghmechldegaaZI
import Derived.Test.YthlghmechldegaaZJ
namespace Go.Proofs.Ythlghmechldegaa
open Go.RowKit Go.Deep Go.Joins
set_option maxRecDepth 100000
theorem raccept_any (l : Lg) (L E : List En) (prev pt : Int) (q : Option Addr) (c : Nat) (W : World) (hl : EAt W l.lv L) (he : EAt W (.slice q E.length c) E) (hz : ∀ e ∈ L, e.i.data.size ≤ maxLen) (hz2 : ∀ e ∈ E, e.i.data.size ≤ maxLen) (h0 : 0 ≤ l.base) (h1 : l.base ≤ 1152921504606846976) (hi0 : 0 ≤ prev) (hi1 : prev < 18446744073709551616) (hlim : (L.length + 600) * 64 ≤ 140737488355328) :
    Calls Try.prog 29 #[lgV l, .int .u64 prev, .int .u64 pt, .slice q E.length c] W fun r W' => ∃ r', r = .returned (.tuple #[lgV r', .int .u64 (if acB l L prev pt E = true then prev + E.length else 0), .bool (acB l L prev pt E)]) ∧ AccR W W' l r' (accN l.base L prev E E.length) (acB l L prev pt E) ∧ Below W.heap.size W W' := by
  cases hf : folB l L prev pt with
  | false => exact raccept_no l L E prev pt q c W hl he h0 h1 hi0 hi1 hlim (.inl hf)
  | true =>
    by_cases h5 : E.length ≤ 512
    · by_cases hlo : prev < l.base
      · exact raccept_lo l L E prev pt q c W hl he hz hz2 h0 h1 hi0 hi1 hlim hf h5 hlo
      · exact raccept_hi l L E prev pt q c W hl he hz hz2 h0 h1 hi0 hi1 hlim hf h5 hlo
    · exact raccept_no l L E prev pt q c W hl he h0 h1 hi0 hi1 hlim (.inr (by omega))
/-- A log with this head whose list is read as this one. -/
def Is (w : World) (g : Lg) (M : List En) (r : Lg) : Prop := ∃ q c, r = { g with lv := .slice q M.length c } ∧ EAt w (.slice q M.length c) M
theorem Is.lok {w : World} {g r : Lg} {M : List En} (k : Is w g M r) : LOk r := by
  obtain ⟨q, c, h, _⟩ := k
  exact ⟨q, _, c, by rw [h]⟩
theorem Is.below {W w : World} {g r : Lg} {M : List En} (k : Is W g M r) (h : Below W.heap.size W w) : Is w g M r := by
  obtain ⟨q, c, h1, h2⟩ := k
  exact ⟨q, c, h1, h2.below h⟩
theorem Is.zero (w : World) : Is w zeroLg [] zeroLg := ⟨none, 0, rfl, rfl, .inl ⟨rfl, rfl⟩⟩
theorem Is.own {w : World} {B : Nat} {g : Lg} {v : Value} {M : List En} (h : OwnE w B v M) : Is w g M { g with lv := v } := by
  unfold OwnE at h
  obtain ⟨p, c, e⟩ := owns_shape h
  subst e
  exact ⟨p, c, rfl, reads_of_owns h⟩
theorem AddR.is {W W' : World} {l r : Lg} {M : List En} {x : Int} (h : AddR W W' l r M x) : Is W' (if x = 0 then l else zeroLg) (if x = 0 then M else []) r := by
  rcases h with ⟨hx, v, rfl, ho⟩ | ⟨hx, rfl⟩
  · rw [if_pos hx, if_pos hx]
    exact Is.own ho
  · rw [if_neg hx, if_neg hx]
    exact Is.zero _
theorem AccR.is {W W' : World} {l r : Lg} {M : List En} {x : Bool} (h : AccR W W' l r M x) : Is W' (if x = true then l else zeroLg) (if x = true then M else []) r := by
  rcases h with ⟨hx, v, rfl, ho⟩ | ⟨hx, rfl⟩
  · rw [if_pos hx, if_pos hx]
    exact Is.own ho
  · subst hx
    exact Is.zero _
theorem same_is {W : World} {g a b : Lg} {M : List En} (h1 : Is W g M a) (h2 : Is W g M b) : Calls Try.prog 27 #[lgV a, lgV b] W fun r W' => r = .returned (.bool true) ∧ Below W.heap.size W W' := by
  obtain ⟨p, c, rfl, e1⟩ := h1
  obtain ⟨q, d, rfl, e2⟩ := h2
  exact same_log g.base g.bt g.s p q c d M W e1 e2
/-- The head of what is told, its list aside. -/
def hd (x : Bool) (l : Lg) : Lg := if x = true then ⟨l.base, l.bt, l.s, .slice none 0 0⟩ else zeroLg
/-- A log with this head whose list is this one, in blocks from B on. -/
def Iso (w : World) (B : Nat) (g : Lg) (M : List En) (r : Lg) : Prop := ∃ v, r = { g with lv := v } ∧ OwnE w B v M
theorem Iso.zero (w : World) (B : Nat) : Iso w B zeroLg [] zeroLg := ⟨.slice none 0 0, rfl, rfl, .inl ⟨rfl, rfl⟩⟩
theorem AddR.iso {W W' : World} {l r : Lg} {M : List En} {x : Int} (h : AddR W W' l r M x) : Iso W' W.heap.size (hd (x == 0) l) (if x = 0 then M else []) r := by
  rcases h with ⟨rfl, v, rfl, ho⟩ | ⟨hx, rfl⟩
  · exact ⟨v, rfl, ho⟩
  · rw [show (x == 0) = false from by rw [beq_eq_false_iff_ne]; exact hx, if_neg hx]
    exact Iso.zero _ _
theorem AccR.iso {W W' : World} {l r : Lg} {M : List En} {x : Bool} (h : AccR W W' l r M x) : Iso W' W.heap.size (hd x l) (if x = true then M else []) r := by
  rcases h with ⟨rfl, v, rfl, ho⟩ | ⟨rfl, rfl⟩
  · exact ⟨v, rfl, ho⟩
  · exact Iso.zero _ _
theorem Iso.is {w : World} {B : Nat} {g r : Lg} {M : List En} (k : Iso w B g M r) : Is w g M r := by
  obtain ⟨v, rfl, ho⟩ := k
  exact Is.own ho
theorem Iso.below {w w' : World} {B : Nat} {g r : Lg} {M : List En} (k : Iso w B g M r) (h : Below w.heap.size w w') : Iso w' B g M r := by
  obtain ⟨v, e, ho⟩ := k
  exact ⟨v, e, owns_below ho h⟩
theorem Iso.over {w : World} {B x : Nat} {g r : Lg} {M : List En} (k : Iso w B g M r) (hx : x < B) (cs : Array Value) : Iso (w.setRow x cs) B g M r := by
  obtain ⟨v, e, ho⟩ := k
  exact ⟨v, e, owns_same ho fun b hb => setRow_other _ _ _ _ (by have := (owns_lt ho hb).1; omega)⟩
/-- Two logs that differ in where their list lies are told alike. -/
theorem addE_lv (l : Lg) (v : Value) (L E : List En) : addE { l with lv := v } L E = addE l L E := rfl
end Go.Proofs.Ythlghmechldegaa
