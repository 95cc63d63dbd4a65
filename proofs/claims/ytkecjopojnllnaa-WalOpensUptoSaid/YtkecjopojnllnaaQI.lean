/- Segments and numbers: the first file of each number, plain. -/
import Derived.Test.YtkecjopojnllnaaQH
namespace Go.Proofs.Ytkecjopojnllnaa
open Go.RowKit Go.Deep Go.Joins

/-- What is left of a row that rises: each number once, its first one. -/
structure Left (v : Option Int) (l d : List Sg) : Prop where
  strict : d.Pairwise (fun s t => s.num < t.num)
  more : ∀ s ∈ d, ∀ x, v = some x → x < s.num
  first : ∀ s ∈ d, l.find? (fun t => t.num == s.num) = some s
  all : ∀ s ∈ l, v = some s.num ∨ ∃ t ∈ d, t.num = s.num

theorem left_cons {x : Sg} {r d : List Sg} {v : Option Int} (hR : Rises (x :: r)) (h : Left (some x.num) r d) (hv : ∀ y, v = some y → y < x.num) : Left v (x :: r) (x :: d) where
  strict := List.pairwise_cons.2 ⟨fun t ht => h.more t ht _ rfl, h.strict⟩
  more := by
    intro s hs y hy
    rcases List.mem_cons.1 hs with rfl | hs
    · exact hv y hy
    · have := h.more s hs _ rfl
      have := hv y hy
      omega
  first := by
    intro s hs
    rcases List.mem_cons.1 hs with rfl | hs
    · simp
    · have h1 := h.more s hs _ rfl
      rw [List.find?_cons_of_neg (by simp; omega)]
      exact h.first s hs
  all := by
    intro s hs
    rcases List.mem_cons.1 hs with rfl | hs
    · exact .inr ⟨s, by simp, rfl⟩
    · rcases h.all s hs with e | ⟨t, ht, e⟩
      · exact .inr ⟨x, by simp, Option.some.inj e⟩
      · exact .inr ⟨t, List.mem_cons_of_mem _ ht, e⟩
theorem left_skip {x : Sg} {r d : List Sg} (h : Left (some x.num) r d) : Left (some x.num) (x :: r) d where
  strict := h.strict
  more := h.more
  first := by
    intro s hs
    have h1 := h.more s hs _ rfl
    rw [List.find?_cons_of_neg (by simp; omega)]
    exact h.first s hs
  all := by
    intro s hs
    rcases List.mem_cons.1 hs with rfl | hs
    · exact .inl rfl
    · exact h.all s hs
theorem left_from (v : Int) (l : List Sg) (hR : Rises l) (hv : ∀ s ∈ l, v ≤ s.num) : Left (some v) l (dedupF v l) := by
  induction l generalizing v with
  | nil => exact ⟨List.Pairwise.nil, (fun s hs => by cases hs), (fun s hs => by cases hs), (fun s hs => by cases hs)⟩
  | cons x r ih =>
    have hR' := List.pairwise_cons.1 hR
    have h := ih x.num hR'.2 hR'.1
    by_cases e : x.num = v
    · have e2 : dedupF v (x :: r) = dedupF x.num r := by show (if x.num = v then _ else _) = _; rw [if_pos e, e]
      rw [e2, ← e]
      exact left_skip h
    · have e2 : dedupF v (x :: r) = x :: dedupF x.num r := by show (if x.num = v then _ else _) = _; rw [if_neg e]
      rw [e2]
      refine left_cons hR h ?_
      rintro y hy
      have := hv x (by simp)
      have := Option.some.inj hy
      omega
theorem left_dedup (l : List Sg) (hR : Rises l) : Left none l (dedup l) := by
  cases l with
  | nil => exact ⟨List.Pairwise.nil, (fun s hs => by cases hs), (fun s hs => by cases hs), (fun s hs => by cases hs)⟩
  | cons x r =>
    have hR' := List.pairwise_cons.1 hR
    exact left_cons hR (left_from x.num r hR'.2 hR'.1) (by rintro y hy; cases hy)

/-- The first segment of a number is the first file whose name says it. -/
theorem find_keeps {X Y : List Sg} (h : Keeps X Y) (k : Int) : Y.find? (fun t => t.num == k) = X.find? (fun t => t.num == k) := by
  rw [← List.head?_filter, ← List.head?_filter, h.2]
theorem find_sgs (p : ByteArray) (l : List Rw) (n : Nat) : (sgs p l).find? (fun t => t.num == (n : Int)) = (l.find? (fun r => numB p r.name == some n)).map (sgOf n) := by
  induction l with
  | nil => rfl
  | cons r l ih =>
    unfold sgs at ih ⊢
    cases hn : numB p r.name with
    | none =>
      rw [List.filterMap_cons_none (by rw [hn]; rfl), ih, List.find?_cons_of_neg (by rw [hn]; simp)]
    | some m =>
      rw [List.filterMap_cons_some (b := sgOf m r) (by rw [hn]; rfl)]
      by_cases e : m = n
      · subst e
        rw [List.find?_cons_of_pos (by simp [sgOf]), List.find?_cons_of_pos (by rw [hn]; simp)]
        rfl
      · rw [List.find?_cons_of_neg (by simp [sgOf]; omega), ih, List.find?_cons_of_neg (by rw [hn]; simpa using e)]
theorem mem_sgs {p : ByteArray} {l : List Rw} {s : Sg} : s ∈ sgs p l ↔ ∃ r ∈ l, ∃ n, numB p r.name = some n ∧ s = sgOf n r := by
  unfold sgs
  rw [List.mem_filterMap]
  constructor
  · rintro ⟨r, hr, h⟩
    cases hn : numB p r.name with
    | none => rw [hn] at h; cases h
    | some n => rw [hn] at h; exact ⟨r, hr, n, hn, (Option.some.inj h).symm⟩
  · rintro ⟨r, hr, n, hn, rfl⟩
    exact ⟨r, hr, by rw [hn]; rfl⟩

/-- The program's segments, said by the reference's numbers. -/
def SegsOf (p : ByteArray) (l : List Rw) (L : List Nat) (D : List Sg) : Prop := D.length = L.length ∧ ∀ j (h : j < L.length), ∃ r, l.find? (fun r => numB p r.name == some L[j]) = some r ∧ D[j]? = some (sgOf L[j] r)
theorem segs_same {p : ByteArray} {l : List Rw} {L : List Nat} {D Z : List Sg} (hD : D = dedup Z) (hR : Rises Z) (hK : Keeps (sgs p l) Z) (hL : StrictN L) (hLm : ∀ n, n ∈ L ↔ hasN p l n) : SegsOf p l L D := by
  have h := left_dedup Z hR
  rw [← hD] at h
  have hmem : ∀ s ∈ D, ∃ r ∈ l, ∃ n, numB p r.name = some n ∧ s = sgOf n r := by
    intro s hs
    exact mem_sgs.1 (hK.mem (List.mem_of_find?_eq_some (h.first s hs)))
  have hnum : ∀ s ∈ D, ((s.num.toNat : Nat) : Int) = s.num := by
    intro s hs
    obtain ⟨r, _, n, _, rfl⟩ := hmem s hs
    show ((((n : Int)).toNat : Nat) : Int) = (n : Int)
    omega
  have hM : StrictN (D.map fun s => s.num.toNat) := by
    unfold StrictN
    rw [List.pairwise_map]
    refine List.Pairwise.imp_of_mem ?_ h.strict
    intro a b ha hb hab
    have := hnum a ha
    have := hnum b hb
    omega
  have hMm : ∀ n, n ∈ D.map (fun s => s.num.toNat) ↔ n ∈ L := by
    intro n
    rw [hLm, List.mem_map]
    constructor
    · rintro ⟨s, hs, rfl⟩
      obtain ⟨r, hr, n, hn, rfl⟩ := hmem s hs
      exact ⟨r, hr, hn⟩
    · rintro ⟨r, hr, hn⟩
      have h1 : sgOf n r ∈ sgs p l := mem_sgs.2 ⟨r, hr, n, hn, rfl⟩
      have h2 : (sgs p l).find? (fun t => t.num == (n : Int)) ≠ none := by
        rw [Ne, List.find?_eq_none]
        intro h3
        exact h3 _ h1 (by simp [sgOf])
      rw [← find_keeps hK] at h2
      obtain ⟨s, hs⟩ := Option.ne_none_iff_exists'.1 h2
      have e1 : s.num = (n : Int) := by simpa using List.find?_some hs
      rcases h.all s (List.mem_of_find?_eq_some hs) with e | ⟨t, ht, e⟩
      · cases e
      · exact ⟨t, ht, by omega⟩
  have he : (D.map fun s => s.num.toNat) = L := strict_unique hM hL hMm
  have hlen : D.length = L.length := by rw [← he, List.length_map]
  refine ⟨hlen, fun j hj => ?_⟩
  have hj2 : j < D.length := by omega
  have hs : D[j] ∈ D := List.getElem_mem hj2
  have e1 : L[j] = D[j].num.toNat := by
    subst he
    rw [List.getElem_map]
  have e2 : ((L[j] : Nat) : Int) = D[j].num := by rw [e1]; exact hnum _ hs
  have h1 := h.first _ hs
  rw [← e2, find_keeps hK, find_sgs] at h1
  cases hf : l.find? (fun r => numB p r.name == some L[j]) with
  | none => rw [hf] at h1; cases h1
  | some r =>
    rw [hf] at h1
    exact ⟨r, rfl, by rw [List.getElem?_eq_getElem hj2, ← Option.some.inj h1]⟩
end Go.Proofs.Ytkecjopojnllnaa
