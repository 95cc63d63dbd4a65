/- The merge in place of any two runs; rows that are sorted by blocks. -/
import Derived.Test.YtkecjopojnllnaaJ
namespace Go.Proofs.Ytkecjopojnllnaa
open Go.RowKit Go.Deep Go.Joins

theorem sym_all : ∀ N, SymOf N := by
  intro N
  induction N with
  | zero => intro P X Y S B g n cap a M b w hN; omega
  | succ N ih =>
    intro P X Y S B g n cap a M b w hN h hn ha hM hb hX hY hrX hrY
    by_cases h1 : X.length = 1
    · obtain ⟨x, rfl⟩ : ∃ x, X = [x] := List.length_eq_one_iff.1 h1
      have hM' : M = a + 1 := by simp at hM; omega
      subst hM'
      have h0 := sym_one P Y S x B g n cap a b w (by simpa using h) hn ha hb hY hrY
      rw [show ((a + 1 : Nat) : Int) = (a : Int) + 1 by omega]
      exact h0
    · by_cases h2 : Y.length = 1
      · obtain ⟨y, rfl⟩ : ∃ y, Y = [y] := List.length_eq_one_iff.1 h2
        have hb' : b = M + 1 := by simp at hb; omega
        subst hb'
        have h0 := sym_last P X S y B g n cap a M w (by simpa using h) hn ha hM (by omega) hrX
        rw [show ((M + 1 : Nat) : Int) = (M : Int) + 1 by omega]
        exact h0
      · exact sym_gen N ih P X Y S B g n cap a M b w hN h hn ha hM hb (by omega) (by omega) hrX hrY
theorem sym_any (P X Y S : List Sg) (B g n cap a M b : Nat) (w : World) (h : OwnS w B g n cap (P ++ X ++ Y ++ S)) (hn : n ≤ 4611686018427387904) (ha : P.length = a) (hM : a + X.length = M) (hb : M + Y.length = b) (hX : 0 < X.length) (hY : 0 < Y.length) (hrX : Rises X) (hrY : Rises Y) :
    Calls Try.prog 78 #[.slice (some ⟨g, 0, none⟩) n cap, .int .i64 a, .int .i64 M, .int .i64 b, cmpV] w fun e w' => e = .returned (.tuple #[]) ∧ (∃ Z, Rises Z ∧ Keeps (X ++ Y) Z ∧ OwnS w' B g n cap (P ++ Z ++ S)) ∧ w.grownBy w' (some g) :=
  sym_all (X.length + Y.length + 1) P X Y S B g n cap a M b w (by omega) h hn ha hM hb hX hY hrX hrY

/-! ### Sorted by blocks -/
def SortB (bs : Nat) (l : List Sg) (lo hi : Nat) : Prop := ∀ i j, lo ≤ i → i < j → j < hi → i / bs = j / bs → kn l i ≤ kn l j
theorem kn_left {P X : List Sg} {i : Nat} (h : i < P.length) : kn (P ++ X) i = kn P i := by unfold kn; rw [List.getElem?_append_left h]
theorem kn_right {P X : List Sg} {i : Nat} (h : P.length ≤ i) : kn (P ++ X) i = kn X (i - P.length) := by unfold kn; rw [List.getElem?_append_right h]
theorem kn_take {l : List Sg} {a i : Nat} (h : i < a) : kn (l.take a) i = kn l i := by unfold kn; rw [List.getElem?_take_of_lt h]
theorem kn_drop {l : List Sg} {a i : Nat} : kn (l.drop a) i = kn l (a + i) := by unfold kn; rw [List.getElem?_drop]
theorem rises_kn {X : List Sg} (h : Rises X) {i j : Nat} (hij : i < j) (hj : j < X.length) : kn X i ≤ kn X j := by
  rw [kn_at (by omega), kn_at hj]
  exact (List.pairwise_iff_getElem.1 h) i j (by omega) hj hij
theorem kn_rises {X : List Sg} (h : ∀ i j, i < j → j < X.length → kn X i ≤ kn X j) : Rises X := by
  refine List.pairwise_iff_getElem.2 fun i j hi hj hij => ?_
  have := h i j hij hj
  rwa [kn_at hi, kn_at hj] at this
theorem div_block {bs q j : Nat} (h1 : bs * q ≤ j) (h2 : j < bs * q + bs) : j / bs = q := by
  rw [Nat.div_eq_of_lt_le]
  · rw [Nat.mul_comm]; exact h1
  · rw [Nat.mul_comm, Nat.mul_succ]; exact h2
theorem block_low {bs q i j : Nat} (hb : 0 < bs) (hij : i / bs = j / bs) (h1 : bs * q ≤ j) : bs * q ≤ i := by
  have h2 : q ≤ j / bs := by
    rw [Nat.le_div_iff_mul_le hb, Nat.mul_comm]; exact h1
  rw [← hij, Nat.le_div_iff_mul_le hb, Nat.mul_comm] at h2
  exact h2
/-- The next block is sorted. -/
theorem sortB_next {bs q e : Nat} {l X' S : List Sg} (hb : 0 < bs) (h : SortB bs l 0 (bs * q)) (hq : bs * q ≤ l.length) (hX : bs * q + X'.length = e) (hr : Rises X') : SortB bs (l.take (bs * q) ++ X' ++ S) 0 e := by
  intro i j _ hij hj hd
  have hP : (l.take (bs * q)).length = bs * q := by rw [List.length_take]; omega
  by_cases h1 : j < bs * q
  · have e1 : ∀ r, r < bs * q → kn (l.take (bs * q) ++ X' ++ S) r = kn l r := fun r hr => by rw [List.append_assoc, kn_left (by omega), kn_take hr]
    rw [e1 i (by omega), e1 j h1]
    exact h i j (Nat.zero_le _) hij h1 hd
  · have h2 := block_low hb hd (show bs * q ≤ j by omega)
    have e1 : ∀ r, bs * q ≤ r → r < e → kn (l.take (bs * q) ++ X' ++ S) r = kn X' (r - bs * q) := fun r h3 h4 => by rw [List.append_assoc, kn_right (by omega), hP, kn_left (by omega)]
    rw [e1 i h2 (by omega), e1 j (by omega) hj]
    exact rises_kn hr (by omega) (by omega)
theorem sortB_rest {bs b n : Nat} {l A S : List Sg} (h : SortB bs l b n) (hA : A.length = b) (hS : S = l.drop b) : SortB bs (A ++ S) b n := by
  intro i j hi hij hj hd
  have e1 : ∀ r, b ≤ r → kn (A ++ S) r = kn l r := fun r hr => by rw [kn_right (by omega), hA, hS, kn_drop, show b + (r - b) = r by omega]
  rw [e1 i hi, e1 j (by omega)]
  exact h i j hi hij hj hd
/-- A block of the row is a run. -/
theorem sortB_run {bs q lo n m : Nat} {l : List Sg} (h : SortB bs l lo n) (hlo : lo ≤ bs * q) (hm : m ≤ bs) (hn : bs * q + m ≤ n) : Rises ((l.drop (bs * q)).take m) := by
  refine kn_rises fun i j hij hj => ?_
  rw [List.length_take] at hj
  have e1 : ∀ r, r < m → kn ((l.drop (bs * q)).take m) r = kn l (bs * q + r) := fun r hr => by rw [kn_take hr, kn_drop]
  rw [e1 i (by omega), e1 j (by omega)]
  refine h _ _ (by omega) (by omega) (by omega) ?_
  rw [div_block (q := q) (by omega) (by omega), div_block (q := q) (by omega) (by omega)]
end Go.Proofs.Ytkecjopojnllnaa
