/- The merge in place, plain: what the search finds. -/
import Derived.Test.YtkecjopojnllnaaH
namespace Go.Proofs.Ytkecjopojnllnaa
open Go.RowKit Go.Deep Go.Joins

def kn (L : List Sg) (i : Nat) : Int := (L[i]?.map Sg.num).getD 0
theorem kn_at {L : List Sg} {i : Nat} (h : i < L.length) : kn L i = L[i].num := by unfold kn; rw [List.getElem?_eq_getElem h]; rfl
theorem split_le {X Y : List Sg} {i j : Nat} (hX : Rises X) (hY : Rises Y) (h : i = 0 ∨ Y.length ≤ j ∨ (0 < i ∧ i ≤ X.length ∧ j < Y.length ∧ kn X (i - 1) ≤ kn Y j)) : ∀ x ∈ X.take i, ∀ y ∈ Y.drop j, x.num ≤ y.num := by
  intro x hx y hy
  rcases h with rfl | h | ⟨h1, h2, h3, h4⟩
  · simp at hx
  · rw [List.drop_eq_nil_of_le h] at hy; cases hy
  · rw [kn_at (by omega), kn_at h3] at h4
    have a1 := rises_take hX (k := i - 1) (by omega) x (by rw [show i - 1 + 1 = i by omega]; exact hx)
    have a2 := rises_drop hY h3 y hy
    omega
theorem split_lt {X Y : List Sg} {i j : Nat} (hX : Rises X) (hY : Rises Y) (h : j = 0 ∨ X.length ≤ i ∨ (0 < j ∧ j ≤ Y.length ∧ i < X.length ∧ kn Y (j - 1) < kn X i)) : ∀ y ∈ Y.take j, ∀ x ∈ X.drop i, y.num < x.num := by
  intro y hy x hx
  rcases h with rfl | h | ⟨h1, h2, h3, h4⟩
  · simp at hy
  · rw [List.drop_eq_nil_of_le h] at hx; cases hx
  · rw [kn_at (by omega), kn_at h3] at h4
    have a1 := rises_take hY (k := j - 1) (by omega) y (by rw [show j - 1 + 1 = j by omega]; exact hy)
    have a2 := rises_drop hX h3 x hx
    omega
theorem rises_part {A B : List Sg} (h : Rises (A ++ B)) : Rises A ∧ Rises B ∧ ∀ a ∈ A, ∀ b ∈ B, a.num ≤ b.num := List.pairwise_append.1 h
theorem rises_join {A B : List Sg} (h1 : Rises A) (h2 : Rises B) (h : ∀ a ∈ A, ∀ b ∈ B, a.num ≤ b.num) : Rises (A ++ B) := List.pairwise_append.2 ⟨h1, h2, h⟩
/-- The two halves, merged, are the whole, merged. -/
theorem sym_plain {X1 X2 Y1 Y2 Z1 Z2 : List Sg} (hX : Rises (X1 ++ X2)) (hY : Rises (Y1 ++ Y2)) (h1 : ∀ x ∈ X1, ∀ y ∈ Y2, x.num ≤ y.num) (h2 : ∀ y ∈ Y1, ∀ x ∈ X2, y.num < x.num)
    (r1 : Rises Z1) (r2 : Rises Z2) (k1 : Keeps (X1 ++ Y1) Z1) (k2 : Keeps (X2 ++ Y2) Z2) : Rises (Z1 ++ Z2) ∧ Keeps ((X1 ++ X2) ++ (Y1 ++ Y2)) (Z1 ++ Z2) := by
  refine ⟨rises_join r1 r2 fun a ha b hb => ?_, ?_⟩
  · rcases List.mem_append.1 (k1.mem ha) with ha | ha <;> rcases List.mem_append.1 (k2.mem hb) with hb | hb
    · exact (rises_part hX).2.2 a ha b hb
    · exact h1 a ha b hb
    · exact Int.le_of_lt (h2 a ha b hb)
    · exact (rises_part hY).2.2 a ha b hb
  · have h3 : Keeps (X2 ++ Y1) (Y1 ++ X2) := Keeps.swap fun x hx y hy => by have := h2 y hy x hx; omega
    have h4 : Keeps (X1 ++ (X2 ++ Y1) ++ Y2) (X1 ++ (Y1 ++ X2) ++ Y2) := ((Keeps.refl X1).append h3).append (Keeps.refl Y2)
    have h5 : Keeps (X1 ++ Y1 ++ (X2 ++ Y2)) (Z1 ++ Z2) := k1.append k2
    have e1 : X1 ++ X2 ++ (Y1 ++ Y2) = X1 ++ (X2 ++ Y1) ++ Y2 := by simp
    have e2 : X1 ++ (Y1 ++ X2) ++ Y2 = X1 ++ Y1 ++ (X2 ++ Y2) := by simp
    rw [e1]
    exact h4.trans (e2 ▸ h5)
theorem at_left {P X Y S : List Sg} {a M c : Nat} (ha : P.length = a) (hM : a + X.length = M) (h1 : a ≤ c) (h2 : c < M) : ∃ h : c < (P ++ X ++ Y ++ S).length, (P ++ X ++ Y ++ S)[c] = X[c - a]'(by omega) := by
  subst ha
  refine ⟨by simp only [List.length_append]; omega, ?_⟩
  rw [List.getElem_append_left (by simp only [List.length_append]; omega), List.getElem_append_left (by simp only [List.length_append]; omega), List.getElem_append_right (by omega)]
theorem at_right {P X Y S : List Sg} {a M b e : Nat} (ha : P.length = a) (hM : a + X.length = M) (hb : M + Y.length = b) (h1 : M ≤ e) (h2 : e < b) : ∃ h : e < (P ++ X ++ Y ++ S).length, (P ++ X ++ Y ++ S)[e] = Y[e - M]'(by omega) := by
  have hl : (P ++ X).length = M := by rw [List.length_append, ha, hM]
  subst hl
  refine ⟨by simp only [List.length_append] at *; omega, ?_⟩
  rw [List.getElem_append_left (by simp only [List.length_append] at *; omega), List.getElem_append_right (by omega)]
/-- What the merge promises of two runs. -/
def SymOf (N : Nat) : Prop := ∀ (P X Y S : List Sg) (B g n cap a M b : Nat) (w : World), X.length + Y.length < N → OwnS w B g n cap (P ++ X ++ Y ++ S) → n ≤ 4611686018427387904 → P.length = a → a + X.length = M → M + Y.length = b → 0 < X.length → 0 < Y.length → Rises X → Rises Y →
  Calls Try.prog 78 #[.slice (some ⟨g, 0, none⟩) n cap, .int .i64 a, .int .i64 M, .int .i64 b, cmpV] w fun e w' => e = .returned (.tuple #[]) ∧ (∃ Z, Rises Z ∧ Keeps (X ++ Y) Z ∧ OwnS w' B g n cap (P ++ Z ++ S)) ∧ w.grownBy w' (some g)
/-- A run ahead of another, in the row: whether there is anything to merge or not. -/
def Merged (w0 : World) (B g n cap : Nat) (P XY S : List Sg) (w : World) : Prop := ∃ Z, Rises Z ∧ Keeps XY Z ∧ OwnS w B g n cap (P ++ Z ++ S) ∧ w0.grownBy w (some g)
end Go.Proofs.Ytkecjopojnllnaa
