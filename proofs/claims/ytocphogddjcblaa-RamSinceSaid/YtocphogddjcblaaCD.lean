/- RamSince: what a writing keeps, and what is laid over the old. -/
import Derived.Test.YtocphogddjcblaaCC
import Derived.Test.YtocphogddjcblaaBB
import Derived.Test.YtocphogddjcblaaCA
import Derived.Test.YtocphogddjcblaaX
namespace Go.Proofs.Ytocphogddjcblaa
open Go.RowKit Go.Deep Go.Joins
theorem spl_get (D : List UInt8) (off : Nat) (s : ByteArray) (h : off + s.size ≤ D.length) (i : Nat) :
    (spl D off s)[i]? = if off ≤ i ∧ i < off + s.size then s.data.toList[i - off]? else D[i]? := by
  have e1 : s.data.toList.length = s.size := by rw [Array.length_toList]; rfl
  unfold spl splice
  by_cases h1 : i < off
  · rw [List.getElem?_append_left (by simp; omega), if_neg (by omega), List.getElem?_take, if_pos h1]
  · rw [List.getElem?_append_right (by simp; omega)]
    have e2 : (D.take off).length = off := by simp; omega
    rw [e2]
    by_cases h2 : i < off + s.size
    · rw [if_pos (by omega), List.getElem?_append_left (by omega)]
    · rw [if_neg (by omega), List.getElem?_append_right (by omega), List.getElem?_drop, e1]
      congr 1; omega
theorem mk_getD (M : List Int) (E : Int) (a j k : Nat) (hk : k < M.length) : (mk M E a j).getD k 0 = if a ≤ k ∧ k < j then E else M.getD k 0 := by
  rw [List.getD_eq_getElem?_getD, List.getD_eq_getElem?_getD, List.getElem?_eq_getElem hk, List.getElem?_eq_getElem (by rw [mk_length]; exact hk)]
  simp [mk]
/-- Now beside old: the lengths, the marks, and each byte that differs is marked. -/
structure RamInv (D : List UInt8) (m : Nat) (F : Int) (D' : List UInt8) (M' : List Int) : Prop where
  ld : D'.length = D.length
  lm : M'.length = m
  ln : D.length = m * 256
  m1 : 1 ≤ m
  m2 : m ≤ 256
  le : ∀ j, j < m → M'.getD j 0 ≤ F
  dif : ∀ i, i < D.length → D'[i]? ≠ D[i]? → F ≤ M'.getD (i / 256) 0
theorem RamInv.put {D : List UInt8} {m : Nat} {F : Int} {D' : List UInt8} {M' : List Int} (h : RamInv D m F D' M') (t : Int) (s : ByteArray) : RamInv D m F (putD D' t s) (putM D'.length M' F t s) := by
  have h1 := h.ld
  have h2 := h.lm
  have h3 := h.ln
  refine ⟨by rw [putD_length]; exact h1, by rw [putM_length]; exact h2, h3, h.m1, h.m2, ?_, ?_⟩
  · intro j hj
    unfold putM
    split
    · rw [mk_getD _ _ _ _ _ (by omega)]
      split
      · exact Int.le_refl _
      · exact h.le j hj
    · exact h.le j hj
  · intro i hi
    unfold putD putM
    by_cases hc : s.size ≠ 0 ∧ thereB D'.length t s.size = true
    · rw [if_pos hc, if_pos hc]
      obtain ⟨c1, c2⟩ := hc
      obtain ⟨_, c3, c4⟩ := there_iff.1 c2
      rw [spl_get _ _ _ (by omega), mk_getD _ _ _ _ _ (by omega)]
      by_cases hr : (t - 2147483648).toNat ≤ i ∧ i < (t - 2147483648).toNat + s.size
      · intro _
        rw [if_pos (show (t - 2147483648).toNat / 256 ≤ i / 256 ∧ i / 256 < ((t - 2147483648).toNat + s.size - 1) / 256 + 1 from ⟨Nat.div_le_div_right hr.1, by have := Nat.div_le_div_right (c := 256) (show i ≤ (t - 2147483648).toNat + s.size - 1 by omega); omega⟩)]
        exact Int.le_refl _
      · rw [if_neg hr]
        intro hne
        split
        · exact Int.le_refl _
        · exact h.dif i hi hne
    · rw [if_neg hc, if_neg hc]
      exact h.dif i hi
theorem RamInv.chk {D : List UInt8} {m : Nat} {F : Int} {D' : List UInt8} {M' : List Int} (h : RamInv D m F D' M') : chkV D'.length M' F = 0 :=
  chk_yes ⟨by rw [h.lm]; exact h.m1, by rw [h.lm]; exact h.m2, by rw [h.lm, h.ld]; exact h.ln⟩ fun j hj => by
    have := h.le j (by rw [← h.lm]; exact hj)
    rwa [List.getD_eq_getElem?_getD, List.getElem?_eq_getElem hj] at this
theorem le_nextE (E : Int) : E ≤ nextE E := by unfold nextE; split <;> omega
theorem RamInv.first {D : List UInt8} {M : List Int} {E : Int} (h : chkV D.length M E = 0) : RamInv D M.length (nextE E) D M := by
  by_cases h1 : 1 ≤ M.length ∧ M.length ≤ 256 ∧ D.length = M.length * 256
  · refine ⟨rfl, rfl, h1.2.2, h1.1, h1.2.1, fun j hj => ?_, fun i _ hne => absurd rfl hne⟩
    rw [List.getD_eq_getElem?_getD, List.getElem?_eq_getElem hj]
    show M[j] ≤ _
    by_cases h2 : E < M[j]
    · rw [chk_no2 j hj h2] at h; cases h
    · have := le_nextE E; omega
  · rw [chk_no1 h1] at h; cases h
theorem pieceOf_size (D : List UInt8) (k : Nat) (h : k < D.length / 256) : (pieceOf D k).bytes.size = 256 := by
  show (bytesOf D (k * 256) 256).data.size = 256
  simp [bytesOf]; omega
theorem pieces_good (D' : List UInt8) (n : Nat) (L : List Nat) (hn : D'.length = n) (h : ∀ k ∈ L, k < n / 256) : layB n (L.map (pieceOf D')) = true := by
  unfold layB
  rw [List.all_eq_true]
  intro p hp
  obtain ⟨k, hk, rfl⟩ := List.mem_map.1 hp
  have := h k hk
  unfold goodB
  rw [pieceOf_size D' k (by rw [hn]; exact this)]
  have h2 : leafB n (pieceOf D' k).leaf = true := decide_eq_true (by show 0 ≤ (k : Int) ∧ (k : Int) < (n : Int) / 256; omega)
  rw [h2]; rfl
theorem lay_get (D' : List UInt8) (L : List Nat) : ∀ (D : List UInt8), D'.length = D.length → (∀ k ∈ L, k < D.length / 256) → ∀ i, i < D.length → (layD D (L.map (pieceOf D')))[i]? = if i / 256 ∈ L then D'[i]? else D[i]? := by
  induction L with
  | nil => intro D _ _ i _; simp [layD]
  | cons k L ih =>
    intro D hd hL i hi
    have hk := hL k (by simp)
    have hs : (pieceOf D' k).bytes.size = 256 := pieceOf_size D' k (by rw [hd]; exact hk)
    have e : layD D ((k :: L).map (pieceOf D')) = layD (spl D (256 * k) (pieceOf D' k).bytes) (L.map (pieceOf D')) := by
      rw [← layOne_good D k _ hk hs]; rfl
    have hl : (spl D (256 * k) (pieceOf D' k).bytes).length = D.length := spl_length _ _ _ (by omega)
    rw [e, ih _ (by rw [hl]; exact hd) (by rw [hl]; exact fun q hq => hL q (by simp [hq])) i (by rw [hl]; exact hi), spl_get _ _ _ (by omega), hs]
    have e2 : (pieceOf D' k).bytes.data.toList[i - 256 * k]? = if i - 256 * k < 256 then D'[k * 256 + (i - 256 * k)]? else none := by
      show (bytesOf D' (k * 256) 256).data.toList[i - 256 * k]? = _
      simp only [bytesOf, List.getElem?_take, List.getElem?_drop]
    by_cases h1 : i / 256 ∈ L
    · rw [if_pos h1, if_pos (by simp [h1])]
    · rw [if_neg h1]
      by_cases h2 : i / 256 = k
      · rw [if_pos (show 256 * k ≤ i ∧ i < 256 * k + 256 by omega), if_pos (show i / 256 ∈ k :: L by simp [h2]), e2, if_pos (by omega)]
        congr 1; omega
      · rw [if_neg (show ¬ (256 * k ≤ i ∧ i < 256 * k + 256) by omega), if_neg (show ¬ i / 256 ∈ k :: L by simp [h1, h2])]
theorem RamInv.laid {D : List UInt8} {m : Nat} {F : Int} {D' : List UInt8} {M' : List Int} (h : RamInv D m F D' M') :
    layB D.length ((sinceTo M' F M'.length).map (pieceOf D')) = true ∧ layD D ((sinceTo M' F M'.length).map (pieceOf D')) = D' := by
  have hn := h.ln
  have hm := h.lm
  have hL : ∀ k ∈ sinceTo M' F M'.length, k < D.length / 256 := fun k hk => by
    have := (List.mem_filter.1 hk).1
    rw [List.mem_range] at this
    omega
  refine ⟨pieces_good D' _ _ h.ld hL, ?_⟩
  apply List.ext_getElem?
  intro i
  by_cases hi : i < D.length
  · rw [lay_get D' _ D h.ld hL i hi]
    split
    · rfl
    · rename_i hno
      by_cases he : D'[i]? = D[i]?
      · exact he.symm
      · exfalso
        apply hno
        exact List.mem_filter.2 ⟨List.mem_range.2 (by omega), decide_eq_true (h.dif i hi he)⟩
  · rw [List.getElem?_eq_none (by rw [layD_length]; omega), List.getElem?_eq_none (by rw [h.ld]; omega)]
theorem since_good {D : List UInt8} {m : Nat} {F : Int} {D' : List UInt8} {M' : List Int} (h : RamInv D m F D' M') (j : Nat) (hj : j < (sinceTo M' F M'.length).length) : (sinceTo M' F M'.length)[j] < D'.length / 256 := by
  have := (List.mem_filter.1 (List.getElem_mem hj)).1
  rw [List.mem_range] at this
  have := h.ln; have := h.lm; have := h.ld
  omega
end Go.Proofs.Ytocphogddjcblaa
