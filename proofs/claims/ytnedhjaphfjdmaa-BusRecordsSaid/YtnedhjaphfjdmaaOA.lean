/- Arguments opened: memory. -/
import Derived.Test.YtnedhjaphfjdmaaBX
import Derived.SliceStrings
import Derived.SizedLaws
import Derived.Carry
namespace Go.Proofs.Ytnedhjaphfjdmaa
open Go.RowKit Go.Deep Go.Joins Go.WideShapes Go.ChangeShapes Go.ChangeAt
theorem own : ownKnob Try.prog.godebug = none := by kernel_rfl
theorem laidOut : laidOutB Try.prog = true := by kernel_rfl
theorem cells39 : Try.prog.cellsOf 39 = 3 := by kernel_rfl
theorem cells5 : Try.prog.cellsOf 5 = 1 := by kernel_rfl
theorem cells22 : Try.prog.cellsOf 22 = 1 := by kernel_rfl
theorem bytes5 : Try.prog.bytesOf 5 = 1 := by kernel_rfl
theorem bytes22 : Try.prog.bytesOf 22 = 8 := by kernel_rfl
def toB (zs : List Int) : List UInt8 := zs.map fun n => UInt8.ofNat n.toNat
theorem toB_get (zs : List Int) (i : Nat) (h : i < zs.length) (hw : ∀ n ∈ zs, 0 ≤ n ∧ n ≤ 255) : (dC (toB zs))[i]? = some (.int .u8 (zs.getD i 0)) := by
  have h2 := hw zs[i] (List.getElem_mem _)
  have e : zs.getD i 0 = zs[i] := by rw [List.getD_eq_getElem?_getD, List.getElem?_eq_getElem h]; rfl
  rw [e]
  simp only [dC, toB, List.getElem?_map, List.getElem?_eq_getElem h, Option.map_some]
  congr 2
  rw [UInt8.toNat_ofNat']
  omega
section
variable {H : Type} {enc : TypeId × Value → H} {w : World} {base : Nat} {spare : Nat → Bool} {held : Bool}
theorem open_d {fuel : Nat} {c : Value} {x : DataW H × List MemPlace} (h : DataW.trod enc Try.prog w base spare held fuel 36 [c] = some x) :
    ∃ D, DAt w c D ∧ ∀ N, (∀ k ∈ x.1.weights Try.prog 36, k ≤ N) → D.length ≤ N := by
  rcases open_ints Try.underlying36 Try.underlying5 cells5 h with ⟨hcs, rfl⟩ | ⟨a, len, cap, zs, hcs, _, hl, hm, hz, rfl, hcell, hwf⟩
  · simp only [List.cons.injEq, and_true] at hcs
    subst hcs
    exact ⟨[], ⟨rfl, .inl ⟨rfl, rfl⟩⟩, fun N _ => Nat.zero_le _⟩
  · simp only [List.cons.injEq, and_true] at hcs
    subst hcs
    have hlen : len ≤ zs.length := by rw [hz]; split <;> omega
    have hb : ∀ n ∈ zs, 0 ≤ n ∧ n ≤ 255 := fun n hn => bounds_u8 (hwf n hn)
    have hDl : (toB (zs.take len)).length = len := by simp [toB]; omega
    refine ⟨toB (zs.take len), ⟨by rw [dC_length, Nat.mul_one], .inr ⟨a, cap, by rw [hDl], by rw [hDl]; exact hl, hm, fun j u hu => ?_⟩⟩, fun N hN => ?_⟩
    · have hj : j < len := by
        have := (List.getElem?_eq_some_iff.1 hu).1
        rw [dC_length, hDl] at this
        exact this
      rw [toB_get _ j (by simp; omega) (fun n hn => hb n (List.mem_of_mem_take hn))] at hu
      rw [hcell j (by omega), ← Option.some.inj hu, List.getD_eq_getElem?_getD, List.getD_eq_getElem?_getD, List.getElem?_take_of_lt hj]
    · have := hN _ (by simp only [DataW.weights, Try.underlying36, List.mem_cons]; exact .inl rfl)
      rw [bytes5] at this
      simp [lits] at this
      rw [hDl]
      omega
theorem open_m {fuel : Nat} {c : Value} {x : DataW H × List MemPlace} (h : DataW.trod enc Try.prog w base spare held fuel 37 [c] = some x) :
    ∃ M, MAt w c M ∧ (∀ n ∈ M, 0 ≤ n ∧ n ≤ 18446744073709551615) ∧ ∀ N, (∀ k ∈ x.1.weights Try.prog 37, k ≤ N) → M.length * 8 ≤ N := by
  rcases open_ints Try.underlying37 Try.underlying22 cells22 h with ⟨hcs, rfl⟩ | ⟨a, len, cap, zs, hcs, _, hl, hm, hz, rfl, hcell, hwf⟩
  · simp only [List.cons.injEq, and_true] at hcs
    subst hcs
    exact ⟨[], ⟨rfl, .inl ⟨rfl, rfl⟩⟩, fun n hn => by (cases hn), fun N _ => Nat.zero_le _⟩
  · simp only [List.cons.injEq, and_true] at hcs
    subst hcs
    have hlen : len ≤ zs.length := by rw [hz]; split <;> omega
    have hb : ∀ n ∈ zs, 0 ≤ n ∧ n ≤ 18446744073709551615 := fun n hn => bounds_u64 (hwf n hn)
    have hDl : (zs.take len).length = len := by simp; omega
    refine ⟨zs.take len, ⟨by rw [mC_length, Nat.mul_one], .inr ⟨a, cap, by rw [hDl], by rw [hDl]; exact hl, hm, fun j u hu => ?_⟩⟩, fun n hn => hb n (List.mem_of_mem_take hn), fun N hN => ?_⟩
    · have hj : j < len := by
        have := (List.getElem?_eq_some_iff.1 hu).1
        rw [mC_length, hDl] at this
        exact this
      rw [hcell j (by omega), ← hu]
      simp only [mC, List.getElem?_map, List.getElem?_take_of_lt hj, List.getElem?_eq_getElem (show j < zs.length by omega), List.getD_eq_getElem?_getD, Option.map_some, Option.getD_some]
    · have := hN _ (by simp only [DataW.weights, Try.underlying37, List.mem_cons]; exact .inl rfl)
      rw [bytes22] at this
      simp [lits] at this
      rw [hDl]
      omega
end
end Go.Proofs.Ytnedhjaphfjdmaa
