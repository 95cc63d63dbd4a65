/- Text, in all ways. -/
import Derived.Test.YtnedhjaphfjdmaaRD
namespace Go.Proofs.Ytnedhjaphfjdmaa
open Go.RowKit Go.Deep Go.Joins
def textE (n : Nat) (t size : Int) : Int := if size = 0 ∨ thereB n t size = true then 0 else 50
def textS (D : List UInt8) (t size : Int) : ByteArray := if size ≠ 0 ∧ thereB D.length t size = true then bytesOf D (t - 2147483648).toNat size.toNat else ⟨#[]⟩
theorem text_all (v : Value) (D : List UInt8) (mv ev : Value) (t size : Int) (w : World) (hd : DAt w v D) (ht0 : 0 ≤ t) (ht1 : t ≤ 18446744073709551615) (hs0 : -9223372036854775808 ≤ size) (hs1 : size ≤ 9223372036854775807) :
    Calls Try.prog 71 #[.agg #[v, mv, ev], .int .u64 t, .int .i64 size] w fun e w' => e = .returned (.tuple #[.string (textS D t size), .int .i64 (textE D.length t size)]) ∧ Below w.heap.size w w' := by
  by_cases h0 : size = 0
  · subst h0
    have e1 : textS D t 0 = ⟨#[]⟩ := if_neg (by simp)
    have e2 : textE D.length t 0 = 0 := if_pos (.inl rfl)
    rw [e1, e2]
    exact text_none v mv ev t w
  · rcases Bool.eq_false_or_eq_true (thereB D.length t size) with h | h
    · have e1 : textS D t size = bytesOf D (t - 2147483648).toNat size.toNat := if_pos ⟨h0, h⟩
      have e2 : textE D.length t size = 0 := if_pos (.inr h)
      rw [e1, e2]
      exact text_any v D mv ev t size w hd ht0 ht1 hs1 (by have := (there_iff.1 h).1; omega) h
    · have e1 : textS D t size = ⟨#[]⟩ := if_neg (by simp [h])
      have e2 : textE D.length t size = 50 := if_neg (by simp [h, h0])
      rw [e1, e2]
      obtain ⟨p, cap, rfl⟩ := hd.is
      exact text_ram p D.length cap mv ev t size w hd.le ht0 ht1 hs0 hs1 h0 h
theorem textE_is (n : Nat) (t size : Int) : textE n t size = 0 ∨ textE n t size = 50 := by unfold textE; split <;> simp
theorem textS_size (D : List UInt8) (t : Int) (s : Nat) : (textS D t s).size ≤ s := by
  unfold textS
  split
  · show (bytesOf D _ _).data.size ≤ s
    simp [bytesOf]
    omega
  · exact Nat.zero_le _
end Go.Proofs.Ytnedhjaphfjdmaa
