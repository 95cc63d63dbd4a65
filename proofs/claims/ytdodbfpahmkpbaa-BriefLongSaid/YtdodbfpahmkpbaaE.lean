/- All the short ones: both sides tell one word. -/
import Derived.Test.YtdodbfpahmkpbaaC
import Derived.Test.YtdodbfpahmkpbaaD
namespace Go.Proofs.Ytdodbfpahmkpbaa
open Go.RowKit Go.Deep Go.Joins

/-- All numbers of so many bits behind a beginning. -/
def allB (f : Nat → Bool) : Nat → Nat → Bool
  | 0, n => f n
  | d + 1, n => allB f d (2 * n) && allB f d (2 * n + 1)
theorem allB_spec (f : Nat → Bool) : ∀ (d n : Nat), allB f d n = true → ∀ m, m / 2 ^ d = n → f m = true
  | 0, n, h, m, e => by
    rw [Nat.pow_zero, Nat.div_one] at e
    rw [e]
    exact h
  | d + 1, n, h, m, e => by
    unfold allB at h
    rw [Bool.and_eq_true] at h
    have e2 : m / 2 ^ d / 2 = n := by rw [Nat.div_div_eq_div_mul, ← Nat.pow_succ]; exact e
    rcases (show m / 2 ^ d = 2 * n ∨ m / 2 ^ d = 2 * n + 1 by omega) with h3 | h3
    · exact allB_spec f d _ h.1 m h3
    · exact allB_spec f d _ h.2 m h3
/-- The reference's word: nought where there is none. -/
def rwordN (h : Nat) : Nat := bif Nat.beq (cutN h 0 2) 0 then firstN h (cutN h 13 3) else (bif Nat.beq (cutN h 0 2) 1 then secondN h (cutN h 13 3) else (bif Nat.beq (cutN h 0 2) 2 then thirdN h (cutN h 13 3) else 0))
/-- Both tell one word, and it is that of a short one. -/
def sameB (h : Nat) : Bool := Nat.beq (wordN h) (rwordN h)
theorem same_all : allB sameB 16 0 = true := by decide +kernel

end Go.Proofs.Ytdodbfpahmkpbaa
