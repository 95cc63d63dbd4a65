/- Words of branches and jumps. -/
import Derived.Test.YtnbpadnbmbdfeaaDoorS
namespace Go.Proofs.YtnbpadnbmbdfeaaDoor
open Go.RowKit Go.Deep Go.Joins

/-- A branch's word, and a jump's, out of their distance. -/
def bWord (n f : Nat) : Nat := n / 4096 % 2 * 2147483648 + n / 32 % 64 * 33554432 + f * 4096 + n / 2 % 16 * 256 + n / 2048 % 2 * 128 + 99
def jWord (m : Nat) : Nat := m / 1048576 % 2 * 2147483648 + m / 2 % 1024 * 2097152 + m / 2048 % 2 * 1048576 + m / 4096 % 256 * 4096 + 111
theorem b_word (a b c e f : Nat) (ha : a < 2) (hb : b < 64) (hc : c < 16) (he : e < 2) (hf : f < 8) (x : Nat) (hx : x = a * 2147483648 + b * 33554432 + f * 4096 + c * 256 + e * 128 + 99) :
    cutN x 0 7 = 99 ∧ cutN x 12 3 = f ∧ cutN x 7 1 = e ∧ cutN x 25 6 = b ∧ cutN x 8 4 = c ∧ cutN x 31 1 = a := by
  refine ⟨?_, ?_, ?_, ?_, ?_, ?_⟩
  · show x / 1 % 128 = 99
    omega
  · show x / 4096 % 8 = f
    omega
  · show x / 128 % 2 = e
    omega
  · show x / 33554432 % 64 = b
    omega
  · show x / 256 % 16 = c
    omega
  · show x / 2147483648 % 2 = a
    omega
theorem j_word (a b c e : Nat) (ha : a < 2) (hb : b < 1024) (hc : c < 2) (he : e < 256) (x : Nat) (hx : x = a * 2147483648 + b * 2097152 + c * 1048576 + e * 4096 + 111) :
    cutN x 0 7 = 111 ∧ cutN x 12 8 = e ∧ cutN x 20 1 = c ∧ cutN x 21 10 = b ∧ cutN x 31 1 = a := by
  refine ⟨?_, ?_, ?_, ?_, ?_⟩
  · show x / 1 % 128 = 111
    omega
  · show x / 4096 % 256 = e
    omega
  · show x / 1048576 % 2 = c
    omega
  · show x / 2097152 % 1024 = b
    omega
  · show x / 2147483648 % 2 = a
    omega
theorem b_fields (n f : Nat) (hf : f < 8) : cutN (bWord n f) 0 7 = 99 ∧ cutN (bWord n f) 12 3 = f ∧ immB (bWord n f) = (n / 2048 % 2 * 2048 + n / 32 % 64 * 32 + n / 2 % 16 * 2 : Nat) - 4096 * (n / 4096 % 2 : Nat) := by
  obtain ⟨h0, h1, h2, h3, h4, h5⟩ := b_word (n / 4096 % 2) (n / 32 % 64) (n / 2 % 16) (n / 2048 % 2) f (by omega) (by omega) (by omega) (by omega) hf (bWord n f) rfl
  exact ⟨h0, h1, by unfold immB; rw [h2, h3, h4, h5]⟩
theorem j_fields (m : Nat) : cutN (jWord m) 0 7 = 111 ∧ immJ (jWord m) = (m / 4096 % 256 * 4096 + m / 2048 % 2 * 2048 + m / 2 % 1024 * 2 : Nat) - 1048576 * (m / 1048576 % 2 : Nat) := by
  obtain ⟨h0, h1, h2, h3, h4⟩ := j_word (m / 1048576 % 2) (m / 2 % 1024) (m / 2048 % 2) (m / 4096 % 256) (by omega) (by omega) (by omega) (by omega) (jWord m) rfl
  exact ⟨h0, by unfold immJ; rw [h1, h2, h3, h4]⟩
/-- A distance of thirteen bits, as it stands in 32. -/
theorem b_imm (n : Nat) (h : n < 4294967296) (h2 : n % 2 = 0) (hr : n < 4096 ∨ 4294963200 ≤ n) : ((n / 2048 % 2 * 2048 + n / 32 % 64 * 32 + n / 2 % 16 * 2 : Nat) : Int) - 4096 * (n / 4096 % 2 : Nat) = wrap32 (n : Int) := by
  unfold wrap32; omega
theorem j_imm (m : Nat) (h : m < 4294967296) (h2 : m % 2 = 0) (hr : m < 1048576 ∨ 4293918720 ≤ m) : ((m / 4096 % 256 * 4096 + m / 2048 % 2 * 2048 + m / 2 % 1024 * 2 : Nat) : Int) - 1048576 * (m / 1048576 % 2 : Nat) = wrap32 (m : Int) := by
  unfold wrap32; omega

end Go.Proofs.YtnbpadnbmbdfeaaDoor
