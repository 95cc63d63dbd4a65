/- Right, its ways together. -/
import Derived.Test.YtbdoiomnoajnpaaNA
import Derived.Test.YtbdoiomnoajnpaaNB
namespace Go.Proofs.Ytbdoiomnoajnpaa
open Go.RowKit Go.Deep Go.Joins
def rrightB (c : Reg) : Bool := (c.s0 == stV c.s0) && ((bits .andNot .u64 c.s1 46079) == 0) && ((bits .andNot .u64 c.s2 546) == 0) && ((bits .andNot .u64 c.s3 2730) == 0) && ((bits .andNot .u64 c.s4 546) == 0) && ((bits .and .u64 c.s5 2) == 0) && ((bits .and .u64 c.s10 2) == 0) && ((bits .and .u64 c.s7 1) == 0) && ((bits .and .u64 c.s12 1) == 0) && (spV 0 c.s15 == c.s15)
theorem rright_any (c : Reg) (W : World) : Calls Try.prog 30 #[regV c] W fun e W' => e = .returned (.bool (rrightB c)) ∧ Below W.heap.size W W' := by
  rcases Bool.eq_false_or_eq_true (c.s0 == stV c.s0) with h0 | h0
  rotate_left
  · have e : rrightB c = false := by unfold rrightB; simp [h0]
    rw [e]; exact rright_0 c  h0 W
  rcases Bool.eq_false_or_eq_true ((bits .andNot .u64 c.s1 46079) == 0) with h1 | h1
  rotate_left
  · have e : rrightB c = false := by unfold rrightB; simp [h0, h1]
    rw [e]; exact rright_1 c h0 h1 W
  rcases Bool.eq_false_or_eq_true ((bits .andNot .u64 c.s2 546) == 0) with h2 | h2
  rotate_left
  · have e : rrightB c = false := by unfold rrightB; simp [h0, h1, h2]
    rw [e]; exact rright_2 c h0 h1 h2 W
  rcases Bool.eq_false_or_eq_true ((bits .andNot .u64 c.s3 2730) == 0) with h3 | h3
  rotate_left
  · have e : rrightB c = false := by unfold rrightB; simp [h0, h1, h2, h3]
    rw [e]; exact rright_3 c h0 h1 h2 h3 W
  rcases Bool.eq_false_or_eq_true ((bits .andNot .u64 c.s4 546) == 0) with h4 | h4
  rotate_left
  · have e : rrightB c = false := by unfold rrightB; simp [h0, h1, h2, h3, h4]
    rw [e]; exact rright_4 c h0 h1 h2 h3 h4 W
  rcases Bool.eq_false_or_eq_true ((bits .and .u64 c.s5 2) == 0) with h5 | h5
  rotate_left
  · have e : rrightB c = false := by unfold rrightB; simp [h0, h1, h2, h3, h4, h5]
    rw [e]; exact rright_5 c h0 h1 h2 h3 h4 h5 W
  rcases Bool.eq_false_or_eq_true ((bits .and .u64 c.s10 2) == 0) with h6 | h6
  rotate_left
  · have e : rrightB c = false := by unfold rrightB; simp [h0, h1, h2, h3, h4, h5, h6]
    rw [e]; exact rright_6 c h0 h1 h2 h3 h4 h5 h6 W
  rcases Bool.eq_false_or_eq_true ((bits .and .u64 c.s7 1) == 0) with h7 | h7
  rotate_left
  · have e : rrightB c = false := by unfold rrightB; simp [h0, h1, h2, h3, h4, h5, h6, h7]
    rw [e]; exact rright_7 c h0 h1 h2 h3 h4 h5 h6 h7 W
  rcases Bool.eq_false_or_eq_true ((bits .and .u64 c.s12 1) == 0) with h8 | h8
  rotate_left
  · have e : rrightB c = false := by unfold rrightB; simp [h0, h1, h2, h3, h4, h5, h6, h7, h8]
    rw [e]; exact rright_8 c h0 h1 h2 h3 h4 h5 h6 h7 h8 W
  rcases Bool.eq_false_or_eq_true (spV 0 c.s15 == c.s15) with h9 | h9
  rotate_left
  · have e : rrightB c = false := by unfold rrightB; simp [h0, h1, h2, h3, h4, h5, h6, h7, h8, h9]
    rw [e]; exact rright_9 c h0 h1 h2 h3 h4 h5 h6 h7 h8 h9 W
  · have e : rrightB c = true := by unfold rrightB; simp [h0, h1, h2, h3, h4, h5, h6, h7, h8, h9]
    rw [e]; exact rright_all c h0 h1 h2 h3 h4 h5 h6 h7 h8 h9 W

end Go.Proofs.Ytbdoiomnoajnpaa
