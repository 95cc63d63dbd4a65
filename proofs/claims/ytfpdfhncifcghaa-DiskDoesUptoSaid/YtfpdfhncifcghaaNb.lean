/- If all open writes survive a crash leaves all bytes, if none does the safe ones: the plain side. -/
import Derived.Test.YtfpdfhncifcghaaM
namespace Go.Proofs.Ytfpdfhncifcghaa

theorem surv_all (n : Nat) (nb : Int) (l : List Wr) : ∀ i, i + l.length ≤ n → surv (List.replicate n true) (-1) nb i l = l := by
  induction l with
  | nil => intro i _; rfl
  | cons x l ih =>
    intro i h
    simp only [List.length_cons] at h
    rw [surv_cons, if_neg (by omega), if_pos, ih (i + 1) (by omega)]
    rw [List.getD_eq_getElem?_getD, List.getElem?_replicate, if_pos (by omega)]
    rfl
/-- The fate by which all open writes of a file survive. -/
def allFt (wv : Value) (r : Rw) : Ft := ⟨wv, -1, 0, List.replicate r.opens.length true⟩
theorem crash_all (r : Rw) (wv : Value) : crashRow r (some (allFt wv r)) = ⟨r.name, layB r.safe r.opens, .slice none 0 0, []⟩ := by
  show Rw.mk r.name (layB r.safe (surv (List.replicate r.opens.length true) (-1) 0 0 r.opens)) (.slice none 0 0) [] = _
  rw [surv_all _ _ _ 0 (by omega)]
theorem crash_none (r : Rw) : crashRow r none = ⟨r.name, r.safe, .slice none 0 0, []⟩ := rfl
theorem crashRows_none (l : List Rw) (i : Nat) (h : i < (crashRows l []).length) (hi : i < l.length) : (crashRows l [])[i].safe = l[i].safe := by
  rw [crashRows_at l [] i h hi]
  rfl
end Go.Proofs.Ytfpdfhncifcghaa
