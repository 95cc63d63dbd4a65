/- Laws of no program: append of any source to a row of the call's own, as a step of a region that draws its order; and what a list of operations leaves, by its sizes. -/
import Derived.Test.YtfpdfhncifcghaaNa
import Derived.Test.YtfpdfhncifcghaaPa
import Derived.Laws.AppendOwnNone
namespace Go
open Go.RowKit

theorem step_append_reads {P : Program} {ops : Array Oper} {o : Oper} {a : Act} {w : World} {K : Act → World → Prop} {Q : Exit → Act → World → Prop} {E : Prop} (hgd : o.guard = none) (s x : Operand) (t : TypeId)
    (ho : o.op = .call { callee := .builtin .append, args := #[s, x], argTypes := #[t, t] })
    (base : Nat) (e : TypeId) (i : TypeInfo) (z : Value) (size bytes : Nat) (ht : P.underlying t = some (.slice e)) (hi : P.info? e = some i) (hz : i.zero = some z)
    (hsize : i.size = size) (hby : i.bytes = bytes) (hzs : z.cells.size = size) (hsz : 0 < size)
    (v : Value) (n : Nat) (xs : List Value) (hs : a.eval s = v) (hown : w.ownsRow base e size v n xs)
    (src : Value) (m : Nat) (cells : List Value) (hx : a.eval x = src) (hr : Proofs.Ytfpdfhncifcghaa.Reads w src size m cells) (h1 : ∀ u ∈ cells, u.oneCell' = true)
    (h63 : n + m ≤ maxLen) (hbytes : (n + m) * bytes ≤ 140737488355328) (hbase : base ≤ w.heap.size)
    (h : ∀ p cap w', Hid (w'.ownsRow base e size (.slice p (n + m) cap) (n + m) (xs ++ cells)) → w.grownBy w' v.ownBlock → K (a.put o.dst (.slice p (n + m) cap)) w') :
    if Region.wanted o (yielded ops a.tmps) = true then Oper.wp P o a w K Q else E := by
  obtain ⟨hl, hr⟩ := hr
  rcases hr with ⟨rfl, rfl⟩ | ⟨ad, cap, rfl, _, _, hc⟩
  · have hnil : cells = [] := List.eq_nil_of_length_eq_zero (by simpa using hl)
    subst hnil
    have hw : Region.wanted o (yielded ops a.tmps) = true := by simp [Region.wanted, hgd]
    rw [if_pos hw]
    have hrun := run_append_owned_none (P := P) (w := w) base t o.type e i size ht hi v n xs hown
    unfold Oper.wp
    simp [execOp, ho, resolve, invoke, builtin, hs, hx, hrun, Result.andThen]
    obtain ⟨p, cap, rfl⟩ : ∃ p cap, v = .slice p n cap := by
      rcases hown.2 with ⟨h1, h2⟩ | ⟨g, cap, _, h1, _⟩
      · exact ⟨_, _, h2 ▸ h1⟩
      · exact ⟨_, _, h1⟩
    refine h p cap w ?_ ⟨rfl, rfl, rfl, Nat.le_refl _, fun _ _ _ => rfl⟩
    show w.ownsRow base e size _ _ _
    rw [List.append_nil]
    exact hown
  · exact step_append_own2 hgd s x t ho base e i z size bytes ht hi hz hsize hby hzs hsz v n xs hs hown ad m cap cells hx hl hc h1 h63 hbytes hbase fun p cap w' h2 h3 _ => h p cap w' h2 h3

end Go
namespace Go.Proofs.Ytfpdfhncifcghaa

theorem doF_le (a : List DOp) : ∀ fs, 0 ≤ (doF fs a).2.1 ∧ (doF fs a).2.1 ≤ (a.length : Int) := by
  induction a with
  | nil => intro fs; simp [doF_nil]
  | cons o r ih =>
    intro fs
    rw [doF_cons]
    split
    · simp only [List.length_cons]; omega
    · have := ih (changeF fs o).1
      simp only [List.length_cons]
      omega
theorem doF_fits (a : List DOp) : ∀ fs n m, FitsF fs n m → FitsF (doF fs a).1 (n + a.length) (m + a.length) := by
  induction a with
  | nil => intro fs n m h; exact h
  | cons o r ih =>
    intro fs n m h
    have h1 := changeF_fits h o
    rw [doF_cons]
    split
    · exact fits_more h1 (by simp only [List.length_cons]; omega) (by simp only [List.length_cons]; omega)
    · have := ih _ _ _ h1
      exact fits_more this (by simp only [List.length_cons]; omega) (by simp only [List.length_cons]; omega)
theorem dop_one (l : List DOp) : ∀ u ∈ dopCells l, u.oneCell' = true := by
  intro u hu
  obtain ⟨r, _, hu⟩ := List.mem_flatMap.1 hu
  simp only [List.mem_cons, List.not_mem_nil, or_false] at hu
  rcases hu with rfl | rfl | rfl | rfl <;> rfl
theorem dopCells_append (a b : List DOp) : dopCells (a ++ b) = dopCells a ++ dopCells b := by simp [dopCells]
theorem opens_of_ownE {w : World} {B : Nat} {v : Value} {l : List Rw} (h : OwnE w B v l) : Opens w l := fun r hr => reads_of_owns (h.2.1 r hr)
/-- An empty row that is the call's own. -/
theorem owns_empty {w : World} {B g : Nat} {e : TypeId} {size : Nat} (hg : w.heap[g]? = some (.cells #[] e (0, 0))) (hB : B ≤ g) : w.ownsRow B e size (.slice (some ⟨g, 0, none⟩) 0 0) 0 [] :=
  ⟨by simp, .inr ⟨g, 0, #[], rfl, hB, hg, Nat.le_refl _, Nat.zero_le _, by simp, by simp⟩⟩
theorem VarAt.grown {w w' : World} {b : Nat} {v : Value} {B n size : Nat} {e : TypeId} {u : Value} {xs : List Value} (h : VarAt w b v) (ho : w.ownsRow B e size u n xs) (hne : e ≠ 24) (hg : w.grownBy w' u.ownBlock) : VarAt w' b v :=
  (hg.block b h.lt (fun e => not_at ho h hne e.symm)).trans h
end Go.Proofs.Ytfpdfhncifcghaa
