/- The reference's instruction of a word (my own, from the seat of package decode), JS. -/
import Derived.Test.YtdodbfpahmkpbaaJP
namespace Go.Proofs.Ytdodbfpahmkpbaa
open Go.RowKit Go.Deep Go.Joins
def rOI (w : Nat) : Int × Int :=
  if cutN w 0 7 = 55 then (1, immU w)
  else if cutN w 0 7 = 23 then (2, immU w)
  else if cutN w 0 7 = 111 then (3, immJ w)
  else if cutN w 0 7 = 103 then (r4 (cutN w 12 3), immI w)
  else if cutN w 0 7 = 99 then (row 0 (cutN w 12 3), immB w)
  else if cutN w 0 7 = 3 then (row 1 (cutN w 12 3), immI w)
  else if cutN w 0 7 = 35 then (row 2 (cutN w 12 3), immS w)
  else if cutN w 0 7 = 19 then ((rQuick w (cutN w 12 3)).1, (rQuick w (cutN w 12 3)).2)
  else if cutN w 0 7 = 27 then ((rQW w (cutN w 12 3)).1, (rQW w (cutN w 12 3)).2)
  else if cutN w 0 7 = 51 then (op33 (cutN w 12 3) (cutN w 25 7), 0)
  else if cutN w 0 7 = 59 then (op3b (cutN w 12 3) (cutN w 25 7), 0)
  else if cutN w 0 7 = 15 then (row 3 (cutN w 12 3), 0)
  else if cutN w 0 7 = 47 then (rAtom w (cutN w 12 3), 0)
  else if cutN w 0 7 = 115 then ((rSys w (cutN w 12 3)).1, (rSys w (cutN w 12 3)).2)
  else (0, 0)
theorem rOI_55 {w : Nat} (e : cutN w 0 7 = 55) : rOI w = (1, immU w) := by
  unfold rOI; rw [if_pos e]
theorem rOI_23 {w : Nat} (e : cutN w 0 7 = 23) : rOI w = (2, immU w) := by
  unfold rOI; rw [if_neg (by omega), if_pos e]
theorem rOI_111 {w : Nat} (e : cutN w 0 7 = 111) : rOI w = (3, immJ w) := by
  unfold rOI; rw [if_neg (by omega), if_neg (by omega), if_pos e]
theorem rOI_103 {w : Nat} (e : cutN w 0 7 = 103) : rOI w = (r4 (cutN w 12 3), immI w) := by
  unfold rOI; rw [if_neg (by omega), if_neg (by omega), if_neg (by omega), if_pos e]
theorem rOI_99 {w : Nat} (e : cutN w 0 7 = 99) : rOI w = (row 0 (cutN w 12 3), immB w) := by
  unfold rOI; rw [if_neg (by omega), if_neg (by omega), if_neg (by omega), if_neg (by omega), if_pos e]
theorem rOI_3 {w : Nat} (e : cutN w 0 7 = 3) : rOI w = (row 1 (cutN w 12 3), immI w) := by
  unfold rOI; rw [if_neg (by omega), if_neg (by omega), if_neg (by omega), if_neg (by omega), if_neg (by omega), if_pos e]
theorem rOI_35 {w : Nat} (e : cutN w 0 7 = 35) : rOI w = (row 2 (cutN w 12 3), immS w) := by
  unfold rOI; rw [if_neg (by omega), if_neg (by omega), if_neg (by omega), if_neg (by omega), if_neg (by omega), if_neg (by omega), if_pos e]
theorem rOI_19 {w : Nat} (e : cutN w 0 7 = 19) : rOI w = ((rQuick w (cutN w 12 3)).1, (rQuick w (cutN w 12 3)).2) := by
  unfold rOI; rw [if_neg (by omega), if_neg (by omega), if_neg (by omega), if_neg (by omega), if_neg (by omega), if_neg (by omega), if_neg (by omega), if_pos e]
theorem rOI_27 {w : Nat} (e : cutN w 0 7 = 27) : rOI w = ((rQW w (cutN w 12 3)).1, (rQW w (cutN w 12 3)).2) := by
  unfold rOI; rw [if_neg (by omega), if_neg (by omega), if_neg (by omega), if_neg (by omega), if_neg (by omega), if_neg (by omega), if_neg (by omega), if_neg (by omega), if_pos e]
theorem rOI_51 {w : Nat} (e : cutN w 0 7 = 51) : rOI w = (op33 (cutN w 12 3) (cutN w 25 7), 0) := by
  unfold rOI; rw [if_neg (by omega), if_neg (by omega), if_neg (by omega), if_neg (by omega), if_neg (by omega), if_neg (by omega), if_neg (by omega), if_neg (by omega), if_neg (by omega), if_pos e]
theorem rOI_59 {w : Nat} (e : cutN w 0 7 = 59) : rOI w = (op3b (cutN w 12 3) (cutN w 25 7), 0) := by
  unfold rOI; rw [if_neg (by omega), if_neg (by omega), if_neg (by omega), if_neg (by omega), if_neg (by omega), if_neg (by omega), if_neg (by omega), if_neg (by omega), if_neg (by omega), if_neg (by omega), if_pos e]
theorem rOI_15 {w : Nat} (e : cutN w 0 7 = 15) : rOI w = (row 3 (cutN w 12 3), 0) := by
  unfold rOI; rw [if_neg (by omega), if_neg (by omega), if_neg (by omega), if_neg (by omega), if_neg (by omega), if_neg (by omega), if_neg (by omega), if_neg (by omega), if_neg (by omega), if_neg (by omega), if_neg (by omega), if_pos e]
theorem rOI_47 {w : Nat} (e : cutN w 0 7 = 47) : rOI w = (rAtom w (cutN w 12 3), 0) := by
  unfold rOI; rw [if_neg (by omega), if_neg (by omega), if_neg (by omega), if_neg (by omega), if_neg (by omega), if_neg (by omega), if_neg (by omega), if_neg (by omega), if_neg (by omega), if_neg (by omega), if_neg (by omega), if_neg (by omega), if_pos e]
theorem rOI_115 {w : Nat} (e : cutN w 0 7 = 115) : rOI w = ((rSys w (cutN w 12 3)).1, (rSys w (cutN w 12 3)).2) := by
  unfold rOI; rw [if_neg (by omega), if_neg (by omega), if_neg (by omega), if_neg (by omega), if_neg (by omega), if_neg (by omega), if_neg (by omega), if_neg (by omega), if_neg (by omega), if_neg (by omega), if_neg (by omega), if_neg (by omega), if_neg (by omega), if_pos e]
theorem rOI_no {w : Nat} (n55 : ¬ cutN w 0 7 = 55) (n23 : ¬ cutN w 0 7 = 23) (n111 : ¬ cutN w 0 7 = 111) (n103 : ¬ cutN w 0 7 = 103) (n99 : ¬ cutN w 0 7 = 99) (n3 : ¬ cutN w 0 7 = 3) (n35 : ¬ cutN w 0 7 = 35) (n19 : ¬ cutN w 0 7 = 19) (n27 : ¬ cutN w 0 7 = 27) (n51 : ¬ cutN w 0 7 = 51) (n59 : ¬ cutN w 0 7 = 59) (n15 : ¬ cutN w 0 7 = 15) (n47 : ¬ cutN w 0 7 = 47) (n115 : ¬ cutN w 0 7 = 115) : rOI w = (0, 0) := by
  unfold rOI; rw [if_neg n55, if_neg n23, if_neg n111, if_neg n103, if_neg n99, if_neg n3, if_neg n35, if_neg n19, if_neg n27, if_neg n51, if_neg n59, if_neg n15, if_neg n47, if_neg n115]
theorem five {w1 w2 : World} {a b c d e : Value} (hb : Below (w1.alloc (.cells #[a, b, c, d, e] 30)).heap.size (w1.alloc (.cells #[a, b, c, d, e] 30)) w2) :
    w2.cell? ⟨w1.heap.size, 0, none⟩ = some a ∧ w2.cell? ⟨w1.heap.size, 1, none⟩ = some b ∧ w2.cell? ⟨w1.heap.size, 2, none⟩ = some c ∧ w2.cell? ⟨w1.heap.size, 3, none⟩ = some d ∧ w2.cell? ⟨w1.heap.size, 4, none⟩ = some e ∧ w1.heap.size < w2.heap.size := by
  have hl : w1.heap.size < (w1.alloc (.cells #[a, b, c, d, e] 30)).heap.size := by simp
  have hc := fun i => hb.cell (p := ⟨w1.heap.size, i, none⟩) hl
  exact ⟨(hc 0).trans (by simp), (hc 1).trans (by simp), (hc 2).trans (by simp), (hc 3).trans (by simp), (hc 4).trans (by simp), Nat.lt_of_lt_of_le hl hb.size⟩
end Go.Proofs.Ytdodbfpahmkpbaa
