/- The fixed facts in which each statement begins. -/
import Derived.Test.YtfpdfhncifcghaaV
namespace Go.Proofs.Ytfpdfhncifcghaa
open Go.RowKit

def nX : ByteArray := ⟨#[120]⟩
def awOps : List DOp := [⟨1, ⟨#[120]⟩, 0, ⟨#[97, 98]⟩⟩, ⟨2, ⟨#[120]⟩, 0, ⟨#[]⟩⟩, ⟨1, ⟨#[120]⟩, 1, ⟨#[88, 89]⟩⟩]
theorem aw_do : doF [] awOps = ([⟨⟨#[120]⟩, ⟨#[97, 98]⟩, [⟨1, ⟨#[88, 89]⟩⟩]⟩], 3, 0) := by kernel_rfl
theorem aw_lay : layB ⟨#[97, 98]⟩ [⟨1, ⟨#[88, 89]⟩⟩] = ⟨#[97, 88, 89]⟩ := by kernel_rfl
theorem aw_same : sameN ⟨#[120]⟩ ⟨#[120]⟩ = true := by kernel_rfl
theorem aw_surv (x : List Wr) : surv [] (-1) 0 0 x = [] := by
  have : ∀ (i : Nat) (l : List Wr), surv [] (-1) 0 i l = [] := by
    intro i l
    induction l generalizing i with
    | nil => rfl
    | cons y l ih => rw [surv_cons, if_neg (by omega), if_neg (by simp), ih]
  exact this 0 x
def awRow (ov : Value) : Rw := ⟨⟨#[120]⟩, ⟨#[97, 98]⟩, ov, [⟨1, ⟨#[88, 89]⟩⟩]⟩
theorem fits_one {l : List Rw} (h : l.map core = [⟨⟨#[120]⟩, ⟨#[97, 98]⟩, [⟨1, ⟨#[88, 89]⟩⟩]⟩]) : ∃ ov, l = [awRow ov] := by
  cases l with
  | nil => cases h
  | cons r l =>
    cases l with
    | cons s l => simp at h
    | nil =>
      obtain ⟨n, s, ov, o⟩ := r
      simp only [List.map_cons, List.map_nil, List.cons.injEq, core, Fl.mk.injEq, and_true] at h
      obtain ⟨rfl, rfl, rfl⟩ := h
      exact ⟨ov, rfl⟩
theorem aw_okay (ov : Value) : Okay [awRow ov] := by
  intro r hr
  rw [List.mem_singleton] at hr
  subst hr
  refine ⟨show (2 : Nat) ≤ _ by omega, fun x hx => ?_, show 1 * 24 ≤ _ by omega⟩
  have hx' : x ∈ [(⟨1, ⟨#[88, 89]⟩⟩ : Wr)] := hx
  rw [List.mem_singleton] at hx'
  subst hx'
  exact show (2 : Nat) ≤ _ by omega
theorem aw_idx (r : Rw) (h : r.name = ⟨#[120]⟩) : idx (sameName ⟨#[120]⟩) [r] = ((0 : Nat) : Int) :=
  idx_some (l := [r]) (k := 0) (by simp) (fun j _ hj => absurd hj (Nat.not_lt_zero _)) (by show sameN r.name ⟨#[120]⟩ = true; rw [h]; exact aw_same)
theorem fits_none : FitsF (([] : List Rw).map core) 0 0 := by
  refine ⟨Nat.le_refl _, ?_, ?_, ?_⟩ <;> intro f h <;> cases h
def awFt : Ft := ⟨.slice none 0 0, -1, 0, []⟩
def awRow2 : Rw := ⟨⟨#[120]⟩, ⟨#[97, 98]⟩, .slice none 0 0, []⟩
theorem aw_crash (ov : Value) : crashRows [awRow ov] [awFt] = [awRow2] := by
  have h : survOf (awRow ov) (some awFt) = [] := aw_surv _
  have e : crashRows [awRow ov] [awFt] = [crashRow (awRow ov) (some awFt)] := rfl
  rw [e]
  unfold crashRow
  rw [h]
  rfl
theorem aw_okay2 : Okay [awRow2] := by
  intro r hr
  rw [List.mem_singleton] at hr
  subst hr
  exact ⟨show (2 : Nat) ≤ _ by omega, (fun x hx => by cases hx), show 0 * 24 ≤ _ by omega⟩
theorem reads_nil (w : World) (size : Nat) : Reads w (.slice none 0 0) size 0 [] := ⟨by simp, .inl ⟨rfl, rfl⟩⟩

set_option maxHeartbeats 1000000 in
theorem awake_any (w : World) : Calls Try.prog 9 #[] w fun e w' => e = .returned (.bool true) ∧ Below w.heap.size w w' := by
  go_enter Try.func9, Try.ntmps9
  go_wp2_with fail
  refine (do_any [] (.slice none 0 0) awOps _ 0 0 _ (reads_nil _ 3) (fun r h => by cases h) ⟨rfl, .inr ⟨⟨w.heap.size, 0, none⟩, 3, rfl, Nat.le_refl _, by unfold maxLen; decide, fun j u hu => ?_⟩⟩ fits_none (by decide) (by decide) ?_).mono ?_
  · rw [add_lit, Nat.zero_add, cell_of_row _ _ j _ 53 (0, 0) (heap_alloc_new w _)]
    rw [List.getElem?_toArray]
    exact hu
  · intro o ho
    simp only [awOps, List.mem_cons, List.not_mem_nil, or_false] at ho
    rcases ho with rfl | rfl | rfl <;> decide
  rintro e w1 ⟨v1, l1, rfl, hc, hD, hb⟩
  simp only [List.map_nil, aw_do] at hc ⊢
  obtain ⟨ov, rfl⟩ := fits_one hc
  obtain ⟨q1, qc1, rfl⟩ := owns_shape hD.1
  have HD := Lib.hid hD
  have HB := Lib.hid (below_then (below1 w _) hb)
  clear hc hD hb
  go_wp2_with fail
  have hD2 := HD.out.below (below1 w1 (.cells #[.slice q1 1 qc1] 24))
  refine (bytes_some [awRow ov] (.slice q1 1 qc1) ⟨#[120]⟩ _ 0 (by simp) hD2.reads hD2.opens (aw_okay ov) (show (1 : Nat) ≤ _ by omega) (aw_idx _ rfl)).mono ?_
  rintro e w2 ⟨rfl, hb2⟩
  have e2 : layB ([awRow ov][0]).safe ([awRow ov][0]).opens = ⟨#[97, 88, 89]⟩ := aw_lay
  rw [e2]
  have hs2 := hb2.size
  simp only [World.size_alloc] at hs2
  have c2 := hb2.cell (p := ⟨w1.heap.size, 0, none⟩) (by simp)
  have HB2 := Lib.hid (below_then (below1 w1 (.cells #[.slice q1 1 qc1] 24)) hb2)
  have HD2 := Lib.hid (hD2.below hb2)
  clear hD2 hb2 e2
  go_wp2_with fail
  obtain ⟨p5, c5, hov5⟩ := owns_shape (HD2.out.2.1 (awRow ov) (by simp))
  have hone5 : ∀ r ∈ [awRow ov], r.ov.oneCell' = true := fun r hr => by
    rw [List.mem_singleton] at hr
    subst hr
    rw [hov5]; rfl
  have hD3 := HD2.out.below (below1 w2 (.cells #[.slice none 0 0, .int .i64 (-1), .int .i64 0] 50))
  refine (crash_any [awRow ov] (.slice q1 1 qc1) [awFt] (.slice (some ⟨w2.heap.size, 0, none⟩) 1 1) _ hD3.reads hD3.opens ⟨rfl, .inr ⟨⟨w2.heap.size, 0, none⟩, 1, rfl, Nat.le_refl _, by unfold maxLen; decide, fun j u hu => ?_⟩⟩ (fun r hr => ?_) (aw_okay ov) (show 1 * 56 ≤ _ by omega) hone5 (show (1 : Nat) ≤ _ by omega)).mono ?_
  · rw [add_lit, Nat.zero_add, cell_of_row _ _ j _ 50 (0, 0) (heap_alloc_new w2 _), List.getElem?_toArray]
    exact hu
  · rw [List.mem_singleton] at hr
    subst hr
    exact reads_nil _ 1
  rintro e w3 ⟨v3, rfl, ho3, hb3⟩
  rw [aw_crash] at ho3
  have HB3 := Lib.hid (below_then (below1 w2 (.cells #[.slice none 0 0, .int .i64 (-1), .int .i64 0] 50)) hb3)
  have HO3 := Lib.hid ho3
  clear hD3 hb3 ho3 hone5 hov5
  go_wp2_with fail
  refine (bytes_some [awRow2] v3 ⟨#[120]⟩ _ 0 (by simp) (reads_of_owns HO3.out) (fun r hr => ?_) aw_okay2 (show (1 : Nat) ≤ _ by omega) (aw_idx _ rfl)).mono ?_
  · rw [List.mem_singleton] at hr
    subst hr
    exact reads_nil _ 2
  rintro e w4 ⟨rfl, hb4⟩
  have e4 : layB ([awRow2][0]).safe ([awRow2][0]).opens = ⟨#[97, 98]⟩ := rfl
  rw [e4]
  have HB4 := Lib.hid hb4
  clear hb4 e4
  go_wp2_with fail
  go_ret
  exact ⟨rfl, below_then HB.out (below_then HB2.out (below_then HB3.out HB4.out))⟩
end Go.Proofs.Ytfpdfhncifcghaa
