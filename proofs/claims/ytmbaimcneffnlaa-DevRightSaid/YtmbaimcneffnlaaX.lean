/- Check of the reference. -/
import Derived.Test.YtmbaimcneffnlaaW
namespace Go.Proofs.Ytmbaimcneffnlaa
open Go.RowKit Go.Deep Go.Joins
def chkB (n : Nat) (M : List Int) (E : Int) : Bool := decide (1 ≤ M.length ∧ M.length ≤ 256 ∧ n = M.length * 256) && M.all fun m => decide (m ≤ E)
def chkV (n : Nat) (M : List Int) (E : Int) : Int := if chkB n M E then 0 else 50
theorem chk_no1 {n : Nat} {M : List Int} {E : Int} (h : ¬ (1 ≤ M.length ∧ M.length ≤ 256 ∧ n = M.length * 256)) : chkV n M E = 50 := by
  unfold chkV chkB; simp only [h, decide_false, Bool.false_and, Bool.false_eq_true, if_false]
theorem chk_no2 {n : Nat} {M : List Int} {E : Int} (j : Nat) (hj : j < M.length) (h : E < M[j]) : chkV n M E = 50 := by
  have : (M.all fun m => decide (m ≤ E)) = false := by
    rw [List.all_eq_false]
    exact ⟨M[j], List.getElem_mem _, by simp; omega⟩
  unfold chkV chkB; rw [this]; simp
theorem chk_yes {n : Nat} {M : List Int} {E : Int} (h : 1 ≤ M.length ∧ M.length ≤ 256 ∧ n = M.length * 256) (h2 : ∀ j (hj : j < M.length), M[j] ≤ E) : chkV n M E = 0 := by
  have : (M.all fun m => decide (m ≤ E)) = true := by
    rw [List.all_eq_true]
    intro m hm
    obtain ⟨j, hj, rfl⟩ := List.getElem_of_mem hm
    exact decide_eq_true (h2 j hj)
  unfold chkV chkB; rw [this]; simp [h]
set_option maxHeartbeats 2000000 in
theorem rcheck_no (p : Option Addr) (n cap : Nat) (q : Option Addr) (cap2 : Nat) (E : Int) (M : List Int) (w : World) (hM : M.length ≤ 9223372036854775807) (h : ¬ (1 ≤ M.length ∧ M.length ≤ 256 ∧ n = M.length * 256)) :
    Calls Try.prog 24 #[.agg #[.slice p n cap, .slice q M.length cap2, .int .u64 E]] w fun e w' => e = .returned (.int .i64 50) ∧ Below w.heap.size w w' := by
  by_cases h1 : M.length < 1
  · go_enter Try.func24, Try.ntmps24
    go_wp2
    go_ret
    exact ⟨rfl, below1 w _⟩
  by_cases h2 : 256 < M.length
  · go_enter Try.func24, Try.ntmps24
    go_wp2
    go_ret
    exact ⟨rfl, below1 w _⟩
  · have h3 : ((n : Int) != 256 * (M.length : Int)) = true := by rw [bne_iff_ne]; omega
    clear h
    go_enter Try.func24, Try.ntmps24
    go_wp2
    go_ret
    exact ⟨rfl, below1 w _⟩
set_option maxHeartbeats 2000000 in
theorem rcheck_in (p : Option Addr) (n cap : Nat) (mv : Value) (E : Int) (M : List Int) (w : World) (hm : MAt w mv M) (h : 1 ≤ M.length ∧ M.length ≤ 256 ∧ n = M.length * 256) :
    Calls Try.prog 24 #[.agg #[.slice p n cap, mv, .int .u64 E]] w fun e w' => e = .returned (.int .i64 (chkV n M E)) ∧ Below w.heap.size w w' := by
  obtain ⟨b, off, cap2, rfl, _, _, hb, hc⟩ := hm.cell (by omega)
  have hc1 := hc
  have h1 : ¬ (M.length < 1) := by omega
  have h2 : ¬ (256 < M.length) := by omega
  have h3 : ((n : Int) != 256 * (M.length : Int)) = false := by rw [bne_eq_false_iff_eq]; omega
  have HH := Lib.hid h
  have HC := Lib.hid hc
  clear h hc hc1 hm
  go_enter Try.func24, Try.ntmps24
  go_wp2_with fail
  go_loopw [3] (fun i wr => ∃ j : Nat, j ≤ M.length ∧ i = .int .i64 j ∧ Hid (RamVar wr w.heap.size (.slice p n cap) (.slice (some ⟨b, off, none⟩) M.length cap2) E ∧ Below w.heap.size w wr) ∧ Hid (∀ k (hk : k < M.length), k < j → M[k] ≤ E)) (fun i _ => M.length - (intOf i).toNat)
  case atStart => exact ⟨0, Nat.zero_le _, rfl, Lib.hid ⟨heap_alloc_new _ _, below1 w _⟩, Lib.hid (fun k _ hk => absurd hk (Nat.not_lt_zero _))⟩
  case round =>
    obtain ⟨j, hj, rfl, hbx, hall⟩ := hrel
    obtain ⟨x0, x1, x2⟩ := hbx.out.1.cells
    have hnext : ∀ m, Hid (RamVar (wr.drewN m) w.heap.size (.slice p n cap) (.slice (some ⟨b, off, none⟩) M.length cap2) E ∧ Below w.heap.size w (wr.drewN m)) := fun m => Lib.hid ⟨hbx.out.1, hbx.out.2.trans ⟨rfl, rfl, rfl, Nat.le_refl _, fun _ _ => rfl⟩⟩
    have HNX := Lib.hid hnext
    clear hnext
    by_cases hlt : j < M.length
    · have c1 := hbx.out.2.cell (p := ⟨b, off + j, none⟩) hb
      rw [HC.out j hlt] at c1
      have HN := Lib.hid (fun h => chk_no2 (n := n) (M := M) (E := E) j hlt h)
      have HS := Lib.hid (show M[j] ≤ E → ∀ k (hk : k < M.length), k < j + 1 → M[k] ≤ E from fun h k hk hkj => by
        by_cases e : k < j
        · exact hall.out k hk e
        · obtain rfl : k = j := by omega
          exact h)
      generalize M[j] = X at *
      by_cases hx : E < X
      · go_wp2_with fail
        go_quiet (fail)
        go_wp2_with fail
        go_ret
        exact ⟨ret_int (HN.out hx).symm, (HNX.out _).out.2⟩
      · go_wp2_with fail
        go_quiet (fail)
        go_wp2_with fail
        exact ⟨⟨j + 1, by omega, by go_num, HNX.out _, Lib.hid (HS.out (by omega))⟩, by simp [intOf]; omega⟩
    · go_wp2_with fail
      go_ret
      exact ⟨ret_int (chk_yes HH.out (fun k hk => hall.out k hk (by omega))).symm, hbx.out.2⟩
theorem rcheck_any (p : Option Addr) (n cap : Nat) (mv : Value) (E : Int) (M : List Int) (w : World) (hm : MAt w mv M) :
    Calls Try.prog 24 #[.agg #[.slice p n cap, mv, .int .u64 E]] w fun e w' => e = .returned (.int .i64 (chkV n M E)) ∧ Below w.heap.size w w' := by
  by_cases h : 1 ≤ M.length ∧ M.length ≤ 256 ∧ n = M.length * 256
  · exact rcheck_in p n cap mv E M w hm h
  · obtain ⟨q, cap2, rfl⟩ := hm.is
    rw [chk_no1 h]
    exact rcheck_no p n cap q cap2 E M w hm.le h
end Go.Proofs.Ytmbaimcneffnlaa
