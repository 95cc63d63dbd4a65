/- A trap and its way back, of a right processor. -/
import Derived.Test.YtbdoiomnoajnpaaOC
namespace Go.Proofs.Ytbdoiomnoajnpaa
open Go.RowKit Go.Deep Go.Joins
/-- A right processor, part by part. -/
theorem right_out (h : Hart) (hr : rightH h = true) : (x0V h == 0) = true ∧ (bits .and .u64 h.pc 1 == 0) = true ∧ modeB h.mode = true ∧ rrightB h.c = true := by
  unfold rightH at hr
  simp only [Bool.and_eq_true] at hr
  exact ⟨hr.1.1.1.1, hr.1.1.1.2, hr.1.1.2, hr.1.2⟩
theorem right_mk (h : Hart) (h0 : (x0V h == 0) = true) (h1 : (bits .and .u64 h.pc 1 == 0) = true) (h2 : modeB h.mode = true) (h3 : rrightB h.c = true) (h4 : h.rat = 0) : rightH h = true := by
  unfold rightH
  rw [h0, h1, h2, h3, h4]
  cases h.held <;> rfl
def tMid (h : Hart) (k : Nat) (it : Bool) (v : Int) : Hart := toMidF (noRes h) (toldV k it) v
def tUp (h : Hart) (k : Nat) (it : Bool) (v : Int) : Hart := toUpF (noRes h) (toldV k it) v
theorem mid_right (h : Hart) (k : Nat) (it : Bool) (v : Int) (ok : OkH h) (hr : rightH h = true) : rightH (tMid h k it v) = true := by
  obtain ⟨h0, _, _, h3⟩ := right_out h hr
  obtain ⟨a0, a1, a2, a3, a4, a5, a6, a7, a8, a9⟩ := (rright_iff h.c).1 h3
  refine right_mk _ h0 (entry_even _ _) rfl ((rright_iff _).2 ⟨(fine_iff _ (u64_bits _ _ _)).2 (mid_fine _ _ ((fine_iff _ ok.c.u0).1 a0)), a1, a2, a3, a4, a5, a6, a7, even_clear _, a9⟩) rfl
theorem up_right (h : Hart) (k : Nat) (it : Bool) (v : Int) (ok : OkH h) (hr : rightH h = true) : rightH (tUp h k it v) = true := by
  obtain ⟨h0, _, h2, h3⟩ := right_out h hr
  obtain ⟨a0, a1, a2, a3, a4, a5, a6, a7, a8, a9⟩ := (rright_iff h.c).1 h3
  refine right_mk _ h0 (entry_even _ _) rfl ((rright_iff _).2 ⟨(fine_iff _ (u64_bits _ _ _)).2 (up_fine _ _ h2 ((fine_iff _ ok.c.u0).1 a0)), a1, a2, a3, a4, a5, a6, even_clear _, a8, a9⟩) rfl
theorem mid_back_mode (h : Hart) (k : Nat) (it : Bool) (v : Int) (hr : rightH h = true) (hm : h.mode ≤ 1) : (sretF (tMid h k it v)).mode = h.mode := by
  obtain ⟨_, _, h2, _⟩ := right_out h hr
  show (if nzV (midS h.c.s0 (h.mode == 1)) 256 = true then 1 else 0) = h.mode
  rw [nz_bit _ 256 8 (by omega) mk8, mid_bit _ _ 8 (by omega)]
  unfold modeB at h2
  simp only [Bool.or_eq_true, beq_iff_eq] at h2
  rcases h2 with (e | e) | e
  · rw [e]; rfl
  · rw [e]; rfl
  · omega
theorem back_pc (h : Hart) (ok : OkH h) (hr : rightH h = true) : bits .andNot .u64 h.pc 1 = h.pc := even_same _ ok.pc (right_out h hr).2.1
theorem mid_back_bit (h : Hart) (k : Nat) (it : Bool) (v : Int) (ok : OkH h) : bits .and .u64 ((sretF (tMid h k it v)).c.s0 / 2) 1 = bits .and .u64 (h.c.s0 / 2) 1 := by
  have a := and_one (sretS (midS h.c.s0 (h.mode == 1))) (u64_bits _ _ _) 1 (by omega)
  have b := and_one h.c.s0 ok.c.u0 1 (by omega)
  have e : bitT (sretS (midS h.c.s0 (h.mode == 1))) 1 = bitT h.c.s0 1 := by
    rw [sret_bit _ 1 (by omega), mid_bit _ _ 5 (by omega)]
    rfl
  rw [e] at a
  exact a.trans b.symm
theorem mid_back_right (h : Hart) (k : Nat) (it : Bool) (v : Int) (ok : OkH h) (hr : rightH h = true) (hm : h.mode ≤ 1) : rightH (sretF (tMid h k it v)) = true := by
  obtain ⟨h0, _, h2, _⟩ := right_out h hr
  obtain ⟨_, _, _, t3⟩ := right_out _ (mid_right h k it v ok hr)
  obtain ⟨a0, a1, a2, a3, a4, a5, a6, a7, a8, a9⟩ := (rright_iff _).1 t3
  have m := mid_back_mode h k it v hr hm
  have f0 : Fine (midS h.c.s0 (h.mode == 1)) := (fine_iff (midS h.c.s0 (h.mode == 1)) (u64_bits _ _ _)).1 a0
  have f1 : (sretS (midS h.c.s0 (h.mode == 1)) == stV (sretS (midS h.c.s0 (h.mode == 1)))) = true := (fine_iff (sretS (midS h.c.s0 (h.mode == 1))) (u64_bits _ _ _)).2 (sret_fine _ f0)
  refine right_mk _ h0 (even_clear _) (by rw [m]; exact h2) ((rright_iff _).2 ⟨f1, a1, a2, a3, a4, a5, a6, a7, a8, a9⟩) rfl
theorem up_back_mode (h : Hart) (k : Nat) (it : Bool) (v : Int) (hr : rightH h = true) : (mretF (tUp h k it v)).mode = h.mode := mpp_of h.c.s0 h.mode (right_out h hr).2.2.1
theorem u64_mretS (s q : Int) : U64 (mretS s q) := by
  unfold mretS
  split <;> exact u64_bits _ _ _
theorem up_back_bit (h : Hart) (k : Nat) (it : Bool) (v : Int) (ok : OkH h) : bits .and .u64 ((mretF (tUp h k it v)).c.s0 / 8) 1 = bits .and .u64 (h.c.s0 / 8) 1 := by
  have a := and_one (mretS (upS h.c.s0 h.mode) (mppV (upS h.c.s0 h.mode))) (u64_mretS _ _) 3 (by omega)
  have b := and_one h.c.s0 ok.c.u0 3 (by omega)
  have e : bitT (mretS (upS h.c.s0 h.mode) (mppV (upS h.c.s0 h.mode))) 3 = bitT h.c.s0 3 := by
    rw [mret_bit _ _ 3 (by omega), up_bit _ _ 7 (by omega)]
    simp
  rw [e] at a
  exact a.trans b.symm
theorem up_back_right (h : Hart) (k : Nat) (it : Bool) (v : Int) (ok : OkH h) (hr : rightH h = true) : rightH (mretF (tUp h k it v)) = true := by
  obtain ⟨h0, _, h2, _⟩ := right_out h hr
  obtain ⟨_, _, _, t3⟩ := right_out _ (up_right h k it v ok hr)
  obtain ⟨a0, a1, a2, a3, a4, a5, a6, a7, a8, a9⟩ := (rright_iff _).1 t3
  have m := up_back_mode h k it v hr
  have f0 : Fine (upS h.c.s0 h.mode) := (fine_iff (upS h.c.s0 h.mode) (u64_bits _ _ _)).1 a0
  have f1 : (mretS (upS h.c.s0 h.mode) (mppV (upS h.c.s0 h.mode)) == stV (mretS (upS h.c.s0 h.mode) (mppV (upS h.c.s0 h.mode)))) = true := (fine_iff (mretS (upS h.c.s0 h.mode) (mppV (upS h.c.s0 h.mode))) (u64_mretS _ _)).2 (mret_fine _ _ f0)
  refine right_mk _ h0 (even_clear _) (by rw [m]; exact h2) ((rright_iff _).2 ⟨f1, a1, a2, a3, a4, a5, a6, a7, a8, a9⟩) rfl
/-! Both ways back of the program, as one contract each. -/
theorem mret_any (h : Hart) (hm : h.mode = 3) (W : World) : Calls Try.prog 12 #[hartV h] W fun e W' => e = .returned (.tuple #[hartV (mretF h), .bool true]) ∧ Below W.heap.size W W' := by
  have e : (h.mode != 3) = false := by rw [hm]; rfl
  rcases Bool.eq_false_or_eq_true (mppV h.c.s0 != 3) with q | q
  · exact mret_true h e q W
  · exact mret_false h e q W
theorem sret_any (h : Hart) (hm : ¬ h.mode < 1) (W : World) : Calls Try.prog 14 #[hartV h] W fun e W' => e = .returned (.tuple #[hartV (sretF h), .bool true]) ∧ Below W.heap.size W W' := by
  rcases Bool.eq_false_or_eq_true (nzV h.c.s0 256) with q | q
  · exact sret_true h hm q W
  · exact sret_false h hm q W
theorem rmret_any (h : Hart) (hm : h.mode = 3) (W : World) : Calls Try.prog 13 #[hartV h] W fun e W' => e = .returned (.tuple #[hartV (rmretF h), .bool true]) ∧ Below W.heap.size W W' := by
  have e : (h.mode != 3) = false := by rw [hm]; rfl
  rcases Bool.eq_false_or_eq_true (rmppV h.c.s0 != 3) with q | q
  · exact rmret_true h e q W
  · exact rmret_false h e q W
theorem rsret_any (h : Hart) (hm : ¬ h.mode < 1) (W : World) : Calls Try.prog 15 #[hartV h] W fun e W' => e = .returned (.tuple #[hartV (rsretF h), .bool true]) ∧ Below W.heap.size W W' := by
  rcases Bool.eq_false_or_eq_true (bV h.c.s0 256) with q | q
  · exact rsret_true h hm q W
  · exact rsret_false h hm q W
theorem rtake_any (h : Hart) (k : Nat) (it : Bool) (v : Int) (hk : k ≤ 63) (W : World) : Calls Try.prog 11 #[hartV h, .int .i64 k, .bool it, .int .u64 v] W fun e W' => e = .returned (hartV (rtakeF h k it v)) ∧ Below W.heap.size W W' := by
  unfold rtakeF
  by_cases hm : h.mode ≤ 1
  · rcases Bool.eq_false_or_eq_true (bV (if it = true then h.c.s2 else h.c.s1) (2 ^ k)) with hb | hb
    · have e : rhandV h k it = true := by unfold rhandV; rw [hb]; simp [hm]
      rw [if_pos e]
      cases it
      · exact rtake_rMidF_false_hm h k v hk hm hb W
      · exact rtake_rMidF_true_hm h k v hk hm hb W
    · have e : rhandV h k it = false := by unfold rhandV; rw [hb]; simp
      rw [if_neg (by rw [e]; decide)]
      cases it
      · exact rtake_rUpF_false_b h k v hk hm hb W
      · exact rtake_rUpF_true_b h k v hk hm hb W
  · have e : rhandV h k it = false := by unfold rhandV; simp [hm]
    rw [if_neg (by rw [e]; decide)]
    cases it
    · exact rtake_rUpF_false_a h k v hk hm W
    · exact rtake_rUpF_true_a h k v hk hm W

end Go.Proofs.Ytbdoiomnoajnpaa
