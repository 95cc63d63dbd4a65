/- Pending of the reference. -/
import Derived.Test.YtbdoiomnoajnpaaD
import Derived.Test.YtbdoiomnoajnpaaI
namespace Go.Proofs.Ytbdoiomnoajnpaa
open Go.RowKit Go.Deep Go.Joins
theorem allow_any (h : Hart) (l : Int) (W : World) : Calls Try.prog 21 #[hartV h, .int .u64 l] W fun e W' => e = .returned (.tuple #[.int .u64 (rtopV h l), .int .u64 (rlowV h l)]) ∧ Below W.heap.size W W' := by
  by_cases h3 : h.mode = 3
  · have e2 : rlowV h l = 0 := if_pos (by rw [h3]; rfl)
    rw [e2]
    rcases Bool.eq_false_or_eq_true (bV h.c.s0 8) with hb | hb
    · have e1 : rtopV h l = topV h l := if_neg (by rw [h3, hb]; decide)
      rw [e1]; exact allow_at h l h3 hb W
    · have e1 : rtopV h l = 0 := if_pos (by rw [h3, hb]; rfl)
      rw [e1]; exact allow_af h l h3 hb W
  · have e1 : rtopV h l = topV h l := if_neg (by simp [h3])
    rw [e1]
    by_cases h1 : 1 < h.mode
    · have e2 : rlowV h l = 0 := if_pos (by simp [h1])
      rw [e2]; exact allow_b h l h3 h1 W
    · by_cases hm : h.mode = 1
      · rcases Bool.eq_false_or_eq_true (bV h.c.s0 2) with hb | hb
        · have e2 : rlowV h l = lowV h l := if_neg (by rw [hm, hb]; decide)
          rw [e2]; exact allow_ct h l hm hb W
        · have e2 : rlowV h l = 0 := if_pos (by rw [hm, hb]; rfl)
          rw [e2]; exact allow_cf h l hm hb W
      · have e2 : rlowV h l = lowV h l := if_neg (by simp [h1, hm])
        rw [e2]; exact allow_d h l (by omega) W
set_option maxHeartbeats 1000000 in
theorem rpend_y (h : Hart) (l : Int) (hk : 0 ≤ rfirstV (rtopV h l)) (W : World) : Calls Try.prog 9 #[hartV h, .int .u64 l] W fun e W' => e = .returned (.int .i64 (rpendV h l)) ∧ Below W.heap.size W W' := by
  have HE : RowKit.Hid (rpendV h l = rfirstV (rtopV h l)) := Lib.hid (if_pos hk)
  go_enter Try.func9, Try.ntmps9
  go_wp2_with (first | (with_reducible show wpList _ _ _ (⟨some 9, Op.load 27 (.tmp 2), 27, _, _, none⟩ :: _) _ _; refine wpList_load_by rfl rfl (Box.load (Box.new W h)) rfl ?_) | (go_at_call 21; (with_reducible refine (allow_any h l _).mono ?_); rintro e w1 ⟨rfl, k1⟩) | (go_at_call 22; (with_reducible refine (rfirst_any _ _).mono ?_); rintro e w' ⟨rfl, rfl⟩) | fail)
  go_ret
  exact ⟨ret_int HE.out.symm, below_then ((Below.refl _ _).alloc (Nat.le_refl _) (hartO h)) (Nat.le_refl _) k1⟩
set_option maxHeartbeats 1000000 in
theorem rpend_n (h : Hart) (l : Int) (hk : ¬ 0 ≤ rfirstV (rtopV h l)) (W : World) : Calls Try.prog 9 #[hartV h, .int .u64 l] W fun e W' => e = .returned (.int .i64 (rpendV h l)) ∧ Below W.heap.size W W' := by
  have HE : RowKit.Hid (rpendV h l = rfirstV (rlowV h l)) := Lib.hid (if_neg hk)
  go_enter Try.func9, Try.ntmps9
  go_wp2_with (first | (with_reducible show wpList _ _ _ (⟨some 9, Op.load 27 (.tmp 2), 27, _, _, none⟩ :: _) _ _; refine wpList_load_by rfl rfl (Box.load (Box.new W h)) rfl ?_) | (go_at_call 21; (with_reducible refine (allow_any h l _).mono ?_); rintro e w1 ⟨rfl, k1⟩) | (go_at_call 22; (with_reducible refine (rfirst_any _ _).mono ?_); rintro e w' ⟨rfl, rfl⟩) | fail)
  go_ret
  exact ⟨ret_int HE.out.symm, below_then ((Below.refl _ _).alloc (Nat.le_refl _) (hartO h)) (Nat.le_refl _) k1⟩
theorem rpend_any (h : Hart) (l : Int) (W : World) : Calls Try.prog 9 #[hartV h, .int .u64 l] W fun e W' => e = .returned (.int .i64 (rpendV h l)) ∧ Below W.heap.size W W' := by
  by_cases hk : 0 ≤ rfirstV (rtopV h l)
  · exact rpend_y h l hk W
  · exact rpend_n h l hk W

end Go.Proofs.Ytbdoiomnoajnpaa
