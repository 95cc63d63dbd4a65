/- Pending. -/
import Derived.Test.YtjohcpokmdofkaaGreatDoorYTC
namespace Go.Proofs.YtjohcpokmdofkaaGreatDoor.Tr
open Go.RowKit Go.Deep Go.Joins
set_option maxRecDepth 100000
set_option maxHeartbeats 1000000 in
theorem pend_up (h : Hart) (l : Int) (h1 : (topV h l != 0) = true) (h2 : upV h = true) (W : World) : Calls Tryz.prog 38 #[hartV h, .int .u64 l] W fun e W' => e = .returned (.int .i64 (pendV h l)) ∧ Below W.heap.size W W' := by
  have m_s2 : (hartC h)[36]? = some (.int .u64 h.c.s2) := hartC_tail h 4
  have m_s3 : (hartC h)[37]? = some (.int .u64 h.c.s3) := hartC_tail h 5
  have m_s4 : (hartC h)[38]? = some (.int .u64 h.c.s4) := hartC_tail h 6
  have HE : RowKit.Hid (pendV h l = firstV (topV h l)) := Lib.hid (by unfold pendV; rw [h1, h2]; rfl)
  have h1r : ((bits .andNot .u64 (bits .and .u64 (bits .and .u64 (bits .or .u64 h.c.s4 l) h.c.s3) 2730) h.c.s2) != 0) = true := h1
  clear h1
  have c18 := Lib.hid h2
  clear h2
  go_enter Tryz.func38, Tryz.ntmps38
  go_wp2_with (first | (with_reducible show wpList _ _ _ (⟨some 25, Op.load 27 (.tmp 2), 27, _, _, _⟩ :: _) _ _; refine wpList_load_wanted (by first | exact rfl | (simp [Region.wanted, yielded]; done) | (simp [Region.wanted, yielded, Act.put]; done)) rfl (Box.load (Box.new W h)) rfl ?_) | (go_at_call 60; (with_reducible refine (up_any h _ c18.out _).mono ?_); rintro e w1 ⟨rfl, k1⟩) | (go_at_call 61; (with_reducible refine (first_any _ _).mono ?_); rintro e w3 ⟨rfl, rfl⟩) | fail)
  go_ret
  exact ⟨ret_int HE.out.symm, below_then ((Below.refl _ _).alloc (Nat.le_refl _) (hartO h)) (Nat.le_refl _) k1⟩
set_option maxHeartbeats 1000000 in
theorem pend_ay (h : Hart) (l : Int) (h1 : (topV h l != 0) = true) (h2 : upV h = false) (h3 : midV h = true) (W : World) : Calls Tryz.prog 38 #[hartV h, .int .u64 l] W fun e W' => e = .returned (.int .i64 (pendV h l)) ∧ Below W.heap.size W W' := by
  have m_s2 : (hartC h)[36]? = some (.int .u64 h.c.s2) := hartC_tail h 4
  have m_s3 : (hartC h)[37]? = some (.int .u64 h.c.s3) := hartC_tail h 5
  have m_s4 : (hartC h)[38]? = some (.int .u64 h.c.s4) := hartC_tail h 6
  have HE : RowKit.Hid (pendV h l = firstV (lowV h l)) := Lib.hid (by unfold pendV; rw [h1, h2, h3]; rfl)
  have h1r : ((bits .andNot .u64 (bits .and .u64 (bits .and .u64 (bits .or .u64 h.c.s4 l) h.c.s3) 2730) h.c.s2) != 0) = true := h1
  clear h1
  have c18 := Lib.hid h2
  clear h2
  have c20 := Lib.hid h3
  clear h3
  go_enter Tryz.func38, Tryz.ntmps38
  go_wp2_with (first | (with_reducible show wpList _ _ _ (⟨some 25, Op.load 27 (.tmp 2), 27, _, _, _⟩ :: _) _ _; refine wpList_load_wanted (by first | exact rfl | (simp [Region.wanted, yielded]; done) | (simp [Region.wanted, yielded, Act.put]; done)) rfl (Box.load (Box.new W h)) rfl ?_) | (go_at_call 60; (with_reducible refine (up_any h _ c18.out _).mono ?_); rintro e w1 ⟨rfl, k1⟩) | (with_reducible show wpList _ _ _ (⟨some 30, Op.load 27 (.tmp 2), 27, _, _, none⟩ :: _) _ _; refine wpList_load_by rfl rfl (Box.load ((Box.new W h).next k1)) rfl ?_) | (go_at_call 62; (with_reducible refine (mid_any h _ c20.out _).mono ?_); rintro e w2 ⟨rfl, k2⟩; have m_w2_s2 : w2.cell? ⟨W.heap.size, 36, none⟩ = some (.int .u64 h.c.s2) := (((Box.new W h).next k1).next k2).cell 4) | (go_at_call 61; (with_reducible refine (first_any _ _).mono ?_); rintro e w3 ⟨rfl, rfl⟩) | fail)
  go_ret
  exact ⟨ret_int HE.out.symm, below_then (below_then ((Below.refl _ _).alloc (Nat.le_refl _) (hartO h)) (Nat.le_refl _) k1) (Nat.le_refl _) k2⟩
set_option maxHeartbeats 1000000 in
theorem pend_by (h : Hart) (l : Int) (h1 : (topV h l != 0) = false) (h3 : midV h = true) (W : World) : Calls Tryz.prog 38 #[hartV h, .int .u64 l] W fun e W' => e = .returned (.int .i64 (pendV h l)) ∧ Below W.heap.size W W' := by
  have m_s2 : (hartC h)[36]? = some (.int .u64 h.c.s2) := hartC_tail h 4
  have m_s3 : (hartC h)[37]? = some (.int .u64 h.c.s3) := hartC_tail h 5
  have m_s4 : (hartC h)[38]? = some (.int .u64 h.c.s4) := hartC_tail h 6
  have HE : RowKit.Hid (pendV h l = firstV (lowV h l)) := Lib.hid (by unfold pendV; rw [h1, h3]; rfl)
  have h1r : ((bits .andNot .u64 (bits .and .u64 (bits .and .u64 (bits .or .u64 h.c.s4 l) h.c.s3) 2730) h.c.s2) != 0) = false := h1
  clear h1
  have c20 := Lib.hid h3
  clear h3
  go_enter Tryz.func38, Tryz.ntmps38
  go_wp2_with (first | (with_reducible show wpList _ _ _ (⟨some 30, Op.load 27 (.tmp 2), 27, _, _, none⟩ :: _) _ _; refine wpList_load_by rfl rfl (Box.load (Box.new W h)) rfl ?_) | (go_at_call 62; (with_reducible refine (mid_any h _ c20.out _).mono ?_); rintro e w2 ⟨rfl, k2⟩; have m_w2_s2 : w2.cell? ⟨W.heap.size, 36, none⟩ = some (.int .u64 h.c.s2) := ((Box.new W h).next k2).cell 4) | (go_at_call 61; (with_reducible refine (first_any _ _).mono ?_); rintro e w3 ⟨rfl, rfl⟩) | fail)
  go_ret
  exact ⟨ret_int HE.out.symm, below_then ((Below.refl _ _).alloc (Nat.le_refl _) (hartO h)) (Nat.le_refl _) k2⟩
set_option maxHeartbeats 1000000 in
theorem pend_an (h : Hart) (l : Int) (h1 : (topV h l != 0) = true) (h2 : upV h = false) (h3 : midV h = false) (W : World) : Calls Tryz.prog 38 #[hartV h, .int .u64 l] W fun e W' => e = .returned (.int .i64 (pendV h l)) ∧ Below W.heap.size W W' := by
  have m_s2 : (hartC h)[36]? = some (.int .u64 h.c.s2) := hartC_tail h 4
  have m_s3 : (hartC h)[37]? = some (.int .u64 h.c.s3) := hartC_tail h 5
  have m_s4 : (hartC h)[38]? = some (.int .u64 h.c.s4) := hartC_tail h 6
  have HE : RowKit.Hid (pendV h l = -1) := Lib.hid (by unfold pendV; rw [h1, h2, h3]; rfl)
  have h1r : ((bits .andNot .u64 (bits .and .u64 (bits .and .u64 (bits .or .u64 h.c.s4 l) h.c.s3) 2730) h.c.s2) != 0) = true := h1
  clear h1
  have c18 := Lib.hid h2
  clear h2
  have c20 := Lib.hid h3
  clear h3
  go_enter Tryz.func38, Tryz.ntmps38
  go_wp2_with (first | (with_reducible show wpList _ _ _ (⟨some 25, Op.load 27 (.tmp 2), 27, _, _, _⟩ :: _) _ _; refine wpList_load_wanted (by first | exact rfl | (simp [Region.wanted, yielded]; done) | (simp [Region.wanted, yielded, Act.put]; done)) rfl (Box.load (Box.new W h)) rfl ?_) | (go_at_call 60; (with_reducible refine (up_any h _ c18.out _).mono ?_); rintro e w1 ⟨rfl, k1⟩) | (with_reducible show wpList _ _ _ (⟨some 30, Op.load 27 (.tmp 2), 27, _, _, none⟩ :: _) _ _; refine wpList_load_by rfl rfl (Box.load ((Box.new W h).next k1)) rfl ?_) | (go_at_call 62; (with_reducible refine (mid_any h _ c20.out _).mono ?_); rintro e w2 ⟨rfl, k2⟩; have m_w2_s2 : w2.cell? ⟨W.heap.size, 36, none⟩ = some (.int .u64 h.c.s2) := (((Box.new W h).next k1).next k2).cell 4) | (go_at_call 61; (with_reducible refine (first_any _ _).mono ?_); rintro e w3 ⟨rfl, rfl⟩) | fail)
  go_ret
  exact ⟨ret_int HE.out.symm, below_then (below_then ((Below.refl _ _).alloc (Nat.le_refl _) (hartO h)) (Nat.le_refl _) k1) (Nat.le_refl _) k2⟩
set_option maxHeartbeats 1000000 in
theorem pend_bn (h : Hart) (l : Int) (h1 : (topV h l != 0) = false) (h3 : midV h = false) (W : World) : Calls Tryz.prog 38 #[hartV h, .int .u64 l] W fun e W' => e = .returned (.int .i64 (pendV h l)) ∧ Below W.heap.size W W' := by
  have m_s2 : (hartC h)[36]? = some (.int .u64 h.c.s2) := hartC_tail h 4
  have m_s3 : (hartC h)[37]? = some (.int .u64 h.c.s3) := hartC_tail h 5
  have m_s4 : (hartC h)[38]? = some (.int .u64 h.c.s4) := hartC_tail h 6
  have HE : RowKit.Hid (pendV h l = -1) := Lib.hid (by unfold pendV; rw [h1, h3]; rfl)
  have h1r : ((bits .andNot .u64 (bits .and .u64 (bits .and .u64 (bits .or .u64 h.c.s4 l) h.c.s3) 2730) h.c.s2) != 0) = false := h1
  clear h1
  have c20 := Lib.hid h3
  clear h3
  go_enter Tryz.func38, Tryz.ntmps38
  go_wp2_with (first | (with_reducible show wpList _ _ _ (⟨some 30, Op.load 27 (.tmp 2), 27, _, _, none⟩ :: _) _ _; refine wpList_load_by rfl rfl (Box.load (Box.new W h)) rfl ?_) | (go_at_call 62; (with_reducible refine (mid_any h _ c20.out _).mono ?_); rintro e w2 ⟨rfl, k2⟩; have m_w2_s2 : w2.cell? ⟨W.heap.size, 36, none⟩ = some (.int .u64 h.c.s2) := ((Box.new W h).next k2).cell 4) | (go_at_call 61; (with_reducible refine (first_any _ _).mono ?_); rintro e w3 ⟨rfl, rfl⟩) | fail)
  go_ret
  exact ⟨ret_int HE.out.symm, below_then ((Below.refl _ _).alloc (Nat.le_refl _) (hartO h)) (Nat.le_refl _) k2⟩
theorem pend_any (h : Hart) (l : Int) (W : World) : Calls Tryz.prog 38 #[hartV h, .int .u64 l] W fun e W' => e = .returned (.int .i64 (pendV h l)) ∧ Below W.heap.size W W' := by
  rcases Bool.eq_false_or_eq_true (midV h) with h3 | h3
  all_goals rcases Bool.eq_false_or_eq_true (topV h l != 0) with h1 | h1
  · rcases Bool.eq_false_or_eq_true (upV h) with h2 | h2
    · exact pend_up h l h1 h2 W
    · exact pend_ay h l h1 h2 h3 W
  · exact pend_by h l h1 h3 W
  · rcases Bool.eq_false_or_eq_true (upV h) with h2 | h2
    · exact pend_up h l h1 h2 W
    · exact pend_an h l h1 h2 h3 W
  · exact pend_bn h l h1 h3 W

end Go.Proofs.YtjohcpokmdofkaaGreatDoor.Tr
