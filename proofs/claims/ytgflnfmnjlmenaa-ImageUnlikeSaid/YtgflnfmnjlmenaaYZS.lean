/- May a machine be. -/
import Derived.Test.YtgflnfmnjlmenaaYZR
import Derived.Test.YtgflnfmnjlmenaaYNB
import Derived.Test.YtgflnfmnjlmenaaYNC
import Derived.Test.YtgflnfmnjlmenaaYPF
namespace Go.Proofs.Ytgflnfmnjlmenaa
open Go.RowKit Go.Deep Go.Joins
set_option maxRecDepth 100000
def chkM (m : Mc) (p : Pt) : Int := if chkB p.D.length p.M m.E = false then 50 else if (rightH m.h && rightB m.b p.F && Pc.rightF m.b.pl) = true then 0 else 170
set_option maxHeartbeats 1000000 in
theorem ck_a (m : Mc) (p : Pt) (W : World) (K : MR W m p) (hc : chkB p.D.length p.M m.E = false) : Calls Try.prog 18 #[mcV m] W fun e W' => e = .returned (.int .i64 (chkM m p)) ∧ Below W.heap.size W W' := by
  have HE := Lib.hid (show chkM m p = 50 by unfold chkM; simp [hc])
  obtain ⟨q, c, ed⟩ := Reads.is K.d
  have hv : chkV p.D.length p.M m.E = 50 := by unfold chkV; rw [hc]; rfl
  have C28 := Lib.hid (show Calls Try.prog 28 #[.agg #[m.dv, m.mv, .int .u64 m.E]] (W.alloc (mcO m)) (fun e w' => e = .returned (.int .i64 50) ∧ Below (W.alloc (mcO m)).heap.size (W.alloc (mcO m)) w') from by
    rw [ed, ← hv]; exact check_any q p.D.length c m.mv m.E p.M _ (Reads.below K.mm (below1 W _)))
  have CB := Lib.hid (fun w' (h : Below W.heap.size W w') => right_any m.b p.F w' (K.next h).fr)
  have X := Lib.hid (MBox.new W m)
  have B := Lib.hid (below1 W (mcO m))
  clear K ed hv
  go_enter Try.func18, Try.ntmps18
  go_upto_region 1 with fail
  generalize W.alloc (mcO m) = wa at X B C28 ⊢
  go_wp2_with (first | (with_reducible refine wpList_load_by rfl rfl (MBox.load_ram X.out) rfl ?_) | (go_at_call 28; (with_reducible refine C28.out.mono ?_); rintro e w1 ⟨rfl, k1⟩; have X1 := Lib.hid (X.out.next k1); have B1 := Lib.hid (below_then B.out k1); clear k1) | fail)
  go_ret
  exact ⟨by rw [HE.out] <;> rfl, B1.out⟩
set_option maxHeartbeats 1000000 in
theorem ck_b (m : Mc) (p : Pt) (W : World) (K : MR W m p) (hc : chkB p.D.length p.M m.E = true) (hh : rightH m.h = false) : Calls Try.prog 18 #[mcV m] W fun e W' => e = .returned (.int .i64 (chkM m p)) ∧ Below W.heap.size W W' := by
  have HE := Lib.hid (show chkM m p = 170 by unfold chkM; simp [hc, hh])
  obtain ⟨q, c, ed⟩ := Reads.is K.d
  have hv : chkV p.D.length p.M m.E = 0 := by unfold chkV; rw [hc]; rfl
  have C28 := Lib.hid (show Calls Try.prog 28 #[.agg #[m.dv, m.mv, .int .u64 m.E]] (W.alloc (mcO m)) (fun e w' => e = .returned (.int .i64 0) ∧ Below (W.alloc (mcO m)).heap.size (W.alloc (mcO m)) w') from by
    rw [ed, ← hv]; exact check_any q p.D.length c m.mv m.E p.M _ (Reads.below K.mm (below1 W _)))
  have CB := Lib.hid (fun w' (h : Below W.heap.size W w') => right_any m.b p.F w' (K.next h).fr)
  have X := Lib.hid (MBox.new W m)
  have B := Lib.hid (below1 W (mcO m))
  clear K ed hv
  go_enter Try.func18, Try.ntmps18
  go_upto_region 1 with fail
  generalize W.alloc (mcO m) = wa at X B C28 ⊢
  go_wp2_with (first | (with_reducible refine wpList_load_by rfl rfl (MBox.load_ram X.out) rfl ?_) | (go_at_call 28; (with_reducible refine C28.out.mono ?_); rintro e w1 ⟨rfl, k1⟩; have X1 := Lib.hid (X.out.next k1); have B1 := Lib.hid (below_then B.out k1); clear k1) | (with_reducible refine wpList_load_by rfl rfl (MBox.load_hart X1.out) rfl ?_) | (go_at_call 29; (with_reducible refine (hright_any m.h _).mono ?_); rintro e w2 ⟨he, k2⟩; rw [hh] at he; subst he; have X2 := Lib.hid (X1.out.next k2); have B2 := Lib.hid (below_then B1.out k2); clear k2) | fail)
  go_ret
  exact ⟨by rw [HE.out] <;> rfl, B2.out⟩
set_option maxHeartbeats 1000000 in
theorem ck_c (m : Mc) (p : Pt) (W : World) (K : MR W m p) (hc : chkB p.D.length p.M m.E = true) (hh : rightH m.h = true) (hb : rightB m.b p.F = false) : Calls Try.prog 18 #[mcV m] W fun e W' => e = .returned (.int .i64 (chkM m p)) ∧ Below W.heap.size W W' := by
  have HE := Lib.hid (show chkM m p = 170 by unfold chkM; simp [hc, hh, hb])
  obtain ⟨q, c, ed⟩ := Reads.is K.d
  have hv : chkV p.D.length p.M m.E = 0 := by unfold chkV; rw [hc]; rfl
  have C28 := Lib.hid (show Calls Try.prog 28 #[.agg #[m.dv, m.mv, .int .u64 m.E]] (W.alloc (mcO m)) (fun e w' => e = .returned (.int .i64 0) ∧ Below (W.alloc (mcO m)).heap.size (W.alloc (mcO m)) w') from by
    rw [ed, ← hv]; exact check_any q p.D.length c m.mv m.E p.M _ (Reads.below K.mm (below1 W _)))
  have CB := Lib.hid (fun w' (h : Below W.heap.size W w') => right_any m.b p.F w' (K.next h).fr)
  have X := Lib.hid (MBox.new W m)
  have B := Lib.hid (below1 W (mcO m))
  clear K ed hv
  go_enter Try.func18, Try.ntmps18
  go_upto_region 1 with fail
  generalize W.alloc (mcO m) = wa at X B C28 ⊢
  go_wp2_with (first | (with_reducible refine wpList_load_by rfl rfl (MBox.load_ram X.out) rfl ?_) | (go_at_call 28; (with_reducible refine C28.out.mono ?_); rintro e w1 ⟨rfl, k1⟩; have X1 := Lib.hid (X.out.next k1); have B1 := Lib.hid (below_then B.out k1); clear k1) | (with_reducible refine wpList_load_by rfl rfl (MBox.load_hart X1.out) rfl ?_) | (go_at_call 29; (with_reducible refine (hright_any m.h _).mono ?_); rintro e w2 ⟨he, k2⟩; rw [hh] at he; subst he; have X2 := Lib.hid (X1.out.next k2); have B2 := Lib.hid (below_then B1.out k2); clear k2) | (with_reducible show wpList _ _ _ (⟨some 16, Op.load 35 (.tmp 15), 35, _, _, _⟩ :: _) _ _; refine wpList_load_wanted (by first | exact rfl | (simp [Region.wanted, yielded]; done) | (simp [Region.wanted, yielded, Act.put]; done)) rfl (MBox.load_b X2.out) rfl ?_) | (go_at_call 30; (with_reducible refine (CB.out w2 (below_then B2.out (Below.refl _ _))).mono ?_); rintro e w3 ⟨he, k3⟩; rw [hb] at he; subst he; have X3 := Lib.hid (X2.out.next k3); have B3 := Lib.hid (below_then B2.out k3); clear k3) | fail)
  go_ret
  exact ⟨by rw [HE.out] <;> rfl, B3.out⟩
set_option maxHeartbeats 1000000 in
theorem ck_d (m : Mc) (p : Pt) (W : World) (K : MR W m p) (hc : chkB p.D.length p.M m.E = true) (hh : rightH m.h = true) (hb : rightB m.b p.F = true) (hp : Pc.rightF m.b.pl = false) : Calls Try.prog 18 #[mcV m] W fun e W' => e = .returned (.int .i64 (chkM m p)) ∧ Below W.heap.size W W' := by
  have HE := Lib.hid (show chkM m p = 170 by unfold chkM; simp [hc, hh, hb, hp])
  obtain ⟨q, c, ed⟩ := Reads.is K.d
  have hv : chkV p.D.length p.M m.E = 0 := by unfold chkV; rw [hc]; rfl
  have C28 := Lib.hid (show Calls Try.prog 28 #[.agg #[m.dv, m.mv, .int .u64 m.E]] (W.alloc (mcO m)) (fun e w' => e = .returned (.int .i64 0) ∧ Below (W.alloc (mcO m)).heap.size (W.alloc (mcO m)) w') from by
    rw [ed, ← hv]; exact check_any q p.D.length c m.mv m.E p.M _ (Reads.below K.mm (below1 W _)))
  have CB := Lib.hid (fun w' (h : Below W.heap.size W w') => right_any m.b p.F w' (K.next h).fr)
  have X := Lib.hid (MBox.new W m)
  have B := Lib.hid (below1 W (mcO m))
  clear K ed hv
  go_enter Try.func18, Try.ntmps18
  go_upto_region 1 with fail
  generalize W.alloc (mcO m) = wa at X B C28 ⊢
  go_wp2_with (first | (with_reducible refine wpList_load_by rfl rfl (MBox.load_ram X.out) rfl ?_) | (go_at_call 28; (with_reducible refine C28.out.mono ?_); rintro e w1 ⟨rfl, k1⟩; have X1 := Lib.hid (X.out.next k1); have B1 := Lib.hid (below_then B.out k1); clear k1) | (with_reducible refine wpList_load_by rfl rfl (MBox.load_hart X1.out) rfl ?_) | (go_at_call 29; (with_reducible refine (hright_any m.h _).mono ?_); rintro e w2 ⟨he, k2⟩; rw [hh] at he; subst he; have X2 := Lib.hid (X1.out.next k2); have B2 := Lib.hid (below_then B1.out k2); clear k2) | (with_reducible show wpList _ _ _ (⟨some 16, Op.load 35 (.tmp 15), 35, _, _, _⟩ :: _) _ _; refine wpList_load_wanted (by first | exact rfl | (simp [Region.wanted, yielded]; done) | (simp [Region.wanted, yielded, Act.put]; done)) rfl (MBox.load_b X2.out) rfl ?_) | (go_at_call 30; (with_reducible refine (CB.out w2 (below_then B2.out (Below.refl _ _))).mono ?_); rintro e w3 ⟨he, k3⟩; rw [hb] at he; subst he; have X3 := Lib.hid (X2.out.next k3); have B3 := Lib.hid (below_then B2.out k3); clear k3) | (with_reducible show wpList _ _ _ (⟨some 23, Op.load 33 (.tmp 22), 33, _, _, _⟩ :: _) _ _; refine wpList_load_wanted (by first | exact rfl | (simp [Region.wanted, yielded]; done) | (simp [Region.wanted, yielded, Act.put]; done)) rfl (MBox.load_pl X3.out) rfl ?_) | (go_at_call 31; (with_reducible refine (Pc.right_any m.b.pl _).mono ?_); rintro e w4 ⟨he, k4⟩; rw [hp] at he; subst he; have B4 := Lib.hid (below_then B3.out k4); clear k4) | fail)
  go_ret
  exact ⟨by rw [HE.out] <;> rfl, B4.out⟩
set_option maxHeartbeats 1000000 in
theorem ck_e (m : Mc) (p : Pt) (W : World) (K : MR W m p) (hc : chkB p.D.length p.M m.E = true) (hh : rightH m.h = true) (hb : rightB m.b p.F = true) (hp : Pc.rightF m.b.pl = true) : Calls Try.prog 18 #[mcV m] W fun e W' => e = .returned (.int .i64 (chkM m p)) ∧ Below W.heap.size W W' := by
  have HE := Lib.hid (show chkM m p = 0 by unfold chkM; simp [hc, hh, hb, hp])
  obtain ⟨q, c, ed⟩ := Reads.is K.d
  have hv : chkV p.D.length p.M m.E = 0 := by unfold chkV; rw [hc]; rfl
  have C28 := Lib.hid (show Calls Try.prog 28 #[.agg #[m.dv, m.mv, .int .u64 m.E]] (W.alloc (mcO m)) (fun e w' => e = .returned (.int .i64 0) ∧ Below (W.alloc (mcO m)).heap.size (W.alloc (mcO m)) w') from by
    rw [ed, ← hv]; exact check_any q p.D.length c m.mv m.E p.M _ (Reads.below K.mm (below1 W _)))
  have CB := Lib.hid (fun w' (h : Below W.heap.size W w') => right_any m.b p.F w' (K.next h).fr)
  have X := Lib.hid (MBox.new W m)
  have B := Lib.hid (below1 W (mcO m))
  clear K ed hv
  go_enter Try.func18, Try.ntmps18
  go_upto_region 1 with fail
  generalize W.alloc (mcO m) = wa at X B C28 ⊢
  go_wp2_with (first | (with_reducible refine wpList_load_by rfl rfl (MBox.load_ram X.out) rfl ?_) | (go_at_call 28; (with_reducible refine C28.out.mono ?_); rintro e w1 ⟨rfl, k1⟩; have X1 := Lib.hid (X.out.next k1); have B1 := Lib.hid (below_then B.out k1); clear k1) | (with_reducible refine wpList_load_by rfl rfl (MBox.load_hart X1.out) rfl ?_) | (go_at_call 29; (with_reducible refine (hright_any m.h _).mono ?_); rintro e w2 ⟨he, k2⟩; rw [hh] at he; subst he; have X2 := Lib.hid (X1.out.next k2); have B2 := Lib.hid (below_then B1.out k2); clear k2) | (with_reducible show wpList _ _ _ (⟨some 16, Op.load 35 (.tmp 15), 35, _, _, _⟩ :: _) _ _; refine wpList_load_wanted (by first | exact rfl | (simp [Region.wanted, yielded]; done) | (simp [Region.wanted, yielded, Act.put]; done)) rfl (MBox.load_b X2.out) rfl ?_) | (go_at_call 30; (with_reducible refine (CB.out w2 (below_then B2.out (Below.refl _ _))).mono ?_); rintro e w3 ⟨he, k3⟩; rw [hb] at he; subst he; have X3 := Lib.hid (X2.out.next k3); have B3 := Lib.hid (below_then B2.out k3); clear k3) | (with_reducible show wpList _ _ _ (⟨some 23, Op.load 33 (.tmp 22), 33, _, _, _⟩ :: _) _ _; refine wpList_load_wanted (by first | exact rfl | (simp [Region.wanted, yielded]; done) | (simp [Region.wanted, yielded, Act.put]; done)) rfl (MBox.load_pl X3.out) rfl ?_) | (go_at_call 31; (with_reducible refine (Pc.right_any m.b.pl _).mono ?_); rintro e w4 ⟨he, k4⟩; rw [hp] at he; subst he; have B4 := Lib.hid (below_then B3.out k4); clear k4) | fail)
  go_ret
  exact ⟨by rw [HE.out] <;> rfl, B4.out⟩
theorem check_m (m : Mc) (p : Pt) (W : World) (K : MR W m p) : Calls Try.prog 18 #[mcV m] W fun e W' => e = .returned (.int .i64 (chkM m p)) ∧ Below W.heap.size W W' := by
  cases hc : chkB p.D.length p.M m.E with
  | false => exact ck_a m p W K hc
  | true =>
  cases hh : rightH m.h with
  | false => exact ck_b m p W K hc hh
  | true =>
  cases hb : rightB m.b p.F with
  | false => exact ck_c m p W K hc hh hb
  | true =>
  cases hp : Pc.rightF m.b.pl with
  | false => exact ck_d m p W K hc hh hb hp
  | true => exact ck_e m p W K hc hh hb hp
end Go.Proofs.Ytgflnfmnjlmenaa
