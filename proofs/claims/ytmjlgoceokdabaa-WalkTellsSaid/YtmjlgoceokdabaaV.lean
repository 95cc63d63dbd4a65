/- WalkTells walked. -/
import Derived.Test.YtmjlgoceokdabaaU
import Derived.Test.YtmjlgoceokdabaaF
import Derived.Test.YtmjlgoceokdabaaG
namespace Go.Proofs.Ytmjlgoceokdabaa
open Go.RowKit Go.Deep Go.Joins
set_option maxRecDepth 100000 in
set_option maxHeartbeats 2000000 in
theorem tells_walk (C : Array Value) (dv mv : Value) (E m t kind a c : Int) (D : List UInt8) (M : List Int) (W : World) (hC : C.size = 16) (hd : DAt W dv D) (hm : MAt W mv M) (hD : D.length ≤ 140737488351232) (hM : M.length ≤ 17592186043904)
    (c9 : RowKit.Hid (∀ dv' mv' W', DAt W' dv' D → Calls Try.prog 9 #[.agg C, .int .i64 m, .agg #[dv', mv', .int .u64 E], .int .u64 t, .int .i64 kind] W' fun e W'' => e = .returned (.tuple #[.int .u64 a, .int .i64 c]) ∧ Below W'.heap.size W' W''))
    (c10 : RowKit.Hid (∀ dv' mv' W', DAt W' dv' D → Calls Try.prog 10 #[.agg C, .int .i64 m, .agg #[dv', mv', .int .u64 E], .int .u64 t, .int .i64 kind] W' fun e W'' => e = .returned (.tuple #[.int .u64 a, .int .i64 c]) ∧ Below W'.heap.size W' W'')) :
    Calls Try.prog 3 #[.agg C, .int .i64 m, .agg #[dv, mv, .int .u64 E], .int .u64 t, .int .i64 kind] W fun e W' => e = .returned (.bool true) ∧ Below W.heap.size W W' := by
  have hW := Lib.hid (boxes W C #[dv, mv, .int .u64 E])
  have hd := Lib.hid hd
  have hm := Lib.hid hm
  have hD := Lib.hid hD
  have hM := Lib.hid hM
  go_enter Try.func3, Try.ntmps3
  go_upto_region 4 with (first | (go_at_call 7; (with_reducible refine (awake_any _).mono ?_); rintro e w1 ⟨rfl, k1⟩; have X := Lib.hid (And.intro (hW.out.1.next k1) (And.intro (hW.out.2.1.next k1) (below_then hW.out.2.2 k1))); clear k1) | (with_reducible show wpList _ _ _ (⟨some 18, Op.load 28 (.tmp 7), 28, _, _, _⟩ :: _) _ _; refine wpList_load_by rfl rfl (MBox.load (X.out.2.1) rfl) rfl ?_; simp only [Act.put, List.setIfInBounds_toArray, List.set_cons_zero, List.set_cons_succ]) | (go_at_call 8; (refine (rcopy_any dv mv E D M _ (hd.out.below X.out.2.2) (hm.out.below X.out.2.2) hD.out hM.out).mono ?_); rintro e w2 ⟨dv2, mv2, rfl, hd2, hm2, k2⟩; obtain ⟨p2, cap2, rfl⟩ := owns_shape hd2; obtain ⟨q2, cap3, rfl⟩ := owns_shape hm2; have X2 := Lib.hid (And.intro (X.out.1.next k2) (And.intro (X.out.2.1.next k2) (below_then X.out.2.2 k2))); have hd2 := Lib.hid hd2.at; have hm2 := Lib.hid hm2.at; clear X k2) | fail)
  have kn := below1 w2 (.cells #[.slice p2 D.length cap2, .slice q2 M.length cap3, .int .u64 E] 28)
  have X3 := Lib.hid (And.intro (X2.out.1.next kn) (And.intro (X2.out.2.1.next kn) (below_then X2.out.2.2 kn)))
  have Y3 := Lib.hid (show MBox (w2.alloc (.cells #[.slice p2 D.length cap2, .slice q2 M.length cap3, .int .u64 E] 28)) w2.heap.size #[.slice p2 D.length cap2, .slice q2 M.length cap3, .int .u64 E] from heap_alloc_new _ _)
  have hd3 := Lib.hid (hd2.out.below kn)
  have hm3 := Lib.hid (hm2.out.below kn)
  clear X2 hd2 hm2 kn hW
  generalize w2.alloc (.cells #[.slice p2 D.length cap2, .slice q2 M.length cap3, .int .u64 E] 28) = w3 at *
  generalize w2.heap.size = z11 at *
  have ee : (a == a) = true := by simp
  have ec : (c == c) = true := by simp
  go_wp2_with (first | (with_reducible show wpList _ _ _ (⟨some 21, Op.load 24 (.tmp 5), 24, _, _, _⟩ :: _) _ _; refine wpList_load_by rfl rfl (Box.load (X3.out.1) hC) rfl ?_; simp only [Act.put, List.setIfInBounds_toArray, List.set_cons_zero, List.set_cons_succ]) | (with_reducible show wpList _ _ _ (⟨some 23, Op.load 28 (.tmp 11), 28, _, _, _⟩ :: _) _ _; refine wpList_load_by rfl rfl (MBox.load (Y3.out) rfl) rfl ?_; simp only [Act.put, List.setIfInBounds_toArray, List.set_cons_zero, List.set_cons_succ]) | (go_at_call 9; (refine (c9.out _ _ _ hd3.out).mono ?_); rintro e w4 ⟨rfl, k4⟩; have X4 := Lib.hid (And.intro (X3.out.1.next k4) (And.intro (X3.out.2.1.next k4) (below_then X3.out.2.2 k4))); have Y4 := Lib.hid (Y3.out.next k4); have k4 := Lib.hid k4) | (with_reducible show wpList _ _ _ (⟨some 30, Op.load 24 (.tmp 5), 24, _, _, _⟩ :: _) _ _; refine wpList_load_by rfl rfl (Box.load (X4.out.1) hC) rfl ?_; simp only [Act.put, List.setIfInBounds_toArray, List.set_cons_zero, List.set_cons_succ]) | (with_reducible show wpList _ _ _ (⟨some 32, Op.load 28 (.tmp 7), 28, _, _, _⟩ :: _) _ _; refine wpList_load_by rfl rfl (MBox.load (X4.out.2.1) rfl) rfl ?_; simp only [Act.put, List.setIfInBounds_toArray, List.set_cons_zero, List.set_cons_succ]) | (go_at_call 10; (refine (c10.out _ _ _ (hd.out.below X4.out.2.2)).mono ?_); rintro e w5 ⟨rfl, k5⟩; have X5 := Lib.hid (And.intro (X4.out.1.next k5) (And.intro (X4.out.2.1.next k5) (below_then X4.out.2.2 k5))); have Y5 := Lib.hid (Y4.out.next k5); have hd5 := Lib.hid (hd3.out.below (below_then k4.out k5)); have hm5 := Lib.hid (hm3.out.below (below_then k4.out k5))) | (with_reducible show wpList _ _ _ (⟨some 47, Op.load 28 (.tmp 11), 28, _, _, _⟩ :: _) _ _; refine wpList_load_wanted (by kernel_rfl) rfl (MBox.load (Y5.out) rfl) rfl ?_; simp only [Act.put, List.setIfInBounds_toArray, List.set_cons_zero, List.set_cons_succ]) | (with_reducible show wpList _ _ _ (⟨some 48, Op.load 28 (.tmp 7), 28, _, _, _⟩ :: _) _ _; refine wpList_load_wanted (by kernel_rfl) rfl (MBox.load (X5.out.2.1) rfl) rfl ?_; simp only [Act.put, List.setIfInBounds_toArray, List.set_cons_zero, List.set_cons_succ]) | (go_at_call 11; (refine (same_true _ _ _ _ E D M _ hd5.out hm5.out (hd.out.below X5.out.2.2) (hm.out.below X5.out.2.2)).mono ?_); rintro e w6 ⟨rfl, k6⟩) | fail)
  go_ret
  exact ⟨rfl, below_then X5.out.2.2 k6⟩

end Go.Proofs.Ytmjlgoceokdabaa
