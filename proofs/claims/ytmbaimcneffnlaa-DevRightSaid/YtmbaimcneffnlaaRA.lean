/- DevRight walked. -/
import Derived.Test.YtmbaimcneffnlaaSB
import Derived.Test.YtmbaimcneffnlaaPA
namespace Go.Proofs.Ytmbaimcneffnlaa
open Go.RowKit Go.Deep Go.Joins
theorem right_true (b : Bd) (F : List ByteArray) (p : Option Addr) (c : Nat) (W : World) (h : FAt W (.slice p F.length c) F) (hr : rightB b F = true) : Calls Try.prog 8 #[bdV (b.at p F.length c)] W fun e W' => e = .returned (.bool true) ∧ Below W.heap.size W W' := by
  have k := right_any (b.at p F.length c) F W h
  rw [show rightB (b.at p F.length c) F = true from hr] at k
  exact k
theorem right_new (W : World) : Calls Try.prog 8 #[bdV bdN] W fun e W' => e = .returned (.bool true) ∧ Below W.heap.size W W' := by
  have k := right_any bdN [] W (fat_none W)
  have e : rightB bdN [] = true := by
    unfold rightB hasB frB
    show ((zer.size : Int) == 1024 && decide ((0 : Nat) ≤ 1024) && decide ((0 : Nat) ≤ 64) && true) = true
    rw [zer_size]
    rfl
  rwa [e] at k
set_option maxRecDepth 100000 in
set_option maxHeartbeats 2000000 in
theorem dr_wrong (b : Bd) (p1 q1 : Option Addr) (c1 d1 : Nat) (E t s v dev k : Int) (es data : ByteArray) (D : List UInt8) (M : List Int) (W : World) (c8 : RowKit.Hid (∀ W', Below W.heap.size W W' → Calls Try.prog 8 #[bdV b] W' fun e W'' => e = .returned (.bool false) ∧ Below W'.heap.size W' W'')) (c9 : RowKit.Hid (∀ W', Below W.heap.size W W' → Calls Try.prog 9 #[bdV b] W' fun e W'' => e = .returned (.bool false) ∧ Below W'.heap.size W' W'')) : Calls Try.prog 4 #[bdV b, .agg (ramC (.slice p1 D.length c1) (.slice q1 M.length d1) E), .agg (lookC t s v), effV k es, .int .i64 dev, .string data] W fun e W' => e = .returned (.bool true) ∧ Below W.heap.size W W' := by
  have h0 := ((((Mem.start W).new (bdC b) 30 (by decide)).new (ramC (.slice p1 D.length c1) (.slice q1 M.length d1) E) 49 (by decide)).new (lookC t s v) 32 (by decide)).new #[.int .i64 k, .string es] 42 (by decide)
  simp only [World.size_alloc] at h0
  have X := Lib.hid h0
  clear h0
  go_enter Try.func4, Try.ntmps4
  go_upto_region 1 with (fail)
  generalize (((W.alloc (bdO b)).alloc (Obj.cells _ 49)).alloc (Obj.cells _ 32)).alloc (Obj.cells _ 42) = w0 at *
  go_wp2_with (first | (go_at_call 7; (with_reducible refine (awake_any _).mono ?_); rintro e w1 ⟨rfl, kk⟩; have X := Lib.hid (X.out.next kk); clear kk) | (with_reducible refine wpList_load_by rfl rfl (Box.load X.out.b3) rfl ?_) | (go_at_call 8; (with_reducible refine (c8.out _ X.out.below).mono ?_); rintro e w2 ⟨rfl, kk⟩; have X := Lib.hid (X.out.next kk); clear kk) | (go_at_call 9; (with_reducible refine (c9.out _ X.out.below).mono ?_); rintro e w2 ⟨rfl, kk⟩; have X := Lib.hid (X.out.next kk); clear kk) | fail)
  go_ret
  exact ⟨rfl, X.out.below⟩
set_option maxRecDepth 100000 in
set_option maxHeartbeats 2000000 in
theorem dr_right (b : Bd) (p1 q1 : Option Addr) (c1 d1 : Nat) (E t s v dev k : Int) (es data : ByteArray) (D : List UInt8) (M : List Int) (W : World) (xb yb zb wb : Bd) (xF yF zF wF : List ByteArray) (num k2 : Int) (es2 s2 : ByteArray) (okx oky ok2 okw : Bool) (D2 : List UInt8) (M2 : List Int) (c8 : RowKit.Hid (∀ W', Below W.heap.size W W' → Calls Try.prog 8 #[bdV b] W' fun e W'' => e = .returned (.bool true) ∧ Below W'.heap.size W' W''))
    (c15 : RowKit.Hid (∀ W', Below W.heap.size W W' → Calls Try.prog 15 #[bdV b, .int .u64 t, .int .i64 s, .int .u64 v] W' (Told W' xb xF (fun x => .tuple #[x, .int .u64 num, .bool okx]))))
    (c18 : RowKit.Hid (∀ W', Below W.heap.size W W' → Calls Try.prog 18 #[bdV b, .int .u64 t, .int .i64 s, .int .u64 v] W' (Told W' yb yF (fun x => .tuple #[x, effV k2 es2, .bool oky]))))
    (c21 : RowKit.Hid (∀ W', Below W.heap.size W W' → Calls Try.prog 21 #[bdV b, .agg (ramC (.slice p1 D.length c1) (.slice q1 M.length d1) E), effV k es] W' (Acted W' zb zF E D2 M2 s2 ok2)))
    (c22 : RowKit.Hid (∀ W', Below W.heap.size W W' → Calls Try.prog 22 #[bdV b, .int .i64 dev, .string data] W' (Told W' wb wF (fun x => .tuple #[x, .bool okw]))))
    (hx : okx = true → rightB xb xF = true) (hy : oky = true → rightB yb yF = true) (hz : rightB zb zF = true) (hw : rightB wb wF = true) : Calls Try.prog 4 #[bdV b, .agg (ramC (.slice p1 D.length c1) (.slice q1 M.length d1) E), .agg (lookC t s v), effV k es, .int .i64 dev, .string data] W fun e W' => e = .returned (.bool true) ∧ Below W.heap.size W W' := by
  have HZ := Lib.hid hz
  have HWW := Lib.hid hw
  have HX := Lib.hid hx
  have HY := Lib.hid hy
  clear hx hy hz hw
  have h0 := ((((Mem.start W).new (bdC b) 30 (by decide)).new (ramC (.slice p1 D.length c1) (.slice q1 M.length d1) E) 49 (by decide)).new (lookC t s v) 32 (by decide)).new #[.int .i64 k, .string es] 42 (by decide)
  simp only [World.size_alloc] at h0
  have X := Lib.hid h0
  clear h0
  go_enter Try.func4, Try.ntmps4
  go_upto_region 1 with (fail)
  generalize (((W.alloc (bdO b)).alloc (Obj.cells _ 49)).alloc (Obj.cells _ 32)).alloc (Obj.cells _ 42) = w0 at *
  go_upto_region 6 with (first | (go_at_call 7; (with_reducible refine (awake_any _).mono ?_); rintro e w1 ⟨rfl, kk⟩; have X := Lib.hid (X.out.next kk); clear kk) | (with_reducible refine wpList_load_by rfl rfl (Box.load X.out.b3) rfl ?_) | (go_at_call 8; (with_reducible refine (c8.out _ X.out.below).mono ?_); rintro e w2 ⟨rfl, kk⟩; have X := Lib.hid (X.out.next kk); clear kk) | (with_reducible refine wpList_load_by rfl rfl (LK0 X.out.g1) rfl ?_) | (with_reducible refine wpList_load_by rfl rfl (LK1 X.out.g1) rfl ?_) | (with_reducible refine wpList_load_by rfl rfl (LK2 X.out.g1) rfl ?_) | (go_at_call 15; (with_reducible refine (c15.out _ X.out.below).mono ?_); rintro e w3 ⟨p3, cc3, rfl, ho, kk⟩; have X := Lib.hid (((X.out.next kk).addrow ho X.out.below.size (by decide)).newZ); clear ho kk) | (with_reducible refine w_box X.out.b0 rfl rfl rfl rfl ?_; intro wy hwy; have X := Lib.hid (X.out.p0 hwy); clear hwy) | fail)
  go_upto_region 7 with (first | (with_reducible refine wpList_load_by rfl rfl (Box.load X.out.b4) rfl ?_) | (with_reducible refine wpList_load_by rfl rfl (LK0 X.out.g2) rfl ?_) | (with_reducible refine wpList_load_by rfl rfl (LK1 X.out.g2) rfl ?_) | (with_reducible refine wpList_load_by rfl rfl (LK2 X.out.g2) rfl ?_) | (go_at_call 18; (with_reducible refine (c18.out _ X.out.below).mono ?_); rintro e w4 ⟨p4, cc4, rfl, ho, kk⟩; have X := Lib.hid (((X.out.next kk).addrow ho X.out.below.size (by decide)).newZE); clear ho kk) | (with_reducible refine w_box X.out.b1 rfl rfl rfl rfl ?_; intro wy hwy; have X := Lib.hid (X.out.p1 hwy); clear hwy) | (with_reducible refine EBox.w_all X.out.e0 rfl rfl rfl rfl ?_; intro wy hwy; have X := Lib.hid (X.out.p0 hwy); clear hwy) | fail)
  go_upto_region 8 with (first | (with_reducible refine wpList_load_by rfl rfl (Box.load X.out.b6) rfl ?_) | (with_reducible refine wpList_load_by rfl rfl (ram_load X.out.g5) rfl ?_) | (with_reducible refine wpList_load_by rfl rfl (EBox.load X.out.e3) rfl ?_) | (go_at_call 21; (with_reducible refine (c21.out _ X.out.below).mono ?_); rintro e w7 ⟨p7, cc7, dv, mv, rfl, hf7, hd7, hm7, kk⟩; have X := Lib.hid (X.out.next kk); obtain ⟨p5', c5', rfl⟩ := hd7.is; obtain ⟨q5', d5', rfl⟩ := hm7.is; have Y := Lib.hid (newZR w7); have HF7 := Lib.hid hf7; clear kk hf7 hd7 hm7) | (with_reducible refine w_box Y.out.b1 rfl rfl rfl rfl ?_; intro wy hwy; have Y := Lib.hid (Y.out.p1 hwy); clear hwy) | (with_reducible refine w_ram Y.out.g0 rfl rfl rfl rfl rfl ?_; intro wy hwy; have Y := Lib.hid (Y.out.p0 hwy); clear hwy) | fail)
  go_upto_region 9 with (first | (with_reducible refine wpList_load_by rfl rfl (Box.load (X.out.next Y.out.below).b6) rfl ?_) | (go_at_call 22; (with_reducible refine (c22.out _ (below_then X.out.below Y.out.below)).mono ?_); rintro e w8 ⟨p8, cc8, rfl, ho, kk⟩; have Y := Lib.hid (((Y.out.next kk).addrow ho Y.out.below.size (by decide)).newZ); clear ho kk) | (with_reducible refine w_box Y.out.b0 rfl rfl rfl rfl ?_; intro wy hwy; have Y := Lib.hid (Y.out.p0 hwy); clear hwy) | fail)
  cases okx with
  | true =>
    have HX1 := Lib.hid (HX.out rfl)
    cases oky with
    | true =>
      have HY1 := Lib.hid (HY.out rfl)
      go_wp2_with (first | ((with_reducible show wpList _ _ _ (⟨some 76, Op.load 30 (.tmp 13), _, _, _, _⟩ :: _) _ _); refine wpList_load_wanted (by kernel_rfl) rfl (Box.load (X.out.next Y.out.below).b2) rfl ?_; simp only [Act.put, List.setIfInBounds_toArray, List.set_cons_zero, List.set_cons_succ]) | ((with_reducible show wpList _ _ _ (⟨some 83, Op.load 30 (.tmp 16), _, _, _, _⟩ :: _) _ _); refine wpList_load_wanted (by kernel_rfl) rfl (Box.load (X.out.next Y.out.below).b1) rfl ?_; simp only [Act.put, List.setIfInBounds_toArray, List.set_cons_zero, List.set_cons_succ]) | ((with_reducible show wpList _ _ _ (⟨some 88, Op.load 30 (.tmp 19), _, _, _, _⟩ :: _) _ _); refine wpList_load_wanted (by kernel_rfl) rfl (Box.load Y.out.b2) rfl ?_; simp only [Act.put, List.setIfInBounds_toArray, List.set_cons_zero, List.set_cons_succ]) | ((with_reducible show wpList _ _ _ (⟨some 92, Op.load 30 (.tmp 23), _, _, _, _⟩ :: _) _ _); refine wpList_load_wanted (by kernel_rfl) rfl (Box.load Y.out.b0) rfl ?_; simp only [Act.put, List.setIfInBounds_toArray, List.set_cons_zero, List.set_cons_succ]) | (go_at_call 8; (with_reducible refine (right_true xb xF _ _ _ (FAt.of (X.out.next Y.out.below).r1) HX1.out).mono ?_); rintro e wr ⟨rfl, kk⟩; have Y := Lib.hid (Y.out.next kk); clear kk) | (go_at_call 8; (with_reducible refine (right_true yb yF _ _ _ (FAt.of (X.out.next Y.out.below).r0) HY1.out).mono ?_); rintro e wr ⟨rfl, kk⟩; have Y := Lib.hid (Y.out.next kk); clear kk) | (go_at_call 8; (with_reducible refine (right_true zb zF _ _ _ (HF7.out.next Y.out.below) HZ.out).mono ?_); rintro e wr ⟨rfl, kk⟩; have Y := Lib.hid (Y.out.next kk); clear kk) | (go_at_call 8; (with_reducible refine (right_true wb wF _ _ _ (FAt.of Y.out.r0) HWW.out).mono ?_); rintro e wr ⟨rfl, kk⟩; have Y := Lib.hid (Y.out.next kk); clear kk) | (go_at_call 23; (with_reducible refine (new_any _).mono ?_); rintro e wr ⟨rfl, kk⟩; have Y := Lib.hid (Y.out.next kk); clear kk) | (go_at_call 8; (with_reducible refine (right_new _).mono ?_); rintro e wr ⟨rfl, kk⟩; have Y := Lib.hid (Y.out.next kk); clear kk) | fail)
      go_ret
      exact ⟨rfl, below_then X.out.below Y.out.below⟩
    | false =>
      go_wp2_with (first | ((with_reducible show wpList _ _ _ (⟨some 76, Op.load 30 (.tmp 13), _, _, _, _⟩ :: _) _ _); refine wpList_load_wanted (by kernel_rfl) rfl (Box.load (X.out.next Y.out.below).b2) rfl ?_; simp only [Act.put, List.setIfInBounds_toArray, List.set_cons_zero, List.set_cons_succ]) | ((with_reducible show wpList _ _ _ (⟨some 88, Op.load 30 (.tmp 19), _, _, _, _⟩ :: _) _ _); refine wpList_load_wanted (by kernel_rfl) rfl (Box.load Y.out.b2) rfl ?_; simp only [Act.put, List.setIfInBounds_toArray, List.set_cons_zero, List.set_cons_succ]) | ((with_reducible show wpList _ _ _ (⟨some 92, Op.load 30 (.tmp 23), _, _, _, _⟩ :: _) _ _); refine wpList_load_wanted (by kernel_rfl) rfl (Box.load Y.out.b0) rfl ?_; simp only [Act.put, List.setIfInBounds_toArray, List.set_cons_zero, List.set_cons_succ]) | (go_at_call 8; (with_reducible refine (right_true xb xF _ _ _ (FAt.of (X.out.next Y.out.below).r1) HX1.out).mono ?_); rintro e wr ⟨rfl, kk⟩; have Y := Lib.hid (Y.out.next kk); clear kk) | (go_at_call 8; (with_reducible refine (right_true zb zF _ _ _ (HF7.out.next Y.out.below) HZ.out).mono ?_); rintro e wr ⟨rfl, kk⟩; have Y := Lib.hid (Y.out.next kk); clear kk) | (go_at_call 8; (with_reducible refine (right_true wb wF _ _ _ (FAt.of Y.out.r0) HWW.out).mono ?_); rintro e wr ⟨rfl, kk⟩; have Y := Lib.hid (Y.out.next kk); clear kk) | (go_at_call 23; (with_reducible refine (new_any _).mono ?_); rintro e wr ⟨rfl, kk⟩; have Y := Lib.hid (Y.out.next kk); clear kk) | (go_at_call 8; (with_reducible refine (right_new _).mono ?_); rintro e wr ⟨rfl, kk⟩; have Y := Lib.hid (Y.out.next kk); clear kk) | fail)
      go_ret
      exact ⟨rfl, below_then X.out.below Y.out.below⟩
  | false =>
    cases oky with
    | true =>
      have HY1 := Lib.hid (HY.out rfl)
      go_wp2_with (first | ((with_reducible show wpList _ _ _ (⟨some 83, Op.load 30 (.tmp 16), _, _, _, _⟩ :: _) _ _); refine wpList_load_wanted (by kernel_rfl) rfl (Box.load (X.out.next Y.out.below).b1) rfl ?_; simp only [Act.put, List.setIfInBounds_toArray, List.set_cons_zero, List.set_cons_succ]) | ((with_reducible show wpList _ _ _ (⟨some 88, Op.load 30 (.tmp 19), _, _, _, _⟩ :: _) _ _); refine wpList_load_wanted (by kernel_rfl) rfl (Box.load Y.out.b2) rfl ?_; simp only [Act.put, List.setIfInBounds_toArray, List.set_cons_zero, List.set_cons_succ]) | ((with_reducible show wpList _ _ _ (⟨some 92, Op.load 30 (.tmp 23), _, _, _, _⟩ :: _) _ _); refine wpList_load_wanted (by kernel_rfl) rfl (Box.load Y.out.b0) rfl ?_; simp only [Act.put, List.setIfInBounds_toArray, List.set_cons_zero, List.set_cons_succ]) | (go_at_call 8; (with_reducible refine (right_true yb yF _ _ _ (FAt.of (X.out.next Y.out.below).r0) HY1.out).mono ?_); rintro e wr ⟨rfl, kk⟩; have Y := Lib.hid (Y.out.next kk); clear kk) | (go_at_call 8; (with_reducible refine (right_true zb zF _ _ _ (HF7.out.next Y.out.below) HZ.out).mono ?_); rintro e wr ⟨rfl, kk⟩; have Y := Lib.hid (Y.out.next kk); clear kk) | (go_at_call 8; (with_reducible refine (right_true wb wF _ _ _ (FAt.of Y.out.r0) HWW.out).mono ?_); rintro e wr ⟨rfl, kk⟩; have Y := Lib.hid (Y.out.next kk); clear kk) | (go_at_call 23; (with_reducible refine (new_any _).mono ?_); rintro e wr ⟨rfl, kk⟩; have Y := Lib.hid (Y.out.next kk); clear kk) | (go_at_call 8; (with_reducible refine (right_new _).mono ?_); rintro e wr ⟨rfl, kk⟩; have Y := Lib.hid (Y.out.next kk); clear kk) | fail)
      go_ret
      exact ⟨rfl, below_then X.out.below Y.out.below⟩
    | false =>
      go_wp2_with (first | ((with_reducible show wpList _ _ _ (⟨some 88, Op.load 30 (.tmp 19), _, _, _, _⟩ :: _) _ _); refine wpList_load_wanted (by kernel_rfl) rfl (Box.load Y.out.b2) rfl ?_; simp only [Act.put, List.setIfInBounds_toArray, List.set_cons_zero, List.set_cons_succ]) | ((with_reducible show wpList _ _ _ (⟨some 92, Op.load 30 (.tmp 23), _, _, _, _⟩ :: _) _ _); refine wpList_load_wanted (by kernel_rfl) rfl (Box.load Y.out.b0) rfl ?_; simp only [Act.put, List.setIfInBounds_toArray, List.set_cons_zero, List.set_cons_succ]) | (go_at_call 8; (with_reducible refine (right_true zb zF _ _ _ (HF7.out.next Y.out.below) HZ.out).mono ?_); rintro e wr ⟨rfl, kk⟩; have Y := Lib.hid (Y.out.next kk); clear kk) | (go_at_call 8; (with_reducible refine (right_true wb wF _ _ _ (FAt.of Y.out.r0) HWW.out).mono ?_); rintro e wr ⟨rfl, kk⟩; have Y := Lib.hid (Y.out.next kk); clear kk) | (go_at_call 23; (with_reducible refine (new_any _).mono ?_); rintro e wr ⟨rfl, kk⟩; have Y := Lib.hid (Y.out.next kk); clear kk) | (go_at_call 8; (with_reducible refine (right_new _).mono ?_); rintro e wr ⟨rfl, kk⟩; have Y := Lib.hid (Y.out.next kk); clear kk) | fail)
      go_ret
      exact ⟨rfl, below_then X.out.below Y.out.below⟩

end Go.Proofs.Ytmbaimcneffnlaa
