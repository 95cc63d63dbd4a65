/- May a page be used so: the program. -/
import Derived.Test.YtmjlgoceokdabaaJ
namespace Go.Proofs.Ytmjlgoceokdabaa
open Go.RowKit Go.Deep Go.Joins
set_option maxRecDepth 100000 in
set_option maxHeartbeats 2000000 in
theorem used_any (C : Array Value) (ms sp mode e kind : Int) (h : CsrAt C ms sp) (h0 : 0 ≤ kind) (h2 : kind ≤ 2) (W : World) : Calls Try.prog 20 #[.agg C, .int .i64 mode, .int .u64 e, .int .i64 kind] W fun e' W' => e' = .returned (.bool (usedB ms mode e kind)) ∧ Below W.heap.size W W' := by
  have f0 := h.f0
  have hC := h.size
  have b0 := Lib.hid (Box.new W C)
  have H := Lib.hid h
  clear h
  have cM := Lib.hid fun (m : Int) (u : Bool) (k : Int) W => may_any C ms sp m u k H.out W
  clear H
  rcases Bool.eq_false_or_eq_true (bits .and .u64 e 64 == 0) with a | a
  · go_enter Try.func20, Try.ntmps20
    go_wp2
    go_ret
    exact ⟨ret_bool (by simp [usedB, *]), below1 W _⟩
  have HB : ∀ b, mayB ms mode (bits .and .u64 e 16 != 0) kind = b → Hid (mayB ms mode (bits .and .u64 e 16 != 0) kind = b) := fun _ h => Lib.hid h
  rcases Bool.eq_false_or_eq_true (mayB ms mode (bits .and .u64 e 16 != 0) kind) with b | b
  rotate_left
  · replace b := HB _ b
    clear HB
    go_enter Try.func20, Try.ntmps20
    go_wp2_with (first | (with_reducible show wpList _ _ _ (⟨some 13, Op.load 24 (.tmp 4), 24, _, _, _⟩ :: _) _ _; refine wpList_load_wanted (by kernel_rfl) rfl (Box.load (b0.out) hC) rfl ?_; simp only [Act.put, List.setIfInBounds_toArray, List.set_cons_zero, List.set_cons_succ]) | (go_at_call 28; (with_reducible refine (cM.out _ _ _ _).mono ?_); rintro e' w1 ⟨rfl, k1⟩; rw [b.out]; have c0 := Lib.hid ((((b0.out).next k1).cell 0).trans f0); have k1 := Lib.hid k1) | fail)
    go_ret
    exact ⟨ret_bool (by have := b.out; simp [usedB, nzV, *]), below_then (below1 W _) k1.out⟩
  replace b := HB _ b
  clear HB
  rcases (show kind = 0 ∨ kind = 1 ∨ kind = 2 by omega) with hk | hk | hk
  · subst hk
    rcases Bool.eq_false_or_eq_true (bits .and .u64 e 8 != 0) with c0 | c0
    all_goals
      go_enter Try.func20, Try.ntmps20
      go_wp2_with (first | (with_reducible show wpList _ _ _ (⟨some 13, Op.load 24 (.tmp 4), 24, _, _, _⟩ :: _) _ _; refine wpList_load_wanted (by kernel_rfl) rfl (Box.load (b0.out) hC) rfl ?_; simp only [Act.put, List.setIfInBounds_toArray, List.set_cons_zero, List.set_cons_succ]) | (go_at_call 28; (with_reducible refine (cM.out _ _ _ _).mono ?_); rintro e' w1 ⟨rfl, k1⟩; rw [b.out]; have c0 := (((b0.out).next k1).cell 0).trans f0; have k1 := Lib.hid k1) | fail)
      go_ret
      exact ⟨ret_bool (by have := b.out; simp [usedB, nzV, *]), below_then (below1 W _) k1.out⟩
  · subst hk
    rcases Bool.eq_false_or_eq_true (bits .and .u64 e 2 != 0) with c0 | c0
    all_goals rcases Bool.eq_false_or_eq_true (bits .and .u64 e 8 != 0) with c1 | c1
    all_goals rcases Bool.eq_false_or_eq_true (bits .and .u64 ms 524288 != 0) with c2 | c2
    all_goals
      go_enter Try.func20, Try.ntmps20
      go_wp2_with (first | (with_reducible show wpList _ _ _ (⟨some 13, Op.load 24 (.tmp 4), 24, _, _, _⟩ :: _) _ _; refine wpList_load_wanted (by kernel_rfl) rfl (Box.load (b0.out) hC) rfl ?_; simp only [Act.put, List.setIfInBounds_toArray, List.set_cons_zero, List.set_cons_succ]) | (go_at_call 28; (with_reducible refine (cM.out _ _ _ _).mono ?_); rintro e' w1 ⟨rfl, k1⟩; rw [b.out]; have c0 := (((b0.out).next k1).cell 0).trans f0; have k1 := Lib.hid k1) | fail)
      go_ret
      exact ⟨ret_bool (by have := b.out; simp [usedB, nzV, *]), below_then (below1 W _) k1.out⟩
  · subst hk
    rcases Bool.eq_false_or_eq_true (bits .and .u64 e 4 != 0) with c0 | c0
    all_goals rcases Bool.eq_false_or_eq_true (bits .and .u64 e 128 != 0) with c1 | c1
    all_goals
      go_enter Try.func20, Try.ntmps20
      go_wp2_with (first | (with_reducible show wpList _ _ _ (⟨some 13, Op.load 24 (.tmp 4), 24, _, _, _⟩ :: _) _ _; refine wpList_load_wanted (by kernel_rfl) rfl (Box.load (b0.out) hC) rfl ?_; simp only [Act.put, List.setIfInBounds_toArray, List.set_cons_zero, List.set_cons_succ]) | (go_at_call 28; (with_reducible refine (cM.out _ _ _ _).mono ?_); rintro e' w1 ⟨rfl, k1⟩; rw [b.out]; have c0 := (((b0.out).next k1).cell 0).trans f0; have k1 := Lib.hid k1) | fail)
      go_ret
      exact ⟨ret_bool (by have := b.out; simp [usedB, nzV, *]), below_then (below1 W _) k1.out⟩

end Go.Proofs.Ytmjlgoceokdabaa
