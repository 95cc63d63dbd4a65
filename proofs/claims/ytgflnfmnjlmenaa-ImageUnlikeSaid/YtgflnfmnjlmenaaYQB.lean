/- Join's walk. -/
import Derived.Test.YtgflnfmnjlmenaaYQA
namespace Go.Proofs.Ytgflnfmnjlmenaa
open Go.RowKit Go.Deep Go.Joins
set_option maxRecDepth 100000
theorem join_bad {head data : ByteArray} {W W' : World} {e : Ending} (hn : ∀ F h, ¬ JoinOk head data F h) (he : e = .returned (.tuple #[mcV mcZ, .int .i64 170])) (hb : Below W.heap.size W W') : JoinR head data W e W' := ⟨hb, .inr ⟨hn, he⟩⟩
set_option maxHeartbeats 4000000 in
theorem join_un (head data : ByteArray) (W : World) (hs : head.size ≤ 9223372036854775807) (h : ∀ F, unpackF head = some F → F.length < 73) : Calls Try.prog 13 #[.string head, .string data] W (JoinR head data W) := by
  have HN := Lib.hid (show ∀ F h, ¬ JoinOk head data F h from fun F h73 x => by have := h F x.1; omega)
  have U := Lib.hid (fun w => unpack_any head w hs)
  unfold UnR at U
  have HQ := Lib.hid h
  clear h
  go_enter Try.func13, Try.ntmps13
  go_upto_region 1 with (fail)
  have G1 := Lib.hid (show (W.alloc (.cells zc42 42)).heap[W.heap.size]? = some (.cells zc42 42 (0, 0)) from heap_alloc_last W _)
  have BA := Lib.hid (below1 W (.cells zc42 42))
  generalize W.alloc (.cells zc42 42) = wa at G1 BA ⊢
  cases hu : unpackF head with
  | none =>
    rw [hu] at U
    clear HQ hu
    go_wp2_with (first | (go_at_call 12; (with_reducible refine (U.out _).mono ?_); rintro e wb ⟨rfl, kk⟩; have G2 := Lib.hid ((kk.block _ (Array.getElem?_eq_some_iff.1 G1.out).1).trans G1.out); have B2 := Lib.hid (below_then BA.out kk); clear kk) | ((with_reducible show wpList _ _ _ (⟨some 23, Op.build 42 _, _, _, _, _⟩ :: _) _ _); refine wpList_exec (by kernel_rfl) (exec_build0 rfl built42z) ?_; simp only [Act.put, List.setIfInBounds_toArray, List.set_cons_zero, List.set_cons_succ]) | (with_reducible refine wpList_store_by rfl rfl (MBox.store mcZ mcZ_one G2.out (by kernel_rfl)) rfl rfl ?_) | fail)
    refine bodyPost_ret (v := .tuple #[mcV mcZ, .int .i64 170]) (results_mc Try.results13 _ _ W.heap.size _ _ rfl (setRow_heap wb W.heap.size _ _ 42 (0, 0) G2.out) rfl) rfl (join_bad HN.out rfl (below_setRow B2.out (Nat.le_refl _) _))
  | some F =>
    rw [hu] at U
    have hl := HQ.out F hu
    have hl2 : (F.length : Int) < 73 := by omega
    clear HQ hu
    go_wp2_with (first | (go_at_call 12; (with_reducible refine (U.out _).mono ?_); rintro e wb ⟨q, c, rfl, ho, kk⟩; have G2 := Lib.hid ((kk.block _ (Array.getElem?_eq_some_iff.1 G1.out).1).trans G1.out); have B2 := Lib.hid (below_then BA.out kk); clear kk ho) | ((with_reducible show wpList _ _ _ (⟨some 23, Op.build 42 _, _, _, _, _⟩ :: _) _ _); refine wpList_exec (by kernel_rfl) (exec_build0 rfl built42z) ?_; simp only [Act.put, List.setIfInBounds_toArray, List.set_cons_zero, List.set_cons_succ]) | (with_reducible refine wpList_store_by rfl rfl (MBox.store mcZ mcZ_one G2.out (by kernel_rfl)) rfl rfl ?_) | fail)
    refine bodyPost_ret (v := .tuple #[mcV mcZ, .int .i64 170]) (results_mc Try.results13 _ _ W.heap.size _ _ rfl (setRow_heap wb W.heap.size _ _ 42 (0, 0) G2.out) rfl) rfl (join_bad HN.out rfl (below_setRow B2.out (Nat.le_refl _) _))
end Go.Proofs.Ytgflnfmnjlmenaa
