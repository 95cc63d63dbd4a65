/- A machine of its bytes. -/
import Derived.Test.YtgflnfmnjlmenaaYQC
namespace Go.Proofs.Ytgflnfmnjlmenaa
open Go.RowKit Go.Deep Go.Joins
set_option maxRecDepth 100000
def ReadOk (s : ByteArray) (head data : ByteArray) (F : List ByteArray) (h : 73 ≤ F.length) : Prop := unpackF s = some [head, data] ∧ JoinOk head data F h
def ReadR (s : ByteArray) (W : World) (e : Ending) (W' : World) : Prop :=
  Below W.heap.size W W' ∧ ((∃ head data F h dv mv q c, ReadOk s head data F h ∧ e = .returned (.tuple #[mcV (joinM F h dv mv q c), .int .i64 0]) ∧ dv.oneCell' = true ∧ mv.oneCell' = true ∧ ∀ w', (∀ k, W.heap.size ≤ k → k < W'.heap.size → w'.heap[k]? = W'.heap[k]?) → MR w' (joinM F h dv mv q c) (joinP F data)) ∨
    ((∀ head data F h, ¬ ReadOk s head data F h) ∧ e = .returned (.tuple #[mcV mcZ, .int .i64 170])))
theorem unF_size : ∀ (n : Nat) (r : ByteArray) (L : List ByteArray), unF n r = some L → ∀ f ∈ L, f.size ≤ 131072
  | 0, r, L, h => by
    unfold unF at h
    split at h
    · cases h; intro f hf; cases hf
    · cases h
  | n + 1, r, L, h => by
    unfold unF at h
    cases hf : firstF r with
    | none => rw [hf] at h; cases h
    | some f =>
      rw [hf] at h
      cases hu : unF n (r.extract (4 + f.size) r.size) with
      | none => simp [hu] at h
      | some L' =>
        simp [hu] at h
        subst h
        intro g hg
        rcases List.mem_cons.1 hg with rfl | hg
        · exact (firstF_size hf).2.1
        · exact unF_size n _ _ hu g hg
theorem unpackF_size {s : ByteArray} {L : List ByteArray} (h : unpackF s = some L) : ∀ f ∈ L, f.size ≤ 131072 := by
  unfold unpackF at h
  split at h
  · exact unF_size _ _ _ h
  · cases h
theorem read_bad {s : ByteArray} {W W' : World} {e : Ending} (hn : ∀ head data F h, ¬ ReadOk s head data F h) (he : e = .returned (.tuple #[mcV mcZ, .int .i64 170])) (hb : Below W.heap.size W W') : ReadR s W e W' := ⟨hb, .inr ⟨hn, he⟩⟩
set_option maxHeartbeats 4000000 in
theorem read_un (s : ByteArray) (W : World) (hs : s.size ≤ 9223372036854775807) (h : ∀ F, unpackF s = some F → F.length ≠ 2) : Calls Try.prog 7 #[.string s] W (ReadR s W) := by
  have HN := Lib.hid (show ∀ head data F h, ¬ ReadOk s head data F h from fun head data F h73 x => h _ x.1 rfl)
  have U := Lib.hid (fun w => unpack_any s w hs)
  unfold UnR at U
  have HQ := Lib.hid h
  clear h
  go_enter Try.func7, Try.ntmps7
  go_upto_region 1 with (fail)
  have G1 := Lib.hid (show (W.alloc (.cells zc42 42)).heap[W.heap.size]? = some (.cells zc42 42 (0, 0)) from heap_alloc_last W _)
  have BA := Lib.hid (below1 W (.cells zc42 42))
  generalize W.alloc (.cells zc42 42) = wa at G1 BA ⊢
  cases hu : unpackF s with
  | none =>
    rw [hu] at U
    clear HQ hu
    go_wp2_with (first | (go_at_call 12; (with_reducible refine (U.out _).mono ?_); rintro e wb ⟨rfl, kk⟩; have G2 := Lib.hid ((kk.block _ (Array.getElem?_eq_some_iff.1 G1.out).1).trans G1.out); have B2 := Lib.hid (below_then BA.out kk); clear kk) | ((with_reducible show wpList _ _ _ (⟨some 18, Op.build 42 _, _, _, _, _⟩ :: _) _ _); refine wpList_exec (by kernel_rfl) (exec_build0 rfl built42z) ?_; simp only [Act.put, List.setIfInBounds_toArray, List.set_cons_zero, List.set_cons_succ]) | (with_reducible refine wpList_store_by rfl rfl (MBox.store mcZ mcZ_one G2.out (by kernel_rfl)) rfl rfl ?_) | fail)
    refine bodyPost_ret (v := .tuple #[mcV mcZ, .int .i64 170]) (results_mc Try.results7 _ _ W.heap.size _ _ rfl (setRow_heap wb W.heap.size _ _ 42 (0, 0) G2.out) rfl) rfl (read_bad HN.out rfl (below_setRow B2.out (Nat.le_refl _) _))
  | some F =>
    rw [hu] at U
    have hl := HQ.out F hu
    have hl2 : ((F.length : Int) != 2) = true := by rw [bne_iff_ne]; omega
    clear HQ hu
    go_wp2_with (first | (go_at_call 12; (with_reducible refine (U.out _).mono ?_); rintro e wb ⟨q, c, rfl, ho, kk⟩; have G2 := Lib.hid ((kk.block _ (Array.getElem?_eq_some_iff.1 G1.out).1).trans G1.out); have B2 := Lib.hid (below_then BA.out kk); clear kk ho) | ((with_reducible show wpList _ _ _ (⟨some 18, Op.build 42 _, _, _, _, _⟩ :: _) _ _); refine wpList_exec (by kernel_rfl) (exec_build0 rfl built42z) ?_; simp only [Act.put, List.setIfInBounds_toArray, List.set_cons_zero, List.set_cons_succ]) | (with_reducible refine wpList_store_by rfl rfl (MBox.store mcZ mcZ_one G2.out (by kernel_rfl)) rfl rfl ?_) | fail)
    refine bodyPost_ret (v := .tuple #[mcV mcZ, .int .i64 170]) (results_mc Try.results7 _ _ W.heap.size _ _ rfl (setRow_heap wb W.heap.size _ _ 42 (0, 0) G2.out) rfl) rfl (read_bad HN.out rfl (below_setRow B2.out (Nat.le_refl _) _))
theorem ld_s {w : World} {a : Addr} {x : ByteArray} (h : w.cell? a = some (.string x)) : (Instr.loadAt 9 (.pointer (some a))).run Try.prog w = .ok (.string x) w := by
  have hagg : (isAgg 9).run Try.prog w = .ok false w := by
    unfold isAgg
    rw [Sem.run_bind, run_underlying Try.underlying9 w]
    rfl
  simp [Instr.loadAt, Instr.sureAddr, loadVar, Sem.run_bind, hagg, h]
theorem calls_join {hd data : ByteArray} {W : World} (h : Calls Try.prog 13 #[.string hd, .string data] W (JoinR hd data W)) : Calls Try.prog 13 #[.string hd, .string data] W fun e w' => ∃ u, e = .returned u ∧ ∃ (x : Mc) (k : Int), u = .tuple #[mcV x, .int .i64 k] ∧ Mc1 x ∧ JoinR hd data W (.returned u) w' :=
  h.mono fun e w' hj => by
    obtain ⟨hb, hj⟩ := hj
    rcases hj with ⟨F, h, dv, mv, q, c, h1, rfl, h2, h3, h4⟩ | ⟨h1, rfl⟩
    · exact ⟨_, rfl, _, 0, rfl, ⟨h2, h3, rfl⟩, hb, .inl ⟨F, h, dv, mv, q, c, h1, rfl, h2, h3, h4⟩⟩
    · exact ⟨_, rfl, mcZ, 170, rfl, mcZ_one, hb, .inr ⟨h1, rfl⟩⟩
set_option maxHeartbeats 4000000 in
theorem read_two (s hd data : ByteArray) (W : World) (hs9 : s.size ≤ 9223372036854775807) (hu : unpackF s = some [hd, data]) : Calls Try.prog 7 #[.string s] W (ReadR s W) := by
  have HU := Lib.hid hu
  have U := Lib.hid (fun w => unpack_any s w hs9)
  unfold UnR at U
  rw [hu] at U
  have J := Lib.hid (fun w => join_any hd data w (by have := unpackF_size hu hd (by simp); omega) (by have := unpackF_size hu data (by simp); omega))
  clear hu
  go_enter Try.func7, Try.ntmps7
  go_upto_region 1 with (fail)
  have G1 := Lib.hid (show (W.alloc (.cells zc42 42)).heap[W.heap.size]? = some (.cells zc42 42 (0, 0)) from heap_alloc_last W _)
  have BA := Lib.hid (below1 W (.cells zc42 42))
  generalize W.alloc (.cells zc42 42) = wa at G1 BA ⊢
  go_upto_region 4 with (first | (go_at_call 12; (with_reducible refine (U.out _).mono ?_); rintro e wb ⟨q, c, rfl, ho, kk⟩; have G2 := Lib.hid ((kk.block _ (Array.getElem?_eq_some_iff.1 G1.out).1).trans G1.out); have B2 := Lib.hid (below_then BA.out kk); have O2 := Lib.hid ho; clear kk ho) | fail)
  obtain ⟨g, rfl, hg, _, _, hBg⟩ := own_ptr (show wb.ownsRow wa.heap.size 9 1 (.slice q 2 c) 2 (sC [hd, data]) from O2.out) (by decide)
  have c0 : wb.cell? ⟨g, 0, none⟩ = some (.string hd) := fs_cell O2.out 0 (by simp)
  have c1 : wb.cell? ⟨g, 1, none⟩ = some (.string data) := fs_cell O2.out 1 (by simp)
  have NG := Lib.hid (show g ≠ W.heap.size from fun e => by have := (Array.getElem?_eq_some_iff.1 G1.out).1; omega)
  refine dr (fun w => w.cell? ⟨g, 0, none⟩ = some (.string hd) ∧ w.cell? ⟨g, 1, none⟩ = some (.string data)) fun wz hzz => ?_
  have hS : wz.cell? ⟨g, 0, none⟩ = some (.string hd) ∧ wz.cell? ⟨g, 1, none⟩ = some (.string data) := ⟨(hzz.cell (p := ⟨g, 0, none⟩) hg).trans c0, (hzz.cell (p := ⟨g, 1, none⟩) hg).trans c1⟩
  have GZ := (hzz.block _ (Array.getElem?_eq_some_iff.1 G2.out).1).trans G2.out
  have BZ := below_then B2.out hzz
  clear hzz c0 c1 G1 BA
  refine tk 0 hS ?_
  refine tk 1 hS ?_
  refine tl 2 hS (fun w hw => ld_s hw.1) ?_
  refine tk 3 hS ?_
  refine tk 4 hS ?_
  refine tl 5 hS (fun w hw => ld_s hw.2) ?_
  refine hc 6 (calls_join (J.out wz)) ?_
  rintro v' wj ⟨x, k, rfl, x1, hj⟩
  have hb := hj.1
  have hS2 : wj.cell? ⟨g, 0, none⟩ = some (.string hd) ∧ wj.cell? ⟨g, 1, none⟩ = some (.string data) := ⟨(hb.cell (p := ⟨g, 0, none⟩) (lt_of_cell hS.1)).trans hS.1, (hb.cell (p := ⟨g, 1, none⟩) (lt_of_cell hS.2)).trans hS.2⟩
  refine ⟨hS2, fun hS => ?_⟩
  simp only [puts]
  refine tk 7 hS ?_
  refine tk 8 hS ?_
  have GJ := (hb.block _ (Array.getElem?_eq_some_iff.1 GZ).1).trans GZ
  refine hs 9 (MBox.store x x1 GJ (by kernel_rfl)) fun wy hw => ?_
  have ng := NG.out
  have hS3 : wy.cell? ⟨g, 0, none⟩ = some (.string hd) ∧ wy.cell? ⟨g, 1, none⟩ = some (.string data) := by
    have hb : ∀ j, wy.cell? ⟨g, j, none⟩ = wj.cell? ⟨g, j, none⟩ := fun j => World.cell?_of_block (a := ⟨g, j, none⟩) (by subst hw; exact setRow_other _ _ _ _ ng)
    exact ⟨(hb _).trans hS.1, (hb _).trans hS.2⟩
  refine ⟨hS3, fun hS => ?_⟩
  refine tk 10 hS ?_
  refine wpAnyH_done (by kernel_rfl) ?_ _
  have HB := Lib.hid (show Below W.heap.size W wy from by subst hw; exact below_setRow (below_then BZ hb) (Nat.le_refl _) _)
  have HK := Lib.hid (show MBox wy W.heap.size x from by subst hw; exact MBox.mine GJ x)
  have HT := Lib.hid (show ∀ k, wz.heap.size ≤ k → k < wj.heap.size → wy.heap[k]? = wj.heap[k]? from fun k h1 h2 => by subst hw; exact setRow_other _ _ _ _ (fun e => by have := (Array.getElem?_eq_some_iff.1 GZ).1; omega))
  have HSZ := Lib.hid (show wj.heap.size = wy.heap.size ∧ W.heap.size ≤ wz.heap.size from ⟨by subst hw; simp, BZ.size⟩)
  have HJ := Lib.hid hj.2
  clear hS hS2 hS3 hw hj hb GZ BZ GJ
  go_wp2_with fail
  refine bodyPost_ret (v := .tuple #[mcV x, .int .i64 k]) (results_mc Try.results7 _ _ W.heap.size _ _ rfl HK.out rfl) rfl ⟨HB.out, ?_⟩
  rcases HJ.out with ⟨F, h, dv, mv, q, c, h1, h2, h3, h4, h5⟩ | ⟨h1, h2⟩
  · refine .inl ⟨hd, data, F, h, dv, mv, q, c, ⟨HU.out, h1⟩, h2, h3, h4, fun w' hw' => h5 w' fun k a b => ?_⟩
    rw [hw' k (Nat.le_trans HSZ.out.2 a) (by rw [← HSZ.out.1]; exact b)]
    exact HT.out k a b
  · refine .inr ⟨fun head data' F h y => ?_, h2⟩
    have := y.1
    rw [HU.out] at this
    simp only [Option.some.injEq, List.cons.injEq, and_true] at this
    obtain ⟨rfl, rfl⟩ := this
    exact h1 F h y.2
theorem read_m (s : ByteArray) (W : World) (hs : s.size ≤ 9223372036854775807) : Calls Try.prog 7 #[.string s] W (ReadR s W) := by
  by_cases h : ∀ F, unpackF s = some F → F.length ≠ 2
  · exact read_un s W hs h
  · obtain ⟨F, h⟩ := Classical.not_forall.1 h
    obtain ⟨hu, h2⟩ := Classical.not_imp.1 h
    have h2 : F.length = 2 := Classical.not_not.1 h2
    match F, h2, hu with
    | [hd, data], _, hu => exact read_two s hd data W hs hu
end Go.Proofs.Ytgflnfmnjlmenaa
