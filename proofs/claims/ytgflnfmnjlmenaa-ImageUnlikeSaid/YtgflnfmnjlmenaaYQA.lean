/- A new machine that may not be; a new machine of the reference. A new machine of the reference. A machine of a head and a memory. -/
import Derived.Test.YtgflnfmnjlmenaaYNN
namespace Go.Proofs.Ytgflnfmnjlmenaa
open Go.RowKit Go.Deep Go.Joins
set_option maxRecDepth 100000
theorem exec_build0 {P : Program} {ρ : Operand → Value} {o : Oper} {t : TypeId} {cells : Array Value} {w : World} (ho : o.op = .build t #[]) (h : P.built t [] = some cells) : (execOp ρ o).run P w = .ok (.value (.agg cells)) w := by
  simp [execOp, ho, run_build w t #[] cells h, Result.andThen]
theorem built42z : Try.prog.built 42 [] = some (mcC mcZ) := by kernel_rfl
theorem mcZ_one : Mc1 mcZ := ⟨rfl, rfl, rfl⟩
set_option maxHeartbeats 4000000 in
theorem mnew_err (n : Int) (s : ByteArray) (W : World) (k : Int) (hk : k ≠ 0) (C : ∀ w, Calls Try.prog 34 #[.int .i64 n, .string s] w fun e w' => e = .returned (.tuple #[.agg #[.slice none 0 0, .slice none 0 0, .int .u64 0], .int .i64 k]) ∧ Below w.heap.size w w') :
    Calls Try.prog 26 #[.string s, .int .i64 n] W fun e W' => e = .returned (.tuple #[mcV mcZ, .int .i64 k]) ∧ Below W.heap.size W W' := by
  have C1 := Lib.hid C
  have hb : (k != 0) = true := by rw [bne_iff_ne]; exact hk
  clear C
  go_enter Try.func26, Try.ntmps26
  go_upto_region 1 with (fail)
  have G1 := Lib.hid (show (W.alloc (.cells zc42 42)).heap[W.heap.size]? = some (.cells zc42 42 (0, 0)) from heap_alloc_last W _)
  have BA := Lib.hid (below1 W (.cells zc42 42))
  generalize W.alloc (.cells zc42 42) = wa at G1 BA ⊢
  go_upto_region 2 with (first | (go_at_call 34; (with_reducible refine (C1.out _).mono ?_); rintro e wb ⟨rfl, kk⟩; have G2 := Lib.hid ((kk.block _ (Array.getElem?_eq_some_iff.1 G1.out).1).trans G1.out); have B2 := Lib.hid (below_then BA.out kk); clear kk) | fail)
  have G3 := Lib.hid (((below1 wb (.cells #[.slice none 0 0, .slice none 0 0, .int .u64 0] 39)).block _ (Array.getElem?_eq_some_iff.1 G2.out).1).trans G2.out)
  have B3 := Lib.hid (below_then B2.out (below1 wb (.cells #[.slice none 0 0, .slice none 0 0, .int .u64 0] 39)))
  generalize wb.heap.size = gr at *
  generalize wb.alloc (.cells #[.slice none 0 0, .slice none 0 0, .int .u64 0] 39) = wc at G3 B3 ⊢
  go_wp2_with (first | ((with_reducible show wpList _ _ _ (⟨some 17, Op.build 42 _, _, _, _, _⟩ :: _) _ _); refine wpList_exec (by kernel_rfl) (exec_build0 rfl built42z) ?_; simp only [Act.put, List.setIfInBounds_toArray, List.set_cons_zero, List.set_cons_succ]) | (with_reducible refine wpList_store_by rfl rfl (MBox.store mcZ mcZ_one G3.out (by kernel_rfl)) rfl rfl ?_) | fail)
  refine bodyPost_ret (v := .tuple #[mcV mcZ, .int .i64 k]) (results_mc Try.results26 _ _ W.heap.size _ _ rfl (setRow_heap wc W.heap.size _ _ 42 (0, 0) G3.out) rfl) rfl ⟨rfl, below_setRow B3.out (Nat.le_refl _) _⟩
theorem mnew_no (n : Int) (s : ByteArray) (W : World) (h : ¬ (1 ≤ n ∧ n ≤ 256 ∧ (s.size : Int) ≤ n * 256)) : ∃ k : Int, k ≠ 0 ∧ Calls Try.prog 26 #[.string s, .int .i64 n] W fun e W' => e = .returned (.tuple #[mcV mcZ, .int .i64 k]) ∧ Below W.heap.size W W' := by
  by_cases h1 : 1 ≤ n ∧ n ≤ 256
  · exact ⟨2, by decide, mnew_err n s W 2 (by decide) fun w => new_long n s w h1.1 h1.2 (by omega)⟩
  · exact ⟨50, by decide, mnew_err n s W 50 (by decide) fun w => new_ram n s w h1⟩
end Go.Proofs.Ytgflnfmnjlmenaa
namespace Go.Proofs.Ytgflnfmnjlmenaa
open Go.RowKit Go.Deep Go.Joins
set_option maxRecDepth 100000
theorem built35n (zs : ByteArray) : Try.prog.built 35 [(1, .int .u64 18446744073709551615), (4, .string zs)] = some (bdC { bdZ with cmp := 18446744073709551615, sec := zs }) := by kernel_rfl
set_option maxHeartbeats 1000000 in
theorem rdnew_any (W : World) : Calls Try.prog 17 #[] W fun e W' => e = .returned (bdV bdN) ∧ Below W.heap.size W W' := by
  have X := Lib.hid (show Box (W.alloc zeroO) W.heap.size bdZ from Box.new W bdZ)
  have hb0 := below1 W zeroO
  have hmd : (Instr.makeSlice 36 (.int .i64 1024) (.int .i64 1024)).run Try.prog (W.alloc zeroO) = .ok (.slice (some ⟨(W.alloc zeroO).heap.size, 0, none⟩) 1024 1024) ((W.alloc zeroO).alloc (.cells (dC (List.replicate 1024 0)).toArray 5)) := make_d 1024 (by decide) _
  have hstr := str_new (W.alloc zeroO) (List.replicate 1024 0) (by rw [List.length_replicate]; unfold maxLen; omega)
  rw [List.length_replicate] at hstr
  have Y := Lib.hid (X.out.next (below1 _ (.cells (dC (List.replicate 1024 0)).toArray 5)))
  have HB := Lib.hid (below_then hb0 (below1 _ (.cells (dC (List.replicate 1024 0)).toArray 5)))
  obtain ⟨z, hz⟩ : ∃ z, z = (⟨(List.replicate 1024 (0 : UInt8)).toArray⟩ : ByteArray) := ⟨_, rfl⟩
  rw [← hz] at hstr
  obtain ⟨r, hr⟩ : ∃ r, r = (dC (List.replicate 1024 0)).toArray := ⟨_, rfl⟩
  rw [← hr] at hmd hstr Y HB
  have HZ : RowKit.Hid (({ bdZ with cmp := 18446744073709551615, sec := z } : Bd) = bdN) := Lib.hid (by subst hz; rfl)
  clear hz hr hb0
  go_enter Try.func17, Try.ntmps17
  go_upto_region 1 with (fail)
  clear X
  generalize W.alloc zeroO = u at hmd hstr Y HB ⊢
  have ST := Lib.hid (show ∀ w, Box w W.heap.size bdZ → (Instr.storeAt 35 (.pointer (some ⟨W.heap.size, 0, none⟩)) (bdV { bdZ with cmp := 18446744073709551615, sec := z })).run Try.prog w = .ok () (w.setRow W.heap.size (bdC { bdZ with cmp := 18446744073709551615, sec := z })) from fun w h => run_storeVar_row (P := Try.prog) w W.heap.size 35 35 (bdC bdZ) _ h (by rw [size35, bdC_size]) (by rw [bdC_size, bdC_size]) (bd_one _))
  go_wp2_with (first | ((with_reducible show wpList _ _ _ (⟨some 3, Op.build 35 _, _, _, _, _⟩ :: _) _ _); refine wpList_exec (by kernel_rfl) (exec_build2 rfl rfl rfl (built35n z)) ?_; simp only [Act.put, List.setIfInBounds_toArray, List.set_cons_zero, List.set_cons_succ]) | (with_reducible refine wpList_store_by rfl rfl (ST.out _ Y.out) rfl rfl ?_) | fail)
  refine bodyPost_ret (v := bdV { bdZ with cmp := 18446744073709551615, sec := z }) (results_cell_row Try.results17 _ _ W.heap.size 35 (bdC ({ bdZ with cmp := 18446744073709551615, sec := z })) (0, 0) _ rfl (setRow_heap _ W.heap.size _ _ 35 (0, 0) Y.out) Try.underlying35 rfl (by rw [size35, bdC_size])) rfl ⟨by rw [HZ.out], below_setRow HB.out (Nat.le_refl _) _⟩
set_option maxHeartbeats 4000000 in
theorem rmnew_any (n : Nat) (s : ByteArray) (W : World) (h1 : 1 ≤ n) (h2 : n ≤ 256) (hsz : s.size ≤ n * 256) : Calls Try.prog 9 #[.string s, .int .i64 n] W (NewM W (spl (List.replicate (n * 256) 0) 0 s) (List.replicate n 0)) := by
  have C1 := Lib.hid (fun w => rnew_any n s w h1 h2 hsz)
  generalize spl (List.replicate (n * 256) 0) 0 s = D at C1 ⊢
  generalize List.replicate n (0 : Int) = M at C1 ⊢
  clear h1 h2 hsz
  go_enter Try.func9, Try.ntmps9
  go_upto_region 1 with (fail)
  have G1 := Lib.hid (show (W.alloc (.cells zc42 42)).heap[W.heap.size]? = some (.cells zc42 42 (0, 0)) from heap_alloc_last W _)
  have BA := Lib.hid (below1 W (.cells zc42 42))
  generalize W.alloc (.cells zc42 42) = wa at G1 BA ⊢
  go_upto_region 2 with (first | (go_at_call 16; (with_reducible refine (C1.out _).mono ?_); rintro e wb ⟨dv, mv, rfl, hD, hM, kk⟩; obtain ⟨p1, c1, rfl⟩ := owns_shape hD; obtain ⟨p2, c2, rfl⟩ := owns_shape hM; have X := Lib.hid (show NewAt W wb p1 p2 c1 c2 D M from ⟨(kk.block _ (Array.getElem?_eq_some_iff.1 G1.out).1).trans G1.out, owns_base hD BA.out.size, owns_base hM BA.out.size, below_then BA.out kk⟩); clear hD hM kk) | fail)
  have X2 := Lib.hid (X.out.next (below1 wb (.cells #[.slice p1 D.length c1, .slice p2 M.length c2, .int .u64 0] 39)))
  have Y2 := Lib.hid (show (wb.alloc (.cells #[.slice p1 D.length c1, .slice p2 M.length c2, .int .u64 0] 39)).heap[wb.heap.size]? = some (.cells #[.slice p1 D.length c1, .slice p2 M.length c2, .int .u64 0] 39 (0, 0)) from heap_alloc_last wb _)
  clear X G1 BA
  generalize wb.heap.size = gr at Y2 ⊢
  generalize wb.alloc (.cells #[.slice p1 D.length c1, .slice p2 M.length c2, .int .u64 0] 39) = wc at X2 Y2 ⊢
  go_upto_region 4 with (fail)
  refine dr (fun w => w.heap[gr]? = some (.cells #[.slice p1 D.length c1, .slice p2 M.length c2, .int .u64 0] 39 (0, 0))) fun wz hzz => ?_
  have hS : wz.heap[gr]? = some (.cells #[.slice p1 D.length c1, .slice p2 M.length c2, .int .u64 0] 39 (0, 0)) := (hzz.block gr (Array.getElem?_eq_some_iff.1 Y2.out).1).trans Y2.out
  have X4 := X2.out.next hzz
  clear hzz X2 Y2
  refine tk 0 hS ?_ (hy := by exact .inl ⟨by kernel_rfl, fun w _ => exec_build2 rfl rfl rfl built27n⟩)
  refine tl 2 hS (fun w hw => aw_ram hw) ?_
  refine hc 1 (calls_told (rdnew_any wz)) ?_
  rintro v' we ⟨rfl, kk⟩
  have X5 := X4.next kk
  refine ⟨(kk.block gr (Array.getElem?_eq_some_iff.1 hS).1).trans hS, fun hS2 => ?_⟩
  clear kk hS X4
  simp only [puts]
  refine tk 3 hS2 ?_ (hy := by exact .inl ⟨by kernel_rfl, fun w _ => exec_build3 rfl rfl rfl rfl (built42n (.slice p1 D.length c1) (.slice p2 M.length c2))⟩)
  refine hs 4 (MBox.store (newMc (.slice p1 D.length c1) (.slice p2 M.length c2)) (Mc1.mk rfl rfl rfl) X5.res (by kernel_rfl)) fun wy hw => ?_
  have nr : gr ≠ W.heap.size := fun e => by
    have h := hS2
    rw [e, X5.res] at h
    simp only [Option.some.injEq, Obj.cells.injEq] at h
    exact absurd h.2.1 (by decide)
  refine ⟨by rw [hw]; exact (setRow_other we _ _ _ nr).trans hS2, fun hS3 => ?_⟩
  refine tk 5 hS3 ?_
  refine wpAnyH_done (by kernel_rfl) ?_ _
  have HK := Lib.hid (show MBox wy W.heap.size (newMc (.slice p1 D.length c1) (.slice p2 M.length c2)) from by rw [hw]; exact setRow_heap we W.heap.size _ _ 42 (0, 0) X5.res)
  have R := Lib.hid (show OwnD wy W.heap.size (.slice p1 D.length c1) D ∧ OwnM wy W.heap.size (.slice p2 M.length c2) M ∧ Below W.heap.size W wy from by
    rw [hw]
    exact ⟨owns_over X5.d X5.res (by decide) _, owns_over X5.m X5.res (by decide) _, below_setRow X5.below (Nat.le_refl _) _⟩)
  clear hw hS2 hS3 X5 nr
  go_wp2_with fail
  refine bodyPost_ret (v := .tuple #[mcV (newMc (.slice p1 D.length c1) (.slice p2 M.length c2)), .int .i64 0]) (results_mc Try.results9 _ _ W.heap.size _ _ rfl HK.out rfl) rfl ?_
  exact ⟨_, _, rfl, R.out⟩
end Go.Proofs.Ytgflnfmnjlmenaa
namespace Go.Proofs.Ytgflnfmnjlmenaa
open Go.RowKit Go.Deep Go.Joins
set_option maxRecDepth 100000
def leafs (data : ByteArray) : Nat := data.size / 256
def newOk (data : ByteArray) : Prop := 1 ≤ leafs data ∧ leafs data ≤ 256 ∧ data.size ≤ leafs data * 256
/-- What a machine that was joined is made of. -/
def joinM (F : List ByteArray) (h : 73 ≤ F.length) (dv mv : Value) (q : Option Addr) (c : Nat) : Mc := fillM (newMc dv mv) F h q c
def joinP (F : List ByteArray) (data : ByteArray) : Pt := ⟨F.drop 73, spl (List.replicate (leafs data * 256) 0) 0 data, List.replicate (leafs data) 0, []⟩
def joinV (F : List ByteArray) (h : 73 ≤ F.length) (data : ByteArray) : Value := headV (joinM F h (.slice none 0 0) (.slice none 0 0) none 0) (joinP F data)
theorem join_head (F : List ByteArray) (h : 73 ≤ F.length) (data : ByteArray) (dv mv : Value) (q : Option Addr) (c : Nat) : headV (joinM F h dv mv q c) (joinP F data) = joinV F h data := rfl
def JoinOk (head data : ByteArray) (F : List ByteArray) (h : 73 ≤ F.length) : Prop := unpackF head = some F ∧ newOk data ∧ joinV F h data = .tuple #[.string head, .int .i64 0]
def JoinR (head data : ByteArray) (W : World) (e : Ending) (W' : World) : Prop :=
  Below W.heap.size W W' ∧ ((∃ F h dv mv q c, JoinOk head data F h ∧ e = .returned (.tuple #[mcV (joinM F h dv mv q c), .int .i64 0]) ∧ dv.oneCell' = true ∧ mv.oneCell' = true ∧ ∀ w', (∀ k, W.heap.size ≤ k → k < W'.heap.size → w'.heap[k]? = W'.heap[k]?) → MR w' (joinM F h dv mv q c) (joinP F data)) ∨
    ((∀ F h, ¬ JoinOk head data F h) ∧ e = .returned (.tuple #[mcV mcZ, .int .i64 170])))
theorem rdI_in (f : ByteArray) : In64 (rdI f) := by
  unfold rdI
  split
  · have a := rd4_lt f 0
    have b := rd4_lt f 4
    unfold rd8
    exact ⟨by omega, by omega⟩
  · exact ⟨by omega, by omega⟩
theorem nt_in {L : List Int} (h : ∀ x ∈ L, In64 x) (j : Nat) : In64 (nt L j) := by
  unfold nt
  rw [List.getD_eq_getElem?_getD]
  cases hh : L[j]? with
  | none => exact ⟨by decide, by decide⟩
  | some x => exact h x (List.mem_of_getElem? hh)
theorem flV_in (b : Bool) : In64 (flV b) := by cases b <;> exact ⟨by decide, by decide⟩
theorem wrap_in (x : Int) : In64 (IntKind.u64.wrap x) := by rw [IntKind.wrap_u64]; exact ⟨by omega, by omega⟩
theorem map_in (F : List ByteArray) : ∀ x ∈ F.map rdI, In64 x := fun x hx => by obtain ⟨f, _, rfl⟩ := List.mem_map.1 hx; exact rdI_in f
theorem join_nok (F : List ByteArray) (h : 73 ≤ F.length) (dv mv : Value) (q : Option Addr) (c : Nat) : NOk (joinM F h dv mv q c) := by
  have a : ∀ x ∈ nums69 F, In64 x := map_in _
  have b : ∀ x ∈ nums2 F, In64 x := map_in _
  have t : ∀ k, ∀ x ∈ (nums69 F).take k, In64 x := fun k x hx => a x (List.mem_of_mem_take hx)
  have d : ∀ k, ∀ x ∈ (nums69 F).drop k, In64 x := fun k x hx => a x (List.mem_of_mem_drop hx)
  have td : ∀ i k, ∀ x ∈ ((nums69 F).take i).drop k, In64 x := fun i k x hx => t i x (List.mem_of_mem_drop hx)
  refine ⟨fun x hx => ?_, nt_in b 0, nt_in b 1⟩
  rcases List.mem_append.1 hx with hx | hx
  · unfold procL at hx
    rcases List.mem_append.1 hx with hx | hx
    · exact t 52 x (List.mem_of_mem_take hx)
    · simp only [procT, List.mem_cons, List.not_mem_nil, or_false] at hx
      rcases hx with rfl | rfl | rfl | rfl | rfl | rfl | rfl | rfl | rfl | rfl | rfl | rfl | rfl | rfl | rfl | rfl | rfl | rfl | rfl | rfl
      all_goals first | exact nt_in (td 52 32) _ | exact nt_in (td 52 36) _ | exact wrap_in _ | exact flV_in _
  · simp only [devL, List.mem_cons, List.not_mem_nil, or_false] at hx
    rcases hx with rfl | rfl | rfl | rfl | rfl | rfl | rfl | rfl | rfl | rfl | rfl | rfl | rfl | rfl | rfl | rfl | rfl
    all_goals first | exact nt_in (d 52) _ | exact wrap_in _ | exact flV_in _
end Go.Proofs.Ytgflnfmnjlmenaa
