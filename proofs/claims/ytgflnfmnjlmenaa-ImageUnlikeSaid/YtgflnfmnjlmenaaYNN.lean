/- A new machine of the program. -/
import Derived.Test.YtgflnfmnjlmenaaYHC
namespace Go.Proofs.Ytgflnfmnjlmenaa
open Go.RowKit Go.Deep Go.Joins
set_option maxRecDepth 100000
/-- A machine that is switched on. -/
def newMc (dv mv : Value) : Mc := ⟨awH, bdN, dv, mv, 0, 0, 0, .slice none 0 0⟩
set_option maxRecDepth 100000 in
theorem built42n (dv mv : Value) : Try.prog.built 42 [(0, hartV awH), (1, bdV bdN), (2, .agg #[dv, mv, .int .u64 0])] = some (mcC (newMc dv mv)) := by kernel_rfl
theorem exec_build3 {P : Program} {ρ : Operand → Value} {o : Oper} {t : TypeId} {i j k : Nat} {x y z : Operand} {vx vy vz : Value} {cells : Array Value} {w : World} (ho : o.op = .build t #[(i, x), (j, y), (k, z)]) (hx : ρ x = vx) (hy : ρ y = vy) (hz : ρ z = vz) (h : P.built t [(i, vx), (j, vy), (k, vz)] = some cells) : (execOp ρ o).run P w = .ok (.value (.agg cells)) w := by
  simp [execOp, ho, hx, hy, hz, run_build w t #[(i, vx), (j, vy), (k, vz)] cells h, Result.andThen]
theorem results_mc {fn : Func} {p u : Tmp} (h : fn.results = #[.cell p 42, .tmp u]) (tmps : Array Value) (w : World) (g : Nat) (m : Mc) (v : Value) (hp : tmps.getD p undef = .pointer (some ⟨g, 0, none⟩)) (hg : MBox w g m) (hv : tmps.getD u undef = v) :
    (results fn tmps).run Try.prog w = .ok (.tuple #[mcV m, v]) w := by
  have hp' : tmps[p]?.getD undef = .pointer (some ⟨g, 0, none⟩) := by simpa using hp
  have hv' : tmps[u]?.getD undef = v := by simpa using hv
  have hl : (loadVar 42 ⟨g, 0, none⟩).run Try.prog w = .ok (mcV m) w := run_loadVar_row w g 42 42 (mcC m) (0, 0) _ hg Try.underlying42 rfl (by rw [size42, mcC_size])
  simp [results, h, hp', hv', asAddr, hl]
def NewM (W : World) (D : List UInt8) (M : List Int) (e : Ending) (W' : World) : Prop :=
  ∃ dv mv, e = .returned (.tuple #[mcV (newMc dv mv), .int .i64 0]) ∧ OwnD W' W.heap.size dv D ∧ OwnM W' W.heap.size mv M ∧ Below W.heap.size W W'
/-- What a new machine's parts are, on the way. -/
structure NewAt (W w : World) (p1 p2 : Option Addr) (c1 c2 : Nat) (D : List UInt8) (M : List Int) : Prop where
  res : w.heap[W.heap.size]? = some (.cells zc42 42 (0, 0))
  d : OwnD w W.heap.size (.slice p1 D.length c1) D
  m : OwnM w W.heap.size (.slice p2 M.length c2) M
  below : Below W.heap.size W w
theorem NewAt.next {W w w' : World} {p1 p2 : Option Addr} {c1 c2 : Nat} {D : List UInt8} {M : List Int} (h : NewAt W w p1 p2 c1 c2 D M) (hb : Below w.heap.size w w') : NewAt W w' p1 p2 c1 c2 D M :=
  ⟨(hb.block _ (Array.getElem?_eq_some_iff.1 h.res).1).trans h.res, owns_below h.d hb, owns_below h.m hb, below_then h.below hb⟩
theorem one_slice (p : Option Addr) (n c : Nat) : (Value.slice p n c).oneCell' = true := rfl
set_option maxHeartbeats 4000000 in
theorem mnew_any (n : Nat) (s : ByteArray) (W : World) (h1 : 1 ≤ n) (h2 : n ≤ 256) (hsz : s.size ≤ n * 256) : Calls Try.prog 26 #[.string s, .int .i64 n] W (NewM W (spl (List.replicate (n * 256) 0) 0 s) (List.replicate n 0)) := by
  have C1 := Lib.hid (fun w => new_any n s w h1 h2 hsz)
  generalize spl (List.replicate (n * 256) 0) 0 s = D at C1 ⊢
  generalize List.replicate n (0 : Int) = M at C1 ⊢
  clear h1 h2 hsz
  go_enter Try.func26, Try.ntmps26
  go_upto_region 1 with (fail)
  have G1 := Lib.hid (show (W.alloc (.cells zc42 42)).heap[W.heap.size]? = some (.cells zc42 42 (0, 0)) from heap_alloc_last W _)
  have BA := Lib.hid (below1 W (.cells zc42 42))
  generalize W.alloc (.cells zc42 42) = wa at G1 BA ⊢
  go_upto_region 2 with (first | (go_at_call 34; (with_reducible refine (C1.out _).mono ?_); rintro e wb ⟨dv, mv, rfl, hD, hM, kk⟩; obtain ⟨p1, c1, rfl⟩ := owns_shape hD; obtain ⟨p2, c2, rfl⟩ := owns_shape hM; have X := Lib.hid (show NewAt W wb p1 p2 c1 c2 D M from ⟨(kk.block _ (Array.getElem?_eq_some_iff.1 G1.out).1).trans G1.out, owns_base hD BA.out.size, owns_base hM BA.out.size, below_then BA.out kk⟩); clear hD hM kk) | fail)
  have X2 := Lib.hid (X.out.next (below1 wb (.cells #[.slice p1 D.length c1, .slice p2 M.length c2, .int .u64 0] 39)))
  have Y2 := Lib.hid (show (wb.alloc (.cells #[.slice p1 D.length c1, .slice p2 M.length c2, .int .u64 0] 39)).heap[wb.heap.size]? = some (.cells #[.slice p1 D.length c1, .slice p2 M.length c2, .int .u64 0] 39 (0, 0)) from heap_alloc_last wb _)
  clear X G1 BA
  generalize wb.heap.size = gr at Y2 ⊢
  generalize wb.alloc (.cells #[.slice p1 D.length c1, .slice p2 M.length c2, .int .u64 0] 39) = wc at X2 Y2 ⊢
  go_upto_region 5 with (first | ((with_reducible show wpList _ _ _ (⟨some 19, Op.build 27 _, _, _, _, _⟩ :: _) _ _); refine wpList_exec (by kernel_rfl) (exec_build2 rfl rfl rfl built27n) ?_; simp only [Act.put, List.setIfInBounds_toArray, List.set_cons_zero, List.set_cons_succ]) | (with_reducible refine wpList_store_by rfl rfl (Tr.store_new wc awH) rfl rfl ?_) | fail)
  have X3 := Lib.hid (X2.out.next (below1 wc (Tr.hartO awH)))
  have Y3 := Lib.hid (((below1 wc (Tr.hartO awH)).block gr (Array.getElem?_eq_some_iff.1 Y2.out).1).trans Y2.out)
  have Z3 := Lib.hid (show Tr.Box (wc.alloc (Tr.hartO awH)) wc.heap.size awH from Tr.Box.new wc awH)
  clear X2 Y2
  generalize wc.heap.size = gh at Z3 ⊢
  generalize wc.alloc (Tr.hartO awH) = wd at X3 Y3 Z3 ⊢
  refine dr (fun w => Tr.Box w gh awH ∧ w.heap[gr]? = some (.cells #[.slice p1 D.length c1, .slice p2 M.length c2, .int .u64 0] 39 (0, 0))) fun wz hzz => ?_
  have hS : Tr.Box wz gh awH ∧ wz.heap[gr]? = some (.cells #[.slice p1 D.length c1, .slice p2 M.length c2, .int .u64 0] 39 (0, 0)) := ⟨Z3.out.next hzz, (hzz.block gr (Array.getElem?_eq_some_iff.1 Y3.out).1).trans Y3.out⟩
  have X4 := X3.out.next hzz
  clear hzz X3 Y3 Z3
  refine tl 0 hS (fun w hw => Tr.Box.load hw.1) ?_
  refine tl 2 hS (fun w hw => aw_ram hw.2) ?_
  refine hc 1 (calls_told (dnew_any wz)) ?_
  rintro v' we ⟨rfl, kk⟩
  have X5 := X4.next kk
  refine ⟨⟨hS.1.next kk, (kk.block gr (Array.getElem?_eq_some_iff.1 hS.2).1).trans hS.2⟩, fun hS2 => ?_⟩
  clear kk hS X4
  simp only [puts]
  refine tk 3 hS2 ?_ (hy := by exact .inl ⟨by kernel_rfl, fun w _ => exec_build3 rfl rfl rfl rfl (built42n (.slice p1 D.length c1) (.slice p2 M.length c2))⟩)
  refine hs 4 (MBox.store (newMc (.slice p1 D.length c1) (.slice p2 M.length c2)) (Mc1.mk rfl rfl rfl) X5.res (by kernel_rfl)) fun wy hw => ?_
  have nh : gh ≠ W.heap.size := fun e => by
    have h := hS2.1
    unfold Tr.Box at h
    rw [e, X5.res] at h
    simp only [Option.some.injEq, Obj.cells.injEq] at h
    exact absurd h.2.1 (by decide)
  have nr : gr ≠ W.heap.size := fun e => by
    have h := hS2.2
    rw [e, X5.res] at h
    simp only [Option.some.injEq, Obj.cells.injEq] at h
    exact absurd h.2.1 (by decide)
  refine ⟨⟨by rw [hw]; exact (setRow_other we _ _ _ nh).trans hS2.1, by rw [hw]; exact (setRow_other we _ _ _ nr).trans hS2.2⟩, fun hS3 => ?_⟩
  refine tk 5 hS3 ?_
  refine wpAnyH_done (by kernel_rfl) ?_ _
  have HK := Lib.hid (show MBox wy W.heap.size (newMc (.slice p1 D.length c1) (.slice p2 M.length c2)) from by rw [hw]; exact setRow_heap we W.heap.size _ _ 42 (0, 0) X5.res)
  have R := Lib.hid (show OwnD wy W.heap.size (.slice p1 D.length c1) D ∧ OwnM wy W.heap.size (.slice p2 M.length c2) M ∧ Below W.heap.size W wy from by
    rw [hw]
    exact ⟨owns_over X5.d X5.res (by decide) _, owns_over X5.m X5.res (by decide) _, below_setRow X5.below (Nat.le_refl _) _⟩)
  clear hw hS2 hS3 X5 nh nr
  go_wp2_with fail
  refine bodyPost_ret (v := .tuple #[mcV (newMc (.slice p1 D.length c1) (.slice p2 M.length c2)), .int .i64 0]) (results_mc Try.results26 _ _ W.heap.size _ _ rfl HK.out rfl) rfl ?_
  exact ⟨_, _, rfl, R.out⟩
end Go.Proofs.Ytgflnfmnjlmenaa
