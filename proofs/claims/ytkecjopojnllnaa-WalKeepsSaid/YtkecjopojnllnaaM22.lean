/- WalMends, for arguments of bulk at most 1048576: behind the plan that Open tells the log of any disk whose files have unlike names is whole, and tells the same. -/
import Derived.Test.YtkecjopojnllnaaM21
import Derived.Test.YtkecjopojnllnaaM11
namespace Go.Proofs.Ytkecjopojnllnaa
open Go.RowKit Go.Deep Go.Joins

theorem doF_fit : ∀ (ops : List DOp) {fs : List Fl} {n m : Nat}, FitsF fs n m → FitsF (doF fs ops).1 (n + ops.length) (m + ops.length) := by
  intro ops
  induction ops with
  | nil => exact fun h => h
  | cons o ops ih =>
    intro fs n m h
    have h1 := changeF_fits h o
    rw [doF_cons, List.length_cons]
    split
    · exact fits_more h1 (by omega) (by omega)
    · exact fits_more (ih h1) (by omega) (by omega)
theorem doF_small : ∀ (ops : List DOp) {fs : List Fl}, FitsS fs → FitsS (doF fs ops).1 := by
  intro ops
  induction ops with
  | nil => exact fun h => h
  | cons o ops ih =>
    intro fs h
    have h1 := changeF_small h o
    rw [doF_cons]
    split
    · exact h1
    · exact ih h1
/-- What a disk of the plain side must hold that all calls go on it. -/
structure Fine (l : List Rw) : Prop where
  smalls : Smalls l
  sized : Sized l
  few : l.length ≤ 1073741824
theorem fine_of {l : List Rw} {n m : Nat} (hF : FitsF (l.map core) n m) (hS : FitsS (l.map core)) (hn : n ≤ 1073741824) (hm : m ≤ 1073741824) : Fine l := by
  refine ⟨fun r hr => ?_, fun r hr => ?_, by have := hF.files; rw [List.length_map] at this; omega⟩
  · have h1 := hS.safe (core r) (List.mem_map_of_mem hr)
    have h2 := hF.opens (core r) (List.mem_map_of_mem hr)
    have h3 := hS.bytes (core r) (List.mem_map_of_mem hr)
    exact ⟨by have : r.safe.size ≤ 2097152 := h1; omega, by have : r.opens.length ≤ m := h2; omega, fun x hx => by have := h3 x hx; omega⟩
  · exact layB_small _ _ (hS.safe (core r) (List.mem_map_of_mem hr)) (hS.bytes (core r) (List.mem_map_of_mem hr))
theorem good_name {fs : List Fl} {o : DOp} (h : (changeF fs o).2 = 0) : o.name.size ≤ 16 := by
  unfold changeF at h
  split at h
  · exact absurd h (show ¬ (1 : Int) = 0 by decide)
  · rename_i hb
    have hb : badOp o = false := Bool.eq_false_iff.2 hb
    unfold badOp nameB at hb
    simp only [Bool.or_eq_false_iff, Bool.not_eq_false', Bool.and_eq_true, decide_eq_true_eq] at hb
    exact hb.2.1.2
theorem exec_names : ∀ (ops : List DOp) {fs gs : List Fl}, Exec fs ops gs → ∀ o ∈ ops, o.name.size ≤ 16 := by
  intro ops
  induction ops with
  | nil => exact fun _ o ho => by cases ho
  | cons o ops ih =>
    intro fs gs h x hx
    unfold Exec at h
    rw [doF_cons] at h
    have hl : ((o :: ops).length : Int) = (ops.length : Int) + 1 := by simp
    split at h
    · injection h with _ h
      injection h with h _
      omega
    · rename_i h0
      have h0 : (changeF fs o).2 = 0 := by simpa using h0
      injection h with e1 e2
      injection e2 with e2 e3
      rcases List.mem_cons.1 hx with rfl | hx
      · exact good_name h0
      · exact ih (gs := gs) (by unfold Exec; exact Prod.ext e1 (Prod.ext (by rw [hl] at e2; dsimp only; omega) e3)) x hx
theorem opQ_names {p : ByteArray} {l : List Rw} {r : List ByteArray} {pl : List DOp} (hp : prefB p = true) (hu : Uniq (l.map core)) (h : OpenIs p l r pl) :
    ∃ gs, doF (l.map core) pl = (gs, (pl.length : Int), 0) ∧ pl.length ≤ 1000000 ∧ (∀ o ∈ pl, o.name.size ≤ 16) ∧ ∀ l' : List Rw, l'.map core = gs → ∀ r' pl' e, OpQ p l' r' pl' e → r' = r ∧ pl' = [] ∧ e = 0 := by
  obtain ⟨gs, e1, _, n1, h1⟩ := opens_mended hp hu h
  refine ⟨gs, e1, n1, exec_names pl e1, fun l' hl' r' pl' e hq => ?_⟩
  have h2 : OpQ p l' r [] 0 := Or.inr ⟨hp, h1 l' hl', rfl⟩
  exact hq.one h2

set_option maxRecDepth 100000 in
set_option maxHeartbeats 4000000 in
theorem law_mends (l : List Rw) (v : Value) (p : ByteArray) (w : World) (hr : Reads w v 3 l.length (rowCells l)) (ho : Opens w l) (hF : FitsF (l.map core) 1048576 1048576) (hS : FitsS (l.map core)) :
    Calls Try.prog 5 #[.agg #[v], .string p] w fun e w' => e = .returned (.bool true) ∧ Below w.heap.size w w' := by
  have hfine := fine_of hF hS (by omega) (by omega)
  have hm := hfine.few
  go_enter Try.func5, Try.ntmps5
  go_wp2_with fail
  generalize hw0 : w.alloc (Obj.cells #[v] 24) = w0
  have HB0 : Hid (Below w.heap.size w w0) := Lib.hid (hw0 ▸ below1 w _)
  have HD0 : Hid (VarAt w0 w.heap.size v) := Lib.hid (hw0 ▸ VarAt.new w _)
  clear hw0
  have H24 := Lib.hid (fun (W : World) (hb : Below w.heap.size w W) => unlike_any l v W (hr.below hb) (by omega))
  have H11 := Lib.hid (fun (W : World) (hb : Below w.heap.size w W) => open_told l v p W (hr.below hb) (fun r h => (ho r h).below hb) hfine.smalls (by omega) hfine.sized)
  have H25 := Lib.hid (fun (W : World) (hb : Below w.heap.size w W) (ops : List DOp) (ov : Value) (hov : Reads W ov 4 ops.length (dopCells ops)) (hn : ops.length ≤ 1000000) (hops : ∀ o ∈ ops, o.name.size ≤ 16) =>
    do2_any l v ops ov 1048576 1048576 W (hr.below hb) (fun r h => (ho r h).below hb) hov hF hS (by omega) (by omega) (fun o h => by have := hops o h; omega))
  clear hr ho
  go_upto_region 4 with (first
    | (go_at_call 9; (with_reducible refine (awake_any _).mono ?_); rintro e w1 ⟨rfl, hb1⟩; have HB1 := Lib.hid (below_then HB0.out hb1); have HD1 := Lib.hid (HD0.out.keep hb1); have d1 := HD1.out.c; clear hb1)
    | (go_at_call 24; (with_reducible refine (H24.out _ HB1.out).mono ?_); rintro e w2 ⟨B, rfl, hB, hb2⟩; have HAB := Lib.hid hB; have HB2 := Lib.hid (below_then HB1.out hb2); have HD2 := Lib.hid (HD1.out.keep hb2); have d2 := HD2.out.c; clear hB hb2)
    | fail)
  · go_wp2_with fail
    go_ret
    exact ⟨rfl, HB2.out⟩
  have hBt : B = true := by
    cases B with
    | false => exact Bool.noConfusion (by assumption : (!false) = false)
    | true => rfl
  subst hBt
  have hap := HAB.out rfl
  have HU := Lib.hid (uniq_apart hap)
  clear HAB hap H24
  go_upto_region 6 with (first
    | (go_at_call 11; (with_reducible refine (H11.out _ HB2.out).mono ?_); rintro e w3 ⟨r1, P1, e1, v3, u3, hQ3, rfl, hs3, hr3, hb3⟩; obtain ⟨q3, c3, rfl⟩ := hs3.is; obtain ⟨q4, c4, rfl⟩ := hr3.is; have HQ3 := Lib.hid hQ3; have HS3 := Lib.hid hs3; have HR3 := Lib.hid hr3; have HB3 := Lib.hid (below_then HB2.out hb3); have HD3 := Lib.hid (HD2.out.keep hb3); have d3 := HD3.out.c; clear hQ3 hs3 hr3 hb3)
    | fail)
  rcases HQ3.out with ⟨_, rfl, rfl, rfl⟩ | ⟨hp, hO, rfl⟩
  · go_wp2_with fail
    go_ret
    exact ⟨rfl, HB3.out⟩
  obtain ⟨gs, hdo, hn, hnames, hagain⟩ := opQ_names hp HU.out hO
  have H25b := Lib.hid (fun (W : World) (hb : Below w.heap.size w W) (hov : Reads W (.slice q4 P1.length c4) 4 P1.length (dopCells P1)) => show Calls Try.prog 25 #[.agg #[v], .slice q4 P1.length c4] W fun e w' => ∃ v' l', e = .returned (.tuple #[.agg #[v'], .int .i64 (P1.length : Int), .int .i64 0]) ∧
      l'.map core = gs ∧ OwnR w' W.heap.size v' l' ∧ Below W.heap.size W w' from by
    have h := H25.out W hb P1 _ hov hn hnames
    rw [hdo] at h
    exact h)
  have HFS := Lib.hid (show ∀ l' : List Rw, l'.map core = gs → Fine l' from fun l' hl' => by
    have h1 := doF_fit P1 hF
    have h2 := doF_small P1 hS
    rw [hdo] at h1 h2
    rw [← hl'] at h1 h2
    exact fine_of h1 h2 (by omega) (by omega))
  have HAG := Lib.hid hagain
  clear hagain hdo hn hnames hO HQ3 H25 H11 hfine hF hS hm
  go_upto_region 9 with (first
    | (go_at_call 25; (with_reducible refine (H25b.out _ HB3.out HR3.out).mono ?_); rintro e w4 ⟨v4, l4, rfl, hc4, hown4, hb4⟩; obtain ⟨q5, c5, rfl⟩ := owns_shape hown4.1; have HC4 := Lib.hid hc4; have HOWN4 := Lib.hid hown4; have HB4 := Lib.hid (below_then HB3.out hb4); have HS4 := Lib.hid (HS3.out.below hb4); have HR4 := Lib.hid (HR3.out.below hb4); clear hc4 hown4 hb4)
    | fail)
  have HD5 : Hid (VarAt (w4.alloc (.cells #[.slice q5 l4.length c5] 24)) w4.heap.size (.slice q5 l4.length c5)) := Lib.hid (VarAt.new _ _)
  have HB5 : Hid (Below w.heap.size w (w4.alloc (.cells #[.slice q5 l4.length c5] 24))) := Lib.hid (nb_alloc HB4.out _)
  have HOWN5 : Hid (OwnR (w4.alloc (.cells #[.slice q5 l4.length c5] 24)) w3.heap.size (.slice q5 l4.length c5) l4) := Lib.hid (HOWN4.out.below (below1 _ _))
  have HS5 : Hid (Reads (w4.alloc (.cells #[.slice q5 l4.length c5] 24)) (.slice q3 r1.length c3) 1 r1.length (strs r1)) := Lib.hid (HS4.out.below (below1 _ _))
  generalize w4.alloc (.cells #[.slice q5 l4.length c5] 24) = w5 at HD5 HB5 HOWN5 HS5 ⊢
  obtain ⟨N, hN⟩ : ∃ N, w4.heap.size = N := ⟨_, rfl⟩
  rw [hN] at HD5 ⊢
  clear hN HOWN4 HB4 HS4 HR4 HS3 HR3 HB3 HD3 d3 d2 d1 HD2 HB2 HD1 HB1 H25b
  have d5 := HD5.out.c
  have hf4 := HFS.out l4 HC4.out
  have hm4 := hf4.few
  have H11b := Lib.hid (open_told l4 (.slice q5 l4.length c5) p w5 (reads_of_owns HOWN5.out.1) (fun r h => HOWN5.out.opens r h) hf4.smalls (by omega) hf4.sized)
  clear hf4 hm4
  go_wp2_with (first
    | (go_at_call 11; (with_reducible refine H11b.out.mono ?_); rintro e w6 ⟨r2, P2, e2, v6, u6, hQ6, rfl, hs6, hr6, hb6⟩; obtain ⟨rfl, rfl, rfl⟩ := HAG.out l4 HC4.out _ _ _ hQ6; obtain ⟨q6, c6, rfl⟩ := hs6.is; obtain ⟨q7, c7, rfl⟩ := hr6.is; have HS6 := Lib.hid hs6; have HS56 := Lib.hid (HS5.out.below hb6); have HB6 := Lib.hid (below_then HB5.out hb6); clear hQ6 hs6 hr6 hb6)
    | (go_at_call 13; (with_reducible refine (strs_true _ _ _ _ HS56.out HS6.out (strs_small HS6.out)).mono ?_); rintro e w7 ⟨rfl, hb7⟩; have HB7 := Lib.hid (below_then HB6.out hb7); clear hb7)
    | fail)
  go_ret
  exact ⟨rfl, HB7.out⟩
end Go.Proofs.Ytkecjopojnllnaa
namespace Go.Proofs.Ytkecjopojnllnaa
open Go.RowKit Go.Deep Go.Joins Go.WideShapes Go.ChangeShapes Go.ChangeAt
open Go.ChangeMaps (open_string shut_string)
theorem fits_bulk {H : Type} {w : World} {l : List Rw} {d : DataW H} (h : ReadDisk w l d) (hN : Rows.uptoBulk d ≤ 1048576) : FitsF (l.map core) 1048576 1048576 ∧ FitsS (l.map core) := by
  obtain ⟨h1, h2⟩ := bulk_disk h
  have key : ∀ f ∈ l.map core, f.safe.size ≤ 1048576 ∧ f.opens.length ≤ 1048576 ∧ ∀ x ∈ f.opens, x.bytes.size ≤ 1048576 := fun f hf => by
    obtain ⟨r, hr, rfl⟩ := List.mem_map.1 hf
    obtain ⟨k1, _, k3, k4⟩ := h2 r hr
    exact ⟨Nat.le_trans k1 hN, Nat.le_trans k3 hN, fun x hx => Nat.le_trans (k4 x hx) hN⟩
  exact ⟨⟨by rw [List.length_map]; omega, fun f hf => (key f hf).2.1, fun f hf => by have := (key f hf).1; omega, fun f hf x hx => by have := (key f hf).2.2 x hx; omega⟩,
    ⟨fun f hf => by have := (key f hf).1; omega, fun f hf => (key f hf).2.2⟩⟩
set_option maxRecDepth 100000 in
theorem mends_lifted (os : Os) (started : os.Started) (H : Type) (enc : TypeId × Value → H) (F : Stop.Interp) :
    ReturnsInHanded {} Try.checked os 5 .any ((Rows.OpenSpec.upto Rows.walMendsSpec).pre6 enc Try.prog Try.f5 Rows.walMendsUptoRow.domain false) (((Rows.OpenSpec.upto Rows.walMendsSpec).at F).post enc Try.prog Try.f5 false true false false) := by
  refine returnsInHanded_of_cond (C := Try.checked) (s := Rows.OpenSpec.upto Rows.walMendsSpec) (k := Rows.uptoSmall) rfl own started (by kernel_rfl) Try.func5
    (OpenSpec.witness (enc := enc) (C := Try.checked) (s := Rows.OpenSpec.upto Rows.walMendsSpec) (k := Rows.uptoSmall) rfl false ⟨#[], #[.agg #[.slice none 0 0], .string .empty], []⟩ 8 (by kernel_rfl) (by kernel_rfl) (by kernel_rfl)
      (x := ([.agg [.nil], .lit (.string [])], [], [])) (by kernel_rfl) rfl (by kernel_rfl)) ?_
  intro W base args ds gs before hval0 hW hcnd hk _
  have hW' := hW
  obtain ⟨p, q, hA0, hV, rfl, hfz, hnd⟩ := hW
  have hval : ∀ (j : Nat) t v, Try.f5.params[j]? = some t → args[j]? = some v → Value.okWide Try.prog W .any base t v := hval0
  have hA : DataW.TrodAll enc Try.prog W 0 (fun _ => true) true Try.f5.params.toList args.toList ds p := hA0
  rw [Try.params5] at hA hval
  obtain ⟨v0, v1, d0, d1, p0, p1, rfl, rfl, rfl, h0, h1⟩ := trodAll_two hA
  obtain ⟨rfl, rfl⟩ := trodVars_none hV
  have hlt : ∀ x ∈ p0 ++ p1, x.block < W.heap.size := fun x hx => hW'.lt x (by simpa using hx)
  obtain ⟨fv, l, rfl, hr, hd⟩ := open_disk (hval 0 24 v0 rfl rfl) h0
  have h1' := h1
  obtain ⟨pf, rfl, rfl, rfl, _⟩ := open_string Try.underlying9 (hval 1 9 v1 rfl rfl) h1
  have hbulk : Rows.uptoBulkAll ([d0, .lit (.string pf.data.toList)] ++ []) ≤ 1048576 := of_decide_eq_true hk
  simp only [List.append_nil, Rows.uptoBulkAll, Rows.uptoBulk, len_eq] at hbulk
  simp only [List.append_nil] at hW'
  have hfit := fits_bulk hd (by omega)
  refine (law_mends l fv pf W hr hd.opens hfit.1 hfit.2).mono fun e W' ⟨he, hb⟩ => ?_
  subst he
  refine ⟨_, rfl, _, _, _, [], p0 ++ [], [], hW', trodAll_mk1 (shut_bool Try.underlying4 _), ?_, rfl, ?_, fun h => by cases h⟩
  · exact trodAll_mk2 (Below.trod laidOut (by kernel_rfl) (of_decide_eq_true (by kernel_rfl)) h0 hb fun x hx => hlt x (by simp [hx])) (Below.trod laidOut (by kernel_rfl) (of_decide_eq_true (by kernel_rfl)) h1' hb fun x hx => by cases hx)
  · simpa using hb.frame _

/-- The given statement. -/
theorem mends_proved : Rows.WalMendsUptoSaid :=
  OpenClaim.holds_of_cond 5 Try.f5 rfl rfl rfl rfl rfl rfl rfl ⟨rfl, rfl, rfl, rfl, rfl⟩ rfl rfl rfl rfl rfl (by kernel_rfl) Try.func5 (by kernel_rfl)
    (of_decide_eq_true (by kernel_rfl)) (by unfold Func.isWrapper; first | (rw [if_pos (by decide +kernel)]; kernel_rfl) | (rw [if_neg (by decide +kernel)]; exact ⟨rfl, rfl⟩))
    (fun os started H enc _ F => mends_lifted os started H enc F)
end Go.Proofs.Ytkecjopojnllnaa
