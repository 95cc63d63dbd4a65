/- DiskOn, for arguments of bulk at most 1048576: two lists of operations, one behind the other, leave the disk, the count and the error that the one list of both leaves. -/
import Derived.Test.YtfpdfhncifcghaaRb
import Derived.Test.YtfpdfhncifcghaaJ
import Derived.JoinedCond
namespace Go.Proofs.Ytfpdfhncifcghaa
open Go.RowKit Go.Deep Go.Joins Go.WideShapes Go.ChangeShapes Go.ChangeAt

section
variable {H : Type} {enc : TypeId × Value → H} {w : World} {base : Nat} {spare : Nat → Bool} {held : Bool}

/-! ### What the bound gives -/
theorem bulk_pos (d : DataW H) : 1 ≤ Rows.uptoBulk d := by
  cases d with
  | lit l => cases l <;> simp [Rows.uptoBulk]
  | nil => simp [Rows.uptoBulk]
  | ptr d => simp [Rows.uptoBulk]
  | slice elems spare => simp [Rows.uptoBulk]
  | agg parts => simp [Rows.uptoBulk]
  | iface t d => simp [Rows.uptoBulk]
  | map entries => simp [Rows.uptoBulk]
  | held h => simp [Rows.uptoBulk]
theorem bulk_mem {d : DataW H} {l : List (DataW H)} (h : d ∈ l) : Rows.uptoBulk d ≤ Rows.uptoBulkAll l := by
  induction l with
  | nil => cases h
  | cons x r ih =>
    simp only [Rows.uptoBulkAll]
    rcases List.mem_cons.1 h with rfl | h
    · omega
    · have := ih h; omega
theorem bulk_len (l : List (DataW H)) : l.length ≤ Rows.uptoBulkAll l := by
  induction l with
  | nil => simp [Rows.uptoBulkAll]
  | cons x r ih => have := bulk_pos x; simp only [Rows.uptoBulkAll, List.length_cons]; omega
/-- A list as data: its length, and each element's bulk. -/
theorem bulk_list {α : Type} {R : α → DataW H → Prop} {l : List α} {d : DataW H} (h : (d = .nil ∧ l = []) ∨ ∃ elems sp, d = .slice elems sp ∧ elems.length = l.length ∧ ∀ i (hi : i < l.length), ∃ d, elems[i]? = some d ∧ R l[i] d) :
    l.length ≤ Rows.uptoBulk d ∧ ∀ a ∈ l, ∃ e, R a e ∧ Rows.uptoBulk e ≤ Rows.uptoBulk d := by
  rcases h with ⟨rfl, rfl⟩ | ⟨elems, sp, rfl, hl, hel⟩
  · exact ⟨Nat.zero_le _, fun a h => by cases h⟩
  · have h1 := bulk_len elems
    refine ⟨by simp only [Rows.uptoBulk]; omega, fun a ha => ?_⟩
    obtain ⟨i, hi, rfl⟩ := List.getElem_of_mem ha
    obtain ⟨e, he, hr⟩ := hel i hi
    have := bulk_mem (List.mem_of_getElem? he)
    exact ⟨e, hr, by simp only [Rows.uptoBulk]; omega⟩
theorem bulk_wr {x : Wr} {d : DataW H} (h : ReadWr x d) : x.bytes.size ≤ Rows.uptoBulk d := by
  rw [h.1]
  simp only [Rows.uptoBulk, Rows.uptoBulkAll, len_eq]
  omega
theorem bulk_rw {r : Rw} {d : DataW H} (h : ReadRw w r d) : r.safe.size ≤ Rows.uptoBulk d ∧ r.name.size ≤ Rows.uptoBulk d ∧ r.opens.length ≤ Rows.uptoBulk d ∧ ∀ x ∈ r.opens, x.bytes.size ≤ Rows.uptoBulk d := by
  obtain ⟨dn, ds, dw, rfl, rfl, rfl, _, _, hw, _⟩ := h
  obtain ⟨h1, h2⟩ := bulk_list hw
  simp only [Rows.uptoBulk, Rows.uptoBulkAll, len_eq]
  refine ⟨by omega, by omega, by omega, fun x hx => ?_⟩
  obtain ⟨e, h3, h4⟩ := h2 x hx
  have := bulk_wr h3
  omega
theorem bulk_disk {l : List Rw} {d : DataW H} (h : ReadDisk w l d) : l.length ≤ Rows.uptoBulk d ∧ ∀ r ∈ l, r.safe.size ≤ Rows.uptoBulk d ∧ r.name.size ≤ Rows.uptoBulk d ∧ r.opens.length ≤ Rows.uptoBulk d ∧ ∀ x ∈ r.opens, x.bytes.size ≤ Rows.uptoBulk d := by
  obtain ⟨df, rfl, h⟩ := h
  obtain ⟨h1, h2⟩ := bulk_list h
  simp only [Rows.uptoBulk, Rows.uptoBulkAll]
  refine ⟨by omega, fun r hr => ?_⟩
  obtain ⟨e, h3, h4⟩ := h2 r hr
  obtain ⟨k1, k2, k3, k4⟩ := bulk_rw h3
  exact ⟨by omega, by omega, by omega, fun x hx => by have := k4 x hx; omega⟩
theorem fits_bulk {l : List Rw} {d : DataW H} {N : Nat} (h : ReadDisk w l d) (hN : Rows.uptoBulk d ≤ N) (hS : N ≤ 140737488355328) : FitsF (l.map core) N N := by
  obtain ⟨h1, h2⟩ := bulk_disk h
  refine ⟨by rw [List.length_map]; omega, fun f hf => ?_, fun f hf => ?_, fun f hf x hx => ?_⟩
  all_goals
    obtain ⟨r, hr, rfl⟩ := List.mem_map.1 hf
    obtain ⟨k1, k2, k3, k4⟩ := h2 r hr
  · show r.opens.length ≤ N; omega
  · show r.safe.size ≤ _; omega
  · have := k4 x hx; omega

/-! ### Operations, opened -/
theorem cells53 : Try.prog.cellsOf 53 = 4 := by kernel_rfl
def ReadOp (x : DOp) (d : DataW H) : Prop := d = .agg [.lit (.int .i64 x.kind), .lit (.string x.name.data.toList), .lit (.int .i64 x.pos), .lit (.string x.bytes.data.toList)] ∧ (Lit.int .i64 x.pos).wf = true
instance : Inhabited DOp := ⟨⟨0, .empty, 0, .empty⟩⟩
theorem elem_op (n : Nat) (cs : List Value) (y : DataW H × List MemPlace) (h : DataW.trod enc Try.prog w base spare held n 53 cs = some y) : ∃ a : DOp, cs = [.int .i64 a.kind, .string a.name, .int .i64 a.pos, .string a.bytes] ∧ ReadOp a y.1 := by
  obtain ⟨y0, y1, y2, y3, n, rfl, hl, h0, h1, h2, h3⟩ := trod_struct4 Try.underlying53 h
  rw [cells53] at hl
  match cs, hl with
  | [a, b, c, d], _ =>
    obtain ⟨k, e0, rfl, hk⟩ := DataW.trod_int Try.underlying3 h0
    obtain ⟨nm, e1, rfl, hn⟩ := DataW.trod_string Try.underlying9 h1
    obtain ⟨p, e2, rfl, hp⟩ := DataW.trod_int Try.underlying3 h2
    obtain ⟨s, e3, rfl, hs⟩ := DataW.trod_string Try.underlying9 h3
    simp [cells3] at e0
    simp [cells9] at e1
    simp [cells3] at e2
    simp [cells9] at e3
    subst e0 e1 e2 e3
    exact ⟨⟨k, nm, p, s⟩, rfl, rfl, hp⟩
theorem open_ops {r : Reach} {b0 : Nat} {v : Value} {d : DataW H} {p : List MemPlace} (hv : Value.okWide Try.prog w r b0 25 v) (h : DataW.Trod enc Try.prog w base spare held 25 v d p) :
    ∃ ops : List DOp, Reads w v 4 ops.length (dopCells ops) ∧ ops.length ≤ Rows.uptoBulk d ∧ ∀ o ∈ ops, o.pos ≤ 9223372036854775807 ∧ o.name.size ≤ Rows.uptoBulk d ∧ o.bytes.size ≤ Rows.uptoBulk d := by
  obtain ⟨a, len, cap, rfl⟩ := okWide_slice Try.underlying25 hv
  obtain ⟨fuel, h⟩ := h
  have h' : DataW.trod enc Try.prog w base spare held fuel 25 [.slice a len cap] = some (d, p) := h
  obtain ⟨ops, hr, hd⟩ := open_list 4 (fun x : DOp => [.int .i64 x.kind, .string x.name, .int .i64 x.pos, .string x.bytes]) ReadOp Try.underlying25 cells53 (fun _ => rfl) h' elem_op
  obtain ⟨h1, h2⟩ := bulk_list hd
  dsimp only at h1 h2
  refine ⟨ops, hr, h1, fun o ho => ?_⟩
  obtain ⟨e, h3, h4⟩ := h2 o ho
  have h5 := h3.2
  rw [h3.1] at h4
  simp only [Rows.uptoBulk, Rows.uptoBulkAll, len_eq] at h4
  refine ⟨?_, by omega, by omega⟩
  simp only [Lit.wf, Bool.and_eq_true, decide_eq_true_eq] at h5
  exact h5.2
end

set_option maxRecDepth 100000 in
theorem on_lifted (os : Os) (started : os.Started) (H : Type) (enc : TypeId × Value → H) (F : Stop.Interp) :
    ReturnsInHanded {} Try.checked os 7 .any ((Rows.OpenSpec.upto Rows.diskOnSpec).pre6 enc Try.prog Try.f7 Rows.diskOnUptoRow.domain false) (((Rows.OpenSpec.upto Rows.diskOnSpec).at F).post enc Try.prog Try.f7 false true false false) := by
  refine returnsInHanded_of_cond (C := Try.checked) (s := Rows.OpenSpec.upto Rows.diskOnSpec) (k := Rows.uptoSmall) rfl own started (by kernel_rfl) Try.func7
    (OpenSpec.witness (enc := enc) (C := Try.checked) (s := Rows.OpenSpec.upto Rows.diskOnSpec) (k := Rows.uptoSmall) rfl false ⟨#[], #[.agg #[.slice none 0 0], .slice none 0 0, .slice none 0 0], []⟩ 8 (by kernel_rfl) (by kernel_rfl) (by kernel_rfl)
      (x := ([.agg [.nil], .nil, .nil], [], [])) (by kernel_rfl) rfl (by kernel_rfl)) ?_
  intro W base args ds gs before hval0 hW hcnd hk _
  have hW' := hW
  obtain ⟨p, q, hA0, hV, rfl, hfz, hnd⟩ := hW
  have hval : ∀ (j : Nat) t v, Try.f7.params[j]? = some t → args[j]? = some v → Value.okWide Try.prog W .any base t v := hval0
  have hA : DataW.TrodAll enc Try.prog W 0 (fun _ => true) true Try.f7.params.toList args.toList ds p := hA0
  rw [Try.params7] at hA hval
  obtain ⟨v0, v1, v2, d0, d1, d2, p0, p1, p2, rfl, rfl, rfl, h0, h1, h2⟩ := trodAll_three hA
  obtain ⟨rfl, rfl⟩ := trodVars_none hV
  have hlt : ∀ x ∈ p0 ++ (p1 ++ p2), x.block < W.heap.size := fun x hx => hW'.lt x (by simpa using hx)
  obtain ⟨fv, l, rfl, hr, hd⟩ := open_disk (hval 0 24 v0 rfl rfl) h0
  obtain ⟨a, ha, hal, hao⟩ := open_ops (hval 1 25 v1 rfl rfl) h1
  obtain ⟨b, hb, hbl, hbo⟩ := open_ops (hval 2 25 v2 rfl rfl) h2
  have hbulk : Rows.uptoBulkAll ([d0, d1, d2] ++ []) ≤ 1048576 := of_decide_eq_true hk
  simp only [List.append_nil, Rows.uptoBulkAll] at hbulk
  simp only [List.append_nil] at hW'
  refine (on_any l fv a v1 b v2 1048576 1048576 W hr hd.opens ha hb (fits_bulk hd (by omega) (by omega)) (by omega) (by omega) (fun o ho => ⟨(hao o ho).1, by have := (hao o ho).2.1; omega⟩) (fun o ho => ⟨(hbo o ho).1, by have := (hbo o ho).2.1; omega⟩)).mono fun e W' ⟨he, hb⟩ => ?_
  subst he
  refine ⟨_, rfl, _, _, _, [], p0 ++ (p1 ++ p2), [], hW', trodAll_mk1 (shut_bool Try.underlying4 _), trodAll_mk3 (Below.trod laidOut (by kernel_rfl) (of_decide_eq_true (by kernel_rfl)) h0 hb fun x hx => hlt x (by simp [hx])) (Below.trod laidOut (by kernel_rfl) (of_decide_eq_true (by kernel_rfl)) h1 hb fun x hx => hlt x (by simp [hx])) (Below.trod laidOut (by kernel_rfl) (of_decide_eq_true (by kernel_rfl)) h2 hb fun x hx => hlt x (by simp [hx])), rfl, ?_, fun h => by cases h⟩
  simpa [List.append_assoc] using hb.frame _

/-- The given statement. -/
theorem on_proved : Rows.DiskOnUptoSaid :=
  OpenClaim.holds_of_cond 7 Try.f7 rfl rfl rfl rfl rfl rfl rfl ⟨rfl, rfl, rfl, rfl, rfl⟩ rfl rfl rfl rfl rfl (by kernel_rfl) Try.func7 (by kernel_rfl)
    (of_decide_eq_true (by kernel_rfl)) (by unfold Func.isWrapper; first | (rw [if_pos (by decide +kernel)]; kernel_rfl) | (rw [if_neg (by decide +kernel)]; exact ⟨rfl, rfl⟩))
    (fun os started H enc _ F => on_lifted os started H enc F)
end Go.Proofs.Ytfpdfhncifcghaa
