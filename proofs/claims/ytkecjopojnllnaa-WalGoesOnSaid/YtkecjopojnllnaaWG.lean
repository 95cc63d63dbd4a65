/- WalKeeps, for arguments of bulk at most 1048576: behind every crash, whichever open writes survive and whichever tears, a beginning of the records is there, with all that were synced; and behind its plan Open tells the same and has nothing to mend. -/
import Derived.Test.YtkecjopojnllnaaWF
namespace Go.Proofs.Ytkecjopojnllnaa
open Go.RowKit Go.Deep Go.Joins Go.WideShapes Go.ChangeShapes Go.ChangeAt
open Go.ChangeMaps (open_string shut_string)
section
variable {H : Type} {enc : TypeId × Value → H} {w : World} {base : Nat} {spare : Nat → Bool} {held : Bool}
instance : Inhabited Ft := ⟨⟨.nilFunc, 0, 0, []⟩⟩
theorem cells91 : Try.prog.cellsOf 91 = 3 := by kernel_rfl
theorem cells89 : Try.prog.cellsOf 89 = 1 := by kernel_rfl
theorem cells4 : Try.prog.cellsOf 4 = 1 := by kernel_rfl
theorem boolCells_flat (l : List Bool) : boolCells l = l.flatMap fun b => [Value.bool b] := by
  induction l with
  | nil => rfl
  | cons b l ih => rw [List.flatMap_cons, ← ih]; rfl
set_option maxRecDepth 100000 in
theorem elem_ft (n : Nat) (cs : List Value) (y : DataW H × List MemPlace) (h : DataW.trod enc Try.prog w base spare held n 91 cs = some y) : ∃ a : Ft, cs = [a.wv, .int .i64 a.torn, .int .i64 a.nb] ∧ Reads w a.wv 1 a.whole.length (boolCells a.whole) := by
  obtain ⟨y0, y1, y2, n, rfl, hl, h0, h1, h2⟩ := trod_struct3 Try.underlying91 h
  rw [cells91] at hl
  match cs, hl with
  | [a, b, c], _ =>
    obtain ⟨t, e1, rfl, _⟩ := DataW.trod_int Try.underlying3 h1
    obtain ⟨m, e2, rfl, _⟩ := DataW.trod_int Try.underlying3 h2
    simp [cells3] at e1 e2
    subst e1 e2
    have h0' : DataW.trod enc Try.prog w base spare held n 89 [a] = some y0 := by simpa [cells89] using h0
    obtain ⟨bs, hr, _⟩ := open_list 1 (fun b : Bool => [.bool b]) (fun _ _ => True) Try.underlying89 cells4 (fun _ => rfl) h0' (fun n cs y hy => by
      obtain ⟨b, e, _⟩ := DataW.trod_bool Try.underlying4 hy
      exact ⟨b, e, trivial⟩)
    rw [← boolCells_flat] at hr
    exact ⟨⟨a, t, m, bs⟩, rfl, hr⟩
set_option maxRecDepth 100000 in
theorem open_fates {r : Reach} {b0 : Nat} {v : Value} {d : DataW H} {p : List MemPlace} (hv : Value.okWide Try.prog w r b0 46 v) (h : DataW.Trod enc Try.prog w base spare held 46 v d p) :
    ∃ fs : List Ft, Reads w v 3 fs.length (ftCells fs) ∧ Wholes w fs ∧ fs.length ≤ Rows.uptoBulk d := by
  obtain ⟨a, len, cap, rfl⟩ := okWide_slice Try.underlying46 hv
  obtain ⟨fuel, h⟩ := h
  have h' : DataW.trod enc Try.prog w base spare held fuel 46 [.slice a len cap] = some (d, p) := h
  obtain ⟨fs, hr, hd⟩ := open_list 3 (fun x : Ft => [x.wv, .int .i64 x.torn, .int .i64 x.nb]) (fun x _ => Reads w x.wv 1 x.whole.length (boolCells x.whole)) Try.underlying46 cells91 (fun _ => rfl) h' elem_ft
  obtain ⟨h1, h2⟩ := bulk_list (R := fun (x : Ft) _ => Reads w x.wv 1 x.whole.length (boolCells x.whole)) hd
  dsimp only at h1 h2
  exact ⟨fs, hr, fun f hf => by obtain ⟨e, h3, _⟩ := h2 f hf; exact h3, h1⟩
end
set_option maxRecDepth 100000 in
theorem keeps_lifted (os : Os) (started : os.Started) (H : Type) (enc : TypeId × Value → H) (F : Stop.Interp) :
    ReturnsInHanded {} Try.checked os 6 .any ((Rows.OpenSpec.upto Rows.walKeepsSpec).pre6 enc Try.prog Try.f6 Rows.walKeepsUptoRow.domain false) (((Rows.OpenSpec.upto Rows.walKeepsSpec).at F).post enc Try.prog Try.f6 false true false false) := by
  refine returnsInHanded_of_cond (C := Try.checked) (s := Rows.OpenSpec.upto Rows.walKeepsSpec) (k := Rows.uptoSmall) rfl own started (by kernel_rfl) Try.func6
    (OpenSpec.witness (enc := enc) (C := Try.checked) (s := Rows.OpenSpec.upto Rows.walKeepsSpec) (k := Rows.uptoSmall) rfl false ⟨#[], #[.slice none 0 0, .int .u64 0, .slice none 0 0], []⟩ 8 (by kernel_rfl) (by kernel_rfl) (by kernel_rfl)
      (x := ([.nil, .lit (.int .u64 0), .nil], [], [])) (by kernel_rfl) rfl (by kernel_rfl)) ?_
  intro W base args ds gs before hval0 hW hcnd hk _
  have hW' := hW
  obtain ⟨p, q, hA0, hV, rfl, hfz, hnd⟩ := hW
  have hval : ∀ (j : Nat) t v, Try.f6.params[j]? = some t → args[j]? = some v → Value.okWide Try.prog W .any base t v := hval0
  have hA : DataW.TrodAll enc Try.prog W 0 (fun _ => true) true Try.f6.params.toList args.toList ds p := hA0
  rw [Try.params6] at hA hval
  obtain ⟨v0, v1, v2, d0, d1, d2, p0, p1, p2, rfl, rfl, rfl, h0, h1, h2⟩ := trodAll_three hA
  obtain ⟨rfl, rfl⟩ := trodVars_none hV
  have hlt : ∀ x ∈ p0 ++ (p1 ++ p2), x.block < W.heap.size := fun x hx => hW'.lt x (by simpa using hx)
  obtain ⟨R, hR, hRl, hRs⟩ := open_recs (hval 0 27 v0 rfl rfl) h0
  obtain ⟨n, rfl, rfl, rfl, wn⟩ := open_int Try.underlying45 (hval 1 45 v1 rfl rfl) h1
  obtain ⟨lo, hi⟩ := bounds_u64 wn
  obtain ⟨ft, hf, hw, hfl⟩ := open_fates (hval 2 46 v2 rfl rfl) h2
  have hbulk : Rows.uptoBulkAll ([d0, .lit (.int .u64 n), d2] ++ []) ≤ 1048576 := of_decide_eq_true hk
  simp only [List.append_nil, Rows.uptoBulkAll, Rows.uptoBulk] at hbulk
  simp only [List.append_nil] at hW'
  refine (law_keeps R v0 n ft v2 W hR (by omega) lo hi hf hw (by omega)).mono fun e W' ⟨he, hb⟩ => ?_
  subst he
  refine ⟨_, rfl, _, _, _, [], p0 ++ ([] ++ p2), [], hW', trodAll_mk1 (shut_bool Try.underlying4 _), ?_, rfl, ?_, fun h => by cases h⟩
  · exact trodAll_mk3 (Below.trod laidOut (by kernel_rfl) (of_decide_eq_true (by kernel_rfl)) h0 hb fun x hx => hlt x (by simp [hx])) (shut_int Try.underlying45 wn) (Below.trod laidOut (by kernel_rfl) (of_decide_eq_true (by kernel_rfl)) h2 hb fun x hx => hlt x (by simp [hx]))
  · simpa using hb.frame _

/-- The given statement. -/
theorem keeps_proved : Rows.WalKeepsUptoSaid :=
  OpenClaim.holds_of_cond 6 Try.f6 rfl rfl rfl rfl rfl rfl rfl ⟨rfl, rfl, rfl, rfl, rfl⟩ rfl rfl rfl rfl rfl (by kernel_rfl) Try.func6 (by kernel_rfl)
    (of_decide_eq_true (by kernel_rfl)) (by unfold Func.isWrapper; first | (rw [if_pos (by decide +kernel)]; kernel_rfl) | (rw [if_neg (by decide +kernel)]; exact ⟨rfl, rfl⟩))
    (fun os started H enc _ F => keeps_lifted os started H enc F)
end Go.Proofs.Ytkecjopojnllnaa
