/- DiskCrashes, for arguments of bulk at most 1048576: a crash by any fates, all bytes of a file by its name, and a copy are what the reference answers, and the disk that is handed in stays. -/
import Derived.Test.YtfpdfhncifcghaaSf
import Derived.ChangeMaps
namespace Go.Proofs.Ytfpdfhncifcghaa
open Go.RowKit Go.Deep Go.Joins Go.WideShapes Go.ChangeShapes Go.ChangeAt
open Go.ChangeMaps (open_string shut_string)

section
variable {H : Type} {enc : TypeId × Value → H} {w : World} {base : Nat} {spare : Nat → Bool} {held : Bool}
theorem open_fates2 {r : Reach} {b0 : Nat} {v : Value} {d : DataW H} {p : List MemPlace} (hv : Value.okWide Try.prog w r b0 39 v) (h : DataW.Trod enc Try.prog w base spare held 39 v d p) :
    ∃ fs : List Ft, Reads w v 3 fs.length (ftCells fs) ∧ Wholes w fs ∧ fs.length ≤ Rows.uptoBulk d := by
  obtain ⟨a, len, cap, rfl⟩ := okWide_slice Try.underlying39 hv
  obtain ⟨fuel, h⟩ := h
  have h' : DataW.trod enc Try.prog w base spare held fuel 39 [.slice a len cap] = some (d, p) := h
  obtain ⟨fs, hr, hd⟩ := open_list 3 (fun x : Ft => [x.wv, .int .i64 x.torn, .int .i64 x.nb]) (fun x _ => Reads w x.wv 1 x.whole.length (boolCells x.whole)) Try.underlying39 cells50 (fun _ => rfl) h' elem_ft
  obtain ⟨h1, h2⟩ := bulk_list (R := fun (x : Ft) _ => Reads w x.wv 1 x.whole.length (boolCells x.whole)) hd
  dsimp only at h1 h2
  exact ⟨fs, hr, fun f hf => by obtain ⟨e, h3, _⟩ := h2 f hf; exact h3, h1⟩
theorem small_bulk {l : List Rw} {d : DataW H} (h : ReadDisk w l d) (hN : Rows.uptoBulk d ≤ 1048576) : Small l := by
  obtain ⟨h1, h2⟩ := bulk_disk h
  refine ⟨by omega, fun r hr => ?_⟩
  obtain ⟨k1, k2, k3, k4⟩ := h2 r hr
  exact ⟨by omega, by omega, fun x hx => by have := k4 x hx; omega⟩
end

set_option maxRecDepth 100000 in
theorem crashes_lifted (os : Os) (started : os.Started) (H : Type) (enc : TypeId × Value → H) (F : Stop.Interp) :
    ReturnsInHanded {} Try.checked os 4 .any ((Rows.OpenSpec.upto Rows.diskCrashesSpec).pre6 enc Try.prog Try.f4 Rows.diskCrashesUptoRow.domain false) (((Rows.OpenSpec.upto Rows.diskCrashesSpec).at F).post enc Try.prog Try.f4 false true false false) := by
  refine returnsInHanded_of_cond (C := Try.checked) (s := Rows.OpenSpec.upto Rows.diskCrashesSpec) (k := Rows.uptoSmall) rfl own started (by kernel_rfl) Try.func4
    (OpenSpec.witness (enc := enc) (C := Try.checked) (s := Rows.OpenSpec.upto Rows.diskCrashesSpec) (k := Rows.uptoSmall) rfl false ⟨#[], #[.agg #[.slice none 0 0], .slice none 0 0, .string .empty], []⟩ 8 (by kernel_rfl) (by kernel_rfl) (by kernel_rfl)
      (x := ([.agg [.nil], .nil, .lit (.string [])], [], [])) (by kernel_rfl) rfl (by kernel_rfl)) ?_
  intro W base args ds gs before hval0 hW hcnd hk _
  have hW' := hW
  obtain ⟨p, q, hA0, hV, rfl, hfz, hnd⟩ := hW
  have hval : ∀ (j : Nat) t v, Try.f4.params[j]? = some t → args[j]? = some v → Value.okWide Try.prog W .any base t v := hval0
  have hA : DataW.TrodAll enc Try.prog W 0 (fun _ => true) true Try.f4.params.toList args.toList ds p := hA0
  rw [Try.params4] at hA hval
  obtain ⟨v0, v1, v2, d0, d1, d2, p0, p1, p2, rfl, rfl, rfl, h0, h1, h2⟩ := trodAll_three hA
  obtain ⟨rfl, rfl⟩ := trodVars_none hV
  have hlt : ∀ x ∈ p0 ++ (p1 ++ p2), x.block < W.heap.size := fun x hx => hW'.lt x (by simpa using hx)
  obtain ⟨fv, l, rfl, hr, hd⟩ := open_disk (hval 0 24 v0 rfl rfl) h0
  obtain ⟨fs, hf, hwh, hfl⟩ := open_fates2 (hval 1 39 v1 rfl rfl) h1
  have h2' := h2
  obtain ⟨s, rfl, rfl, rfl, _⟩ := open_string Try.underlying9 (hval 2 9 v2 rfl rfl) h2
  have hbulk : Rows.uptoBulkAll ([d0, d1, .lit (.string s.data.toList)] ++ []) ≤ 1048576 := of_decide_eq_true hk
  simp only [List.append_nil, Rows.uptoBulkAll] at hbulk
  simp only [List.append_nil] at hW'
  refine (crashes_any l fv fs v1 s W hr hd.opens hf hwh (small_bulk hd (by omega)) (by omega)).mono fun e W' ⟨he, hb⟩ => ?_
  subst he
  refine ⟨_, rfl, _, _, _, [], p0 ++ p1, [], hW', trodAll_mk1 (shut_bool Try.underlying4 _), ?_, rfl, ?_, fun h => by cases h⟩
  · have h := trodAll_mk3 (Below.trod laidOut (by kernel_rfl) (of_decide_eq_true (by kernel_rfl)) h0 hb fun x hx => hlt x (by simp [hx])) (Below.trod laidOut (by kernel_rfl) (of_decide_eq_true (by kernel_rfl)) h1 hb fun x hx => hlt x (by simp [hx])) (Below.trod laidOut (by kernel_rfl) (of_decide_eq_true (by kernel_rfl)) h2' hb fun x hx => by cases hx)
    rw [List.append_nil] at h
    exact h
  · simpa [List.append_assoc] using hb.frame _

/-- The given statement. -/
theorem crashes_proved : Rows.DiskCrashesUptoSaid :=
  OpenClaim.holds_of_cond 4 Try.f4 rfl rfl rfl rfl rfl rfl rfl ⟨rfl, rfl, rfl, rfl, rfl⟩ rfl rfl rfl rfl rfl (by kernel_rfl) Try.func4 (by kernel_rfl)
    (of_decide_eq_true (by kernel_rfl)) (by unfold Func.isWrapper; first | (rw [if_pos (by decide +kernel)]; kernel_rfl) | (rw [if_neg (by decide +kernel)]; exact ⟨rfl, rfl⟩))
    (fun os started H enc _ F => crashes_lifted os started H enc F)
end Go.Proofs.Ytfpdfhncifcghaa
