/- RamSince, the given statement: the leaves that Since tells, laid over the memory of before by Pieces and Lay, give the memory of now, after any puts and stores: for every input, with no condition. -/
import Derived.Test.YtocphogddjcblaaCE
import Derived.Test.YtocphogddjcblaaBE
namespace Go.Proofs.Ytocphogddjcblaa
open Go.RowKit Go.Deep Go.Joins Go.WideShapes Go.ChangeShapes Go.ChangeAt
section
variable {H : Type} {enc : TypeId × Value → H} {w : World} {base : Nat} {spare : Nat → Bool} {held : Bool}
instance : Inhabited Sp := ⟨⟨0, 0, 0, .empty, by decide, by decide, by decide, by decide, by decide, by decide⟩⟩
theorem elem_spot (n : Nat) (cs : List Value) (y : DataW H × List MemPlace) (h : DataW.trod enc Try.prog w base spare held n 28 cs = some y) : ∃ a : Sp, cs = spC a := by
  obtain ⟨y0, y1, y2, y3, n, rfl, hl, h0, h1, h2, h3⟩ := trod_struct4 Try.underlying28 h
  rw [cells28] at hl
  match cs, hl with
  | [a, b, c, d], _ =>
    obtain ⟨t, e0, rfl, w0⟩ := DataW.trod_int Try.underlying24 h0
    obtain ⟨size, e1, rfl, w1⟩ := DataW.trod_int Try.underlying3 h1
    obtain ⟨x, e2, rfl, w2⟩ := DataW.trod_int Try.underlying24 h2
    obtain ⟨s, e3, rfl, w3⟩ := DataW.trod_string Try.underlying9 h3
    simp [cells24] at e0
    simp [cells3] at e1
    simp [cells24] at e2
    simp [cells9] at e3
    subst e0 e1 e2 e3
    have b0 := bounds_u64 w0
    have b1 := bounds_i64 w1
    have b2 := bounds_u64 w2
    obtain ⟨xn, rfl⟩ : ∃ xn : Nat, x = xn := ⟨x.toNat, by omega⟩
    exact ⟨⟨t, size, xn, s, b0.1, b0.2, b1.1, b1.2, by omega, by unfold maxLen at w3; omega⟩, rfl⟩
theorem open_spots {r : Reach} {b0 : Nat} {v : Value} {d : DataW H} {p : List MemPlace} (hv : Value.okWide Try.prog w r b0 50 v) (h : DataW.Trod enc Try.prog w base spare held 50 v d p) : ∃ L : List Sp, SAt w v L := by
  obtain ⟨a0, len, cap, rfl⟩ := okWide_slice Try.underlying50 hv
  obtain ⟨fuel, hf⟩ := h
  obtain ⟨l, hr⟩ := open_list 4 spC Try.underlying50 cells28 (fun _ => rfl) (by simpa [Value.cells] using hf) elem_spot
  exact ⟨l, hr⟩
end
set_option maxRecDepth 100000 in
theorem since_lifted (os : Os) (started : os.Started) (H : Type) (enc : TypeId × Value → H) :
    ReturnsInHanded {} Try.checked os 6 .any (Rows.ramSinceSpec.pre6 enc Try.prog Try.f6 Rows.ramSinceRow.domain false) (Rows.ramSinceSpec.post enc Try.prog Try.f6 false true false false) := by
  refine returnsInHanded_of_change_sized (C := Try.checked) own started (by kernel_rfl) Try.func6
    (ChangeSpec.witness6 (enc := enc) (C := Try.checked) false ⟨#[], #[.agg #[.slice none 0 0, .slice none 0 0, .int .u64 0], .slice none 0 0], []⟩ 8 (by kernel_rfl) (by kernel_rfl) (by kernel_rfl) (by kernel_rfl)) ?_
  intro W base args ds gs before hval0 hW hcnd hsz _
  have hW' := hW
  obtain ⟨p, q, hA0, hV, rfl, hfz, hnd⟩ := hW
  have hval : ∀ (j : Nat) t v, Try.f6.params[j]? = some t → args[j]? = some v → Value.okWide Try.prog W .any base t v := hval0
  have hA : DataW.TrodAll enc Try.prog W 0 (fun _ => true) true Try.f6.params.toList args.toList ds p := hA0
  rw [Try.params6] at hA hval
  obtain ⟨v0, v1, d0, d1, p0, p1, rfl, rfl, rfl, h0, h1⟩ := trodAll_two hA
  obtain ⟨rfl, rfl⟩ := trodVars_none hV
  have hlt : ∀ x ∈ p0 ++ p1, x.block < W.heap.size := fun x hx => hW'.lt x (by simpa using hx)
  obtain ⟨dv, mv, E, D, M, hr, hwt⟩ := open_ram (hval 0 26 v0 rfl rfl) h0
  obtain ⟨L, hL⟩ := open_spots (hval 1 50 v1 rfl rfl) h1
  have hN : ∀ x ∈ d0.weights Try.prog 26, x ≤ 140737488351232 := fun x hx => by
    have := List.all_eq_true.1 hsz x (by
      show x ∈ DataW.weightsEach Try.prog (Try.f6.params.toList ++ _) _
      rw [Try.params6]
      simp [DataW.weightsEach, hx])
    exact of_decide_eq_true this
  obtain ⟨hD, hM⟩ := hwt _ hN
  obtain rfl := hr.is
  simp only [List.append_nil] at hW'
  refine (since_law dv mv v1 E D M L W hr.d hr.m hL hD (by omega) hr.e0 hr.e1).mono fun e W' ⟨he, hb⟩ => ?_
  subst he
  refine ⟨_, rfl, _, _, _, [], p0 ++ p1, [], hW', trodAll_mk1 (shut_bool Try.underlying4 _), trodAll_mk2 (Below.trod laidOut (by kernel_rfl) (of_decide_eq_true (by kernel_rfl)) h0 hb fun x hx => hlt x (by simp [hx])) (Below.trod laidOut (by kernel_rfl) (of_decide_eq_true (by kernel_rfl)) h1 hb fun x hx => hlt x (by simp [hx])), rfl, hb.frame _, fun h => by cases h⟩

theorem since_over : Rows.ramSinceRow.holds Try.pinned (OpenSpec.ofChange Rows.ramSinceSpec) :=
  OpenClaim.holds_of_wide 6 Try.f6 rfl rfl rfl rfl rfl rfl rfl ⟨rfl, rfl, rfl, rfl, rfl⟩ rfl rfl rfl rfl rfl (by kernel_rfl) Try.func6 (by kernel_rfl)
    (of_decide_eq_true (by kernel_rfl)) (by unfold Func.isWrapper; first | (rw [if_pos (by decide +kernel)]; kernel_rfl) | (rw [if_neg (by decide +kernel)]; exact ⟨rfl, rfl⟩))
    (fun os started H enc _ => since_lifted os started H enc)

/-- The given statement. -/
theorem since_proved : Rows.RamSinceSaid := since_over
end Go.Proofs.Ytocphogddjcblaa
