/- DevBytes, the given statement: bytes that were given to the serial line are read one by one, in order, and then noughts: for every input, with no condition. -/
import Derived.Test.YtmbaimcneffnlaaEA
import Derived.Test.YtmbaimcneffnlaaPA
namespace Go.Proofs.Ytmbaimcneffnlaa
open Go.RowKit Go.Deep Go.Joins
open Go.WideShapes Go.ChangeShapes Go.ChangeAt
theorem strs_weight {H : Type} (l : List ByteArray) (s : ByteArray) (h : s ∈ l) : s.size ∈ DataW.weightsAll (H := H) Try.prog 9 (strs l) := by
  induction l with
  | nil => cases h
  | cons a l ih =>
    show s.size ∈ DataW.weightsAll Try.prog 9 (.lit (.string a.data.toList) :: strs l)
    simp only [DataW.weightsAll, DataW.weights, List.mem_append, List.mem_singleton]
    rcases List.mem_cons.1 h with rfl | h
    · exact .inl (by rw [Array.length_toList]; rfl)
    · exact .inr (ih h)
section
variable {H : Type} {enc : TypeId × Value → H} {w : World} {base : Nat} {spare : Nat → Bool} {held : Bool}
theorem open_fs {fuel : Nat} {c : Value} {x : DataW H × List MemPlace} (h : DataW.trod enc Try.prog w base spare held fuel 23 [c] = some x) :
    ∃ F, FAt w c F ∧ ∀ N, (∀ k ∈ x.1.weights Try.prog 23, k ≤ N) → ∀ s ∈ F, s.size ≤ N := by
  rcases open_strings Try.underlying23 Try.underlying9 cells9 h with ⟨hcs, rfl⟩ | ⟨a, len, cap, ss, hcs, _, hl, hm, hz, rfl, hcell, hsz⟩
  · simp only [List.cons.injEq, and_true] at hcs
    subst hcs
    exact ⟨[], ⟨rfl, .inl ⟨rfl, rfl⟩⟩, fun N _ s hs => by cases hs⟩
  · simp only [List.cons.injEq, and_true] at hcs
    subst hcs
    have hlen : len ≤ ss.length := by rw [hz]; split <;> omega
    have hDl : (ss.take len).length = len := by simp; omega
    refine ⟨ss.take len, ⟨by rw [sC_length, Nat.mul_one], .inr ⟨a, cap, by rw [hDl], by rw [hDl]; exact hl, hm, fun j u hu => ?_⟩⟩, fun N hN s hs => hN _ ?_⟩
    · have hj : j < len := by
        have := (List.getElem?_eq_some_iff.1 hu).1
        rw [sC_length, hDl] at this
        exact this
      rw [hcell j (by omega), ← hu]
      simp only [sC, List.getElem?_map, List.getElem?_take_of_lt hj, List.getElem?_eq_getElem (show j < ss.length by omega), List.getD_eq_getElem?_getD, Option.map_some, Option.getD_some]
    · simp only [DataW.weights, Try.underlying23, List.mem_cons, List.mem_append]
      exact .inr (.inl (strs_weight _ _ hs))
theorem open_frames {r : Reach} {b0 : Nat} {v : Value} {d : DataW H} {p : List MemPlace} (hv : Value.okWide Try.prog w r b0 23 v) (h : DataW.Trod enc Try.prog w base spare held 23 v d p) :
    ∃ F, FAt w v F ∧ ∀ N, (∀ k ∈ d.weights Try.prog 23, k ≤ N) → ∀ s ∈ F, s.size ≤ N := by
  obtain ⟨a0, len, cap, rfl⟩ := okWide_slice Try.underlying23 hv
  obtain ⟨fuel, hf⟩ := h
  exact open_fs hf
theorem trodAll_one' {t0 : TypeId} {args : Array Value} {ds : List (DataW H)} {ps : List MemPlace} (h : DataW.TrodAll enc Try.prog w base spare held [t0] args.toList ds ps) :
    ∃ v0 d0 p0, args = #[v0] ∧ ds = [d0] ∧ ps = p0 ∧ DataW.Trod enc Try.prog w base spare held t0 v0 d0 p0 := by
  obtain ⟨v0, vs0, d0, es0, p0, q0, hargs, rfl, rfl, hd0, hr0⟩ := trodAll_cons h
  obtain ⟨rfl, rfl, rfl⟩ := trodAll_nil hr0
  exact ⟨v0, d0, p0, by cases args; simp_all, rfl, by simp, hd0⟩
end
set_option maxRecDepth 100000 in
theorem devBytes_lifted (os : Os) (started : os.Started) (H : Type) (enc : TypeId × Value → H) :
    ReturnsInHanded {} Try.checked os 5 .any (Rows.devBytesSpec.pre6 enc Try.prog Try.f5 Rows.devBytesRow.domain false) (Rows.devBytesSpec.post enc Try.prog Try.f5 false true false false) := by
  refine returnsInHanded_of_change_sized (C := Try.checked) own started (by kernel_rfl) Try.func5
    (ChangeSpec.witness6 (enc := enc) (C := Try.checked) false ⟨#[], #[.slice none 0 0], []⟩ 8 (by kernel_rfl) (by kernel_rfl) (by kernel_rfl) (by kernel_rfl)) ?_
  intro W base args ds gs before hval0 hW hcnd hsz _
  have hW' := hW
  obtain ⟨p, q, hA0, hV, rfl, hfz, hnd⟩ := hW
  have hval : ∀ (j : Nat) t v, Try.f5.params[j]? = some t → args[j]? = some v → Value.okWide Try.prog W .any base t v := hval0
  have hA : DataW.TrodAll enc Try.prog W 0 (fun _ => true) true Try.f5.params.toList args.toList ds p := hA0
  rw [Try.params5] at hA hval
  obtain ⟨v0, d0, p0, rfl, rfl, rfl, h0⟩ := trodAll_one' hA
  obtain ⟨rfl, rfl⟩ := trodVars_none hV
  have hlt : ∀ x ∈ p, x.block < W.heap.size := fun x hx => hW'.lt x (by simp [hx])
  obtain ⟨L, hL, hwt⟩ := open_frames (hval 0 23 v0 rfl rfl) h0
  have hN : ∀ x ∈ d0.weights Try.prog 23, x ≤ 140737488351232 := fun x hx => by
    have := List.all_eq_true.1 hsz x (by
      show x ∈ DataW.weightsEach Try.prog (Try.f5.params.toList ++ _) _
      rw [Try.params5]
      simp [DataW.weightsEach, hx])
    exact of_decide_eq_true this
  have hls := hwt _ hN
  obtain ⟨q, cap, rfl⟩ := hL.is
  simp only [List.append_nil] at hW'
  refine (bytes_walk L q cap W hL hls).mono fun e W' ⟨he, hb⟩ => ?_
  subst he
  refine ⟨_, rfl, _, _, _, [], p, [], hW', trodAll_mk1 (shut_bool Try.underlying4 _), trodAll_mk1 (Below.trod laidOut (by kernel_rfl) (of_decide_eq_true (by kernel_rfl)) h0 hb hlt), rfl, hb.frame _, fun h => by cases h⟩
/-- The given statement. -/
theorem devBytes_proved : Rows.DevBytesSaid :=
  OpenClaim.holds_of_wide 5 Try.f5 rfl rfl rfl rfl rfl rfl rfl ⟨rfl, rfl, rfl, rfl, rfl⟩ rfl rfl rfl rfl rfl (by kernel_rfl) Try.func5 (by kernel_rfl)
    (of_decide_eq_true (by kernel_rfl)) (by unfold Func.isWrapper; first | (rw [if_pos (by decide +kernel)]; kernel_rfl) | (rw [if_neg (by decide +kernel)]; exact ⟨rfl, rfl⟩))
    (fun os started H enc _ => devBytes_lifted os started H enc)

end Go.Proofs.Ytmbaimcneffnlaa
