/- WalkCauses, the given statement: why an address is not found is one of two causes of its kind, and in the upper mode every fetch is found at itself: for every input, with no condition. -/
import Derived.Test.YtmjlgoceokdabaaWB
import Derived.Test.YtmjlgoceokdabaaWC
namespace Go.Proofs.Ytmjlgoceokdabaa
open Go.RowKit Go.Deep Go.Joins
theorem causes_any (C : Array Value) (dv mv : Value) (ms sp E m t kind : Int) (D : List UInt8) (hC : CsrAt C ms sp) (ht : U64 t) (W : World) (hd : DAt W dv D) : Calls Try.prog 6 #[.agg C, .int .i64 m, .agg #[dv, mv, .int .u64 E], .int .u64 t, .int .i64 kind] W fun e W' => e = .returned (.bool true) ∧ Below W.heap.size W W' := by
  by_cases l : kind < 0
  · exact causes_low C #[dv, mv, .int .u64 E] m t kind W hC.size rfl (Lib.hid (find_let C dv mv ms sp E m t kind 0 0 D hC ht W hd (find_out D ms sp m t kind (.inl l)))) l
  by_cases g : 2 < kind
  · exact causes_high C #[dv, mv, .int .u64 E] m t kind W hC.size rfl (Lib.hid (find_let C dv mv ms sp E m t kind 0 0 D hC ht W hd (find_out D ms sp m t kind (.inr g)))) g
  have hk : kind = 0 ∨ kind = 1 ∨ kind = 2 := by omega
  rcases hk with rfl | rfl | rfl
  · by_cases hm : m = 3
    · subst hm
      exact causes_boss C #[dv, mv, .int .u64 E] t W hC.size rfl (Lib.hid (find_let C dv mv ms sp E 3 t 0 t (-1) D hC ht W hd (find_boss D ms sp t)))
    · have hm2 : (m == 3) = false := by simpa using hm
      rcases find_ways D ms sp m t 0 (by omega) (by omega) with k | k | k
      · exact causes_0_page C #[dv, mv, .int .u64 E] m t W hC.size rfl (Lib.hid (find_let C dv mv ms sp E m t 0 0 12 D hC ht W hd k)) hm2
      · exact causes_0_access C #[dv, mv, .int .u64 E] m t W hC.size rfl (Lib.hid (find_let C dv mv ms sp E m t 0 0 1 D hC ht W hd k)) hm2
      · exact causes_0_found C #[dv, mv, .int .u64 E] m t _ W hC.size rfl (Lib.hid (find_let C dv mv ms sp E m t 0 (findF D ms sp m t 0).1 (-1) D hC ht W hd (Prod.ext rfl k))) hm2
  · rcases find_ways D ms sp m t 1 (by omega) (by omega) with k | k | k
    · exact causes_1_page C #[dv, mv, .int .u64 E] m t W hC.size rfl (Lib.hid (find_let C dv mv ms sp E m t 1 0 13 D hC ht W hd k))
    · exact causes_1_access C #[dv, mv, .int .u64 E] m t W hC.size rfl (Lib.hid (find_let C dv mv ms sp E m t 1 0 5 D hC ht W hd k))
    · exact causes_1_found C #[dv, mv, .int .u64 E] m t _ W hC.size rfl (Lib.hid (find_let C dv mv ms sp E m t 1 (findF D ms sp m t 1).1 (-1) D hC ht W hd (Prod.ext rfl k)))
  · rcases find_ways D ms sp m t 2 (by omega) (by omega) with k | k | k
    · exact causes_2_page C #[dv, mv, .int .u64 E] m t W hC.size rfl (Lib.hid (find_let C dv mv ms sp E m t 2 0 15 D hC ht W hd k))
    · exact causes_2_access C #[dv, mv, .int .u64 E] m t W hC.size rfl (Lib.hid (find_let C dv mv ms sp E m t 2 0 7 D hC ht W hd k))
    · exact causes_2_found C #[dv, mv, .int .u64 E] m t _ W hC.size rfl (Lib.hid (find_let C dv mv ms sp E m t 2 (findF D ms sp m t 2).1 (-1) D hC ht W hd (Prod.ext rfl k)))
open Go.WideShapes Go.ChangeShapes Go.ChangeAt
set_option maxRecDepth 100000 in
theorem walkCauses_lifted (os : Os) (started : os.Started) (H : Type) (enc : TypeId × Value → H) :
    ReturnsInHanded {} Try.checked os 6 .any (Rows.walkCausesSpec.pre6 enc Try.prog Try.f6 Rows.walkCausesRow.domain false) (Rows.walkCausesSpec.post enc Try.prog Try.f6 false true false false) := by
  refine returnsInHanded_of_change_sized (C := Try.checked) own started (by kernel_rfl) Try.func6
    (ChangeSpec.witness6 (enc := enc) (C := Try.checked) false ⟨#[], #[.agg #[.int .u64 0, .int .u64 0, .int .u64 0, .int .u64 0, .int .u64 0, .int .u64 0, .int .u64 0, .int .u64 0, .int .u64 0, .int .u64 0, .int .u64 0, .int .u64 0, .int .u64 0, .int .u64 0, .int .u64 0, .int .u64 0], .int .i64 0, .agg #[.slice none 0 0, .slice none 0 0, .int .u64 0], .int .u64 0, .int .i64 0], []⟩ 8 (by kernel_rfl) (by kernel_rfl) (by kernel_rfl) (by kernel_rfl)) ?_
  intro W base args ds gs before hval0 hW hcnd hsz _
  have hW' := hW
  obtain ⟨p, q, hA0, hV, rfl, hfz, hnd⟩ := hW
  have hval : ∀ (j : Nat) t v, Try.f6.params[j]? = some t → args[j]? = some v → Value.okWide Try.prog W .any base t v := hval0
  have hA : DataW.TrodAll enc Try.prog W 0 (fun _ => true) true Try.f6.params.toList args.toList ds p := hA0
  rw [Try.params6] at hA hval
  obtain ⟨v0, v1, v2, v3, v4, d0, d1, d2, d3, d4, p0, p1, p2, p3, p4, rfl, rfl, rfl, h0, h1, h2, h3, h4⟩ := trodAll_five hA
  obtain ⟨rfl, rfl⟩ := trodVars_none hV
  have hlt : ∀ x ∈ p0 ++ p2, x.block < W.heap.size := fun x hx => hW'.lt x (by rcases List.mem_append.1 hx with h | h <;> simp [h])
  obtain ⟨C, ms, sp, rfl, hC, hms⟩ := open_csr (hval 0 24 v0 rfl rfl) h0
  obtain ⟨n1, rfl, rfl, rfl, w1⟩ := open_int Try.underlying3 (hval 1 3 v1 rfl rfl) h1
  obtain ⟨dv, mv, E, D, M, hr, hwt⟩ := open_ram (hval 2 28 v2 rfl rfl) h2
  have hN : ∀ x ∈ d2.weights Try.prog 28, x ≤ 140737488351232 := fun x hx => by
    have := List.all_eq_true.1 hsz x (by
      show x ∈ DataW.weightsEach Try.prog (Try.f6.params.toList ++ _) _
      rw [Try.params6]
      simp [DataW.weightsEach, hx])
    exact of_decide_eq_true this
  obtain ⟨hD, hM⟩ := hwt _ hN
  obtain rfl := hr.is
  obtain ⟨n3, rfl, rfl, rfl, w3⟩ := open_int Try.underlying22 (hval 3 22 v3 rfl rfl) h3
  have U3 : U64 n3 := by
    obtain ⟨lo, hi⟩ := bounds_u64 w3
    exact ⟨lo, by omega⟩
  obtain ⟨n4, rfl, rfl, rfl, w4⟩ := open_int Try.underlying3 (hval 4 3 v4 rfl rfl) h4
  simp only [List.append_nil] at hW'
  refine (causes_any C dv mv ms sp E n1 n3 n4 D hC U3 W hr.d).mono fun e W' ⟨he, hb⟩ => ?_
  subst he
  refine ⟨_, rfl, _, _, _, [], p0 ++ ([] ++ (p2 ++ ([] ++ ([])))), [], hW', trodAll_mk1 (shut_bool Try.underlying4 _), trodAll_mk5 (Below.trod laidOut (by kernel_rfl) (of_decide_eq_true (by kernel_rfl)) h0 hb fun x hx => hlt x (by simp [hx])) (shut_int Try.underlying3 w1) (Below.trod laidOut (by kernel_rfl) (of_decide_eq_true (by kernel_rfl)) h2 hb fun x hx => hlt x (by simp [hx])) (shut_int Try.underlying22 w3) (shut_int Try.underlying3 w4), rfl, hb.frame _, fun h => by cases h⟩
/-- The given statement. -/
theorem walkCauses_proved : Rows.WalkCausesSaid :=
  OpenClaim.holds_of_wide 6 Try.f6 rfl rfl rfl rfl rfl rfl rfl ⟨rfl, rfl, rfl, rfl, rfl⟩ rfl rfl rfl rfl rfl (by kernel_rfl) Try.func6 (by kernel_rfl)
    (of_decide_eq_true (by kernel_rfl)) (by unfold Func.isWrapper; first | (rw [if_pos (by decide +kernel)]; kernel_rfl) | (rw [if_neg (by decide +kernel)]; exact ⟨rfl, rfl⟩))
    (fun os started H enc _ => walkCauses_lifted os started H enc)

end Go.Proofs.Ytmjlgoceokdabaa
