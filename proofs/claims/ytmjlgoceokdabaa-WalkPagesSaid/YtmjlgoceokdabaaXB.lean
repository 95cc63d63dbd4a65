/- WalkPages, the given statement: addresses of one page go the same way: for every input, with no condition. -/
import Derived.Test.YtmjlgoceokdabaaWA
import Derived.Test.YtmjlgoceokdabaaWC
namespace Go.Proofs.Ytmjlgoceokdabaa
open Go.RowKit Go.Deep Go.Joins
theorem pages_any (C : Array Value) (dv mv : Value) (ms sp E m t low kind : Int) (D : List UInt8) (hC : CsrAt C ms sp) (ht : U64 t) (W : World) (hd : DAt W dv D) : Calls Try.prog 4 #[.agg C, .int .i64 m, .agg #[dv, mv, .int .u64 E], .int .u64 t, .int .u64 low, .int .i64 kind] W fun e W' => e = .returned (.bool true) ∧ Below W.heap.size W W' := by
  have L := find_page D ms sp m t low kind ht
  obtain ⟨a, e, ha⟩ : ∃ a e, findF D ms sp m t kind = (a, e) := ⟨_, _, rfl⟩
  obtain ⟨b, f, hb⟩ : ∃ a e, findF D ms sp m (otherV t low) kind = (a, e) := ⟨_, _, rfl⟩
  rw [ha, hb] at L
  obtain ⟨h1, h2⟩ := L
  replace h1 : e = f := h1
  subst h1
  have c1 := Lib.hid (find_let C dv mv ms sp E m t kind a e D hC ht W hd ha)
  have c2 := Lib.hid (find_let C dv mv ms sp E m (otherV t low) kind b e D hC (other_u64 t low) W hd hb)
  by_cases h : 0 ≤ e
  · exact pages_why C #[dv, mv, .int .u64 E] m t low kind a b e W hC.size rfl c1 c2 h
  · rcases h2 with h2 | h2
    · exact absurd h2 h
    · exact pages_found C #[dv, mv, .int .u64 E] m t low kind a b e W hC.size rfl c1 c2 h (by unfold otherV at h2; simpa using h2)
open Go.WideShapes Go.ChangeShapes Go.ChangeAt
set_option maxRecDepth 100000 in
theorem walkPages_lifted (os : Os) (started : os.Started) (H : Type) (enc : TypeId × Value → H) :
    ReturnsInHanded {} Try.checked os 4 .any (Rows.walkPagesSpec.pre6 enc Try.prog Try.f4 Rows.walkPagesRow.domain false) (Rows.walkPagesSpec.post enc Try.prog Try.f4 false true false false) := by
  refine returnsInHanded_of_change_sized (C := Try.checked) own started (by kernel_rfl) Try.func4
    (ChangeSpec.witness6 (enc := enc) (C := Try.checked) false ⟨#[], #[.agg #[.int .u64 0, .int .u64 0, .int .u64 0, .int .u64 0, .int .u64 0, .int .u64 0, .int .u64 0, .int .u64 0, .int .u64 0, .int .u64 0, .int .u64 0, .int .u64 0, .int .u64 0, .int .u64 0, .int .u64 0, .int .u64 0], .int .i64 0, .agg #[.slice none 0 0, .slice none 0 0, .int .u64 0], .int .u64 0, .int .u64 0, .int .i64 0], []⟩ 8 (by kernel_rfl) (by kernel_rfl) (by kernel_rfl) (by kernel_rfl)) ?_
  intro W base args ds gs before hval0 hW hcnd hsz _
  have hW' := hW
  obtain ⟨p, q, hA0, hV, rfl, hfz, hnd⟩ := hW
  have hval : ∀ (j : Nat) t v, Try.f4.params[j]? = some t → args[j]? = some v → Value.okWide Try.prog W .any base t v := hval0
  have hA : DataW.TrodAll enc Try.prog W 0 (fun _ => true) true Try.f4.params.toList args.toList ds p := hA0
  rw [Try.params4] at hA hval
  obtain ⟨v0, v1, v2, v3, v4, v5, d0, d1, d2, d3, d4, d5, p0, p1, p2, p3, p4, p5, rfl, rfl, rfl, h0, h1, h2, h3, h4, h5⟩ := trodAll_six hA
  obtain ⟨rfl, rfl⟩ := trodVars_none hV
  have hlt : ∀ x ∈ p0 ++ p2, x.block < W.heap.size := fun x hx => hW'.lt x (by rcases List.mem_append.1 hx with h | h <;> simp [h])
  obtain ⟨C, ms, sp, rfl, hC, hms⟩ := open_csr (hval 0 24 v0 rfl rfl) h0
  obtain ⟨n1, rfl, rfl, rfl, w1⟩ := open_int Try.underlying3 (hval 1 3 v1 rfl rfl) h1
  obtain ⟨dv, mv, E, D, M, hr, hwt⟩ := open_ram (hval 2 28 v2 rfl rfl) h2
  have hN : ∀ x ∈ d2.weights Try.prog 28, x ≤ 140737488351232 := fun x hx => by
    have := List.all_eq_true.1 hsz x (by
      show x ∈ DataW.weightsEach Try.prog (Try.f4.params.toList ++ _) _
      rw [Try.params4]
      simp [DataW.weightsEach, hx])
    exact of_decide_eq_true this
  obtain ⟨hD, hM⟩ := hwt _ hN
  obtain rfl := hr.is
  obtain ⟨n3, rfl, rfl, rfl, w3⟩ := open_int Try.underlying22 (hval 3 22 v3 rfl rfl) h3
  have U3 : U64 n3 := by
    obtain ⟨lo, hi⟩ := bounds_u64 w3
    exact ⟨lo, by omega⟩
  obtain ⟨n4, rfl, rfl, rfl, w4⟩ := open_int Try.underlying22 (hval 4 22 v4 rfl rfl) h4
  have U4 : U64 n4 := by
    obtain ⟨lo, hi⟩ := bounds_u64 w4
    exact ⟨lo, by omega⟩
  obtain ⟨n5, rfl, rfl, rfl, w5⟩ := open_int Try.underlying3 (hval 5 3 v5 rfl rfl) h5
  simp only [List.append_nil] at hW'
  refine (pages_any C dv mv ms sp E n1 n3 n4 n5 D hC U3 W hr.d).mono fun e W' ⟨he, hb⟩ => ?_
  subst he
  refine ⟨_, rfl, _, _, _, [], p0 ++ ([] ++ (p2 ++ ([] ++ ([] ++ ([]))))), [], hW', trodAll_mk1 (shut_bool Try.underlying4 _), trodAll_mk6 (Below.trod laidOut (by kernel_rfl) (of_decide_eq_true (by kernel_rfl)) h0 hb fun x hx => hlt x (by simp [hx])) (shut_int Try.underlying3 w1) (Below.trod laidOut (by kernel_rfl) (of_decide_eq_true (by kernel_rfl)) h2 hb fun x hx => hlt x (by simp [hx])) (shut_int Try.underlying22 w3) (shut_int Try.underlying22 w4) (shut_int Try.underlying3 w5), rfl, hb.frame _, fun h => by cases h⟩
/-- The given statement. -/
theorem walkPages_proved : Rows.WalkPagesSaid :=
  OpenClaim.holds_of_wide 4 Try.f4 rfl rfl rfl rfl rfl rfl rfl ⟨rfl, rfl, rfl, rfl, rfl⟩ rfl rfl rfl rfl rfl (by kernel_rfl) Try.func4 (by kernel_rfl)
    (of_decide_eq_true (by kernel_rfl)) (by unfold Func.isWrapper; first | (rw [if_pos (by decide +kernel)]; kernel_rfl) | (rw [if_neg (by decide +kernel)]; exact ⟨rfl, rfl⟩))
    (fun os started H enc _ => walkPages_lifted os started H enc)

end Go.Proofs.Ytmjlgoceokdabaa
