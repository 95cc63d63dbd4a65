/- WalkStores, the given statement: where a store is found a load is, at the same address: for every input, with no condition. -/
import Derived.Test.YtmjlgoceokdabaaWA
import Derived.Test.YtmjlgoceokdabaaWC
namespace Go.Proofs.Ytmjlgoceokdabaa
open Go.RowKit Go.Deep Go.Joins
theorem stores_any (C : Array Value) (dv mv : Value) (ms sp E m t : Int) (D : List UInt8) (hC : CsrAt C ms sp) (ht : U64 t) (W : World) (hd : DAt W dv D) : Calls Try.prog 5 #[.agg C, .int .i64 m, .agg #[dv, mv, .int .u64 E], .int .u64 t] W fun e W' => e = .returned (.bool true) ∧ Below W.heap.size W W' := by
  obtain ⟨a, e, ha⟩ : ∃ a e, findF D ms sp m t 2 = (a, e) := ⟨_, _, rfl⟩
  obtain ⟨b, f, hb⟩ : ∃ a e, findF D ms sp m t 1 = (a, e) := ⟨_, _, rfl⟩
  have c1 := Lib.hid (find_let C dv mv ms sp E m t 2 a e D hC ht W hd ha)
  have c2 := Lib.hid (find_let C dv mv ms sp E m t 1 b f D hC ht W hd hb)
  by_cases h : 0 ≤ e
  · exact stores_why C #[dv, mv, .int .u64 E] m t a b e f W hC.size rfl c1 c2 h
  · have he : e = -1 := by
      rcases find_ways D ms sp m t 2 (by omega) (by omega) with k | k | k
      · rw [ha] at k
        have k2 : e = pageV 2 := congrArg Prod.snd k
        exact absurd (k2 ▸ page_nn 2) h
      · rw [ha] at k
        have k2 : e = accV 2 := congrArg Prod.snd k
        exact absurd (k2 ▸ acc_nn 2) h
      · rw [ha] at k; exact k
    subst he
    have k := find_store D ms sp m t (by rw [ha])
    rw [ha, hb] at k
    obtain ⟨rfl, rfl⟩ := Prod.mk.inj k
    exact stores_found C #[dv, mv, .int .u64 E] m t _ W hC.size rfl c1 c2
open Go.WideShapes Go.ChangeShapes Go.ChangeAt
set_option maxRecDepth 100000 in
theorem walkStores_lifted (os : Os) (started : os.Started) (H : Type) (enc : TypeId × Value → H) :
    ReturnsInHanded {} Try.checked os 5 .any (Rows.walkStoresSpec.pre6 enc Try.prog Try.f5 Rows.walkStoresRow.domain false) (Rows.walkStoresSpec.post enc Try.prog Try.f5 false true false false) := by
  refine returnsInHanded_of_change_sized (C := Try.checked) own started (by kernel_rfl) Try.func5
    (ChangeSpec.witness6 (enc := enc) (C := Try.checked) false ⟨#[], #[.agg #[.int .u64 0, .int .u64 0, .int .u64 0, .int .u64 0, .int .u64 0, .int .u64 0, .int .u64 0, .int .u64 0, .int .u64 0, .int .u64 0, .int .u64 0, .int .u64 0, .int .u64 0, .int .u64 0, .int .u64 0, .int .u64 0], .int .i64 0, .agg #[.slice none 0 0, .slice none 0 0, .int .u64 0], .int .u64 0], []⟩ 8 (by kernel_rfl) (by kernel_rfl) (by kernel_rfl) (by kernel_rfl)) ?_
  intro W base args ds gs before hval0 hW hcnd hsz _
  have hW' := hW
  obtain ⟨p, q, hA0, hV, rfl, hfz, hnd⟩ := hW
  have hval : ∀ (j : Nat) t v, Try.f5.params[j]? = some t → args[j]? = some v → Value.okWide Try.prog W .any base t v := hval0
  have hA : DataW.TrodAll enc Try.prog W 0 (fun _ => true) true Try.f5.params.toList args.toList ds p := hA0
  rw [Try.params5] at hA hval
  obtain ⟨v0, v1, v2, v3, d0, d1, d2, d3, p0, p1, p2, p3, rfl, rfl, rfl, h0, h1, h2, h3⟩ := trodAll_four hA
  obtain ⟨rfl, rfl⟩ := trodVars_none hV
  have hlt : ∀ x ∈ p0 ++ p2, x.block < W.heap.size := fun x hx => hW'.lt x (by rcases List.mem_append.1 hx with h | h <;> simp [h])
  obtain ⟨C, ms, sp, rfl, hC, hms⟩ := open_csr (hval 0 24 v0 rfl rfl) h0
  obtain ⟨n1, rfl, rfl, rfl, w1⟩ := open_int Try.underlying3 (hval 1 3 v1 rfl rfl) h1
  obtain ⟨dv, mv, E, D, M, hr, hwt⟩ := open_ram (hval 2 28 v2 rfl rfl) h2
  have hN : ∀ x ∈ d2.weights Try.prog 28, x ≤ 140737488351232 := fun x hx => by
    have := List.all_eq_true.1 hsz x (by
      show x ∈ DataW.weightsEach Try.prog (Try.f5.params.toList ++ _) _
      rw [Try.params5]
      simp [DataW.weightsEach, hx])
    exact of_decide_eq_true this
  obtain ⟨hD, hM⟩ := hwt _ hN
  obtain rfl := hr.is
  obtain ⟨n3, rfl, rfl, rfl, w3⟩ := open_int Try.underlying22 (hval 3 22 v3 rfl rfl) h3
  have U3 : U64 n3 := by
    obtain ⟨lo, hi⟩ := bounds_u64 w3
    exact ⟨lo, by omega⟩
  simp only [List.append_nil] at hW'
  refine (stores_any C dv mv ms sp E n1 n3 D hC U3 W hr.d).mono fun e W' ⟨he, hb⟩ => ?_
  subst he
  refine ⟨_, rfl, _, _, _, [], p0 ++ ([] ++ (p2 ++ ([]))), [], hW', trodAll_mk1 (shut_bool Try.underlying4 _), trodAll_mk4 (Below.trod laidOut (by kernel_rfl) (of_decide_eq_true (by kernel_rfl)) h0 hb fun x hx => hlt x (by simp [hx])) (shut_int Try.underlying3 w1) (Below.trod laidOut (by kernel_rfl) (of_decide_eq_true (by kernel_rfl)) h2 hb fun x hx => hlt x (by simp [hx])) (shut_int Try.underlying22 w3), rfl, hb.frame _, fun h => by cases h⟩
/-- The given statement. -/
theorem walkStores_proved : Rows.WalkStoresSaid :=
  OpenClaim.holds_of_wide 5 Try.f5 rfl rfl rfl rfl rfl rfl rfl ⟨rfl, rfl, rfl, rfl, rfl⟩ rfl rfl rfl rfl rfl (by kernel_rfl) Try.func5 (by kernel_rfl)
    (of_decide_eq_true (by kernel_rfl)) (by unfold Func.isWrapper; first | (rw [if_pos (by decide +kernel)]; kernel_rfl) | (rw [if_neg (by decide +kernel)]; exact ⟨rfl, rfl⟩))
    (fun os started H enc _ => walkStores_lifted os started H enc)

end Go.Proofs.Ytmjlgoceokdabaa
