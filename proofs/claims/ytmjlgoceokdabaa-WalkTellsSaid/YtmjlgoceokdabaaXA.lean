/- WalkTells, the given statement: every address is found, or told why not, as the document says, and memory stays: for every input, with no condition. -/
import Derived.Test.YtmjlgoceokdabaaV
import Derived.Test.YtmjlgoceokdabaaWC
namespace Go.Proofs.Ytmjlgoceokdabaa
open Go.RowKit Go.Deep Go.Joins
theorem tells_any (C : Array Value) (dv mv : Value) (ms sp E m t kind : Int) (D : List UInt8) (M : List Int) (hC : CsrAt C ms sp) (hms : U64 ms) (ht : U64 t) (hD : D.length ≤ 140737488351232) (hM : M.length ≤ 17592186043904) (W : World) (hm : MAt W mv M) (hd : DAt W dv D) : Calls Try.prog 3 #[.agg C, .int .i64 m, .agg #[dv, mv, .int .u64 E], .int .u64 t, .int .i64 kind] W fun e W' => e = .returned (.bool true) ∧ Below W.heap.size W W' :=
  tells_walk C dv mv E m t kind (findF D ms sp m t kind).1 (findF D ms sp m t kind).2 D M W hC.size hd hm hD hM
    (Lib.hid fun dv' mv' W' hd' => find_any C #[dv', mv', .int .u64 E] ms sp m t kind D W' hC rfl ht.1 (load_ok hd'))
    (Lib.hid fun dv' mv' W' hd' => rfind_any C #[dv', mv', .int .u64 E] ms sp m t kind D W' hC rfl ht.1 hms (rload_ok hd'))
open Go.WideShapes Go.ChangeShapes Go.ChangeAt
set_option maxRecDepth 100000 in
theorem walkTells_lifted (os : Os) (started : os.Started) (H : Type) (enc : TypeId × Value → H) :
    ReturnsInHanded {} Try.checked os 3 .any (Rows.walkTellsSpec.pre6 enc Try.prog Try.f3 Rows.walkTellsRow.domain false) (Rows.walkTellsSpec.post enc Try.prog Try.f3 false true false false) := by
  refine returnsInHanded_of_change_sized (C := Try.checked) own started (by kernel_rfl) Try.func3
    (ChangeSpec.witness6 (enc := enc) (C := Try.checked) false ⟨#[], #[.agg #[.int .u64 0, .int .u64 0, .int .u64 0, .int .u64 0, .int .u64 0, .int .u64 0, .int .u64 0, .int .u64 0, .int .u64 0, .int .u64 0, .int .u64 0, .int .u64 0, .int .u64 0, .int .u64 0, .int .u64 0, .int .u64 0], .int .i64 0, .agg #[.slice none 0 0, .slice none 0 0, .int .u64 0], .int .u64 0, .int .i64 0], []⟩ 8 (by kernel_rfl) (by kernel_rfl) (by kernel_rfl) (by kernel_rfl)) ?_
  intro W base args ds gs before hval0 hW hcnd hsz _
  have hW' := hW
  obtain ⟨p, q, hA0, hV, rfl, hfz, hnd⟩ := hW
  have hval : ∀ (j : Nat) t v, Try.f3.params[j]? = some t → args[j]? = some v → Value.okWide Try.prog W .any base t v := hval0
  have hA : DataW.TrodAll enc Try.prog W 0 (fun _ => true) true Try.f3.params.toList args.toList ds p := hA0
  rw [Try.params3] at hA hval
  obtain ⟨v0, v1, v2, v3, v4, d0, d1, d2, d3, d4, p0, p1, p2, p3, p4, rfl, rfl, rfl, h0, h1, h2, h3, h4⟩ := trodAll_five hA
  obtain ⟨rfl, rfl⟩ := trodVars_none hV
  have hlt : ∀ x ∈ p0 ++ p2, x.block < W.heap.size := fun x hx => hW'.lt x (by rcases List.mem_append.1 hx with h | h <;> simp [h])
  obtain ⟨C, ms, sp, rfl, hC, hms⟩ := open_csr (hval 0 24 v0 rfl rfl) h0
  obtain ⟨n1, rfl, rfl, rfl, w1⟩ := open_int Try.underlying3 (hval 1 3 v1 rfl rfl) h1
  obtain ⟨dv, mv, E, D, M, hr, hwt⟩ := open_ram (hval 2 28 v2 rfl rfl) h2
  have hN : ∀ x ∈ d2.weights Try.prog 28, x ≤ 140737488351232 := fun x hx => by
    have := List.all_eq_true.1 hsz x (by
      show x ∈ DataW.weightsEach Try.prog (Try.f3.params.toList ++ _) _
      rw [Try.params3]
      simp [DataW.weightsEach, hx])
    exact of_decide_eq_true this
  obtain ⟨hD, hM⟩ := hwt _ hN
  obtain rfl := hr.is
  obtain ⟨n3, rfl, rfl, rfl, w3⟩ := open_int Try.underlying22 (hval 3 22 v3 rfl rfl) h3
  have U3 : U64 n3 := by
    obtain ⟨lo, hi⟩ := bounds_u64 w3
    exact ⟨lo, by omega⟩
  obtain ⟨n4, rfl, rfl, rfl, w4⟩ := open_int Try.underlying3 (hval 4 3 v4 rfl rfl) h4
  simp only [List.append_nil] at hW'
  refine (tells_any C dv mv ms sp E n1 n3 n4 D M hC hms U3 hD (by omega) W hr.m hr.d).mono fun e W' ⟨he, hb⟩ => ?_
  subst he
  refine ⟨_, rfl, _, _, _, [], p0 ++ ([] ++ (p2 ++ ([] ++ ([])))), [], hW', trodAll_mk1 (shut_bool Try.underlying4 _), trodAll_mk5 (Below.trod laidOut (by kernel_rfl) (of_decide_eq_true (by kernel_rfl)) h0 hb fun x hx => hlt x (by simp [hx])) (shut_int Try.underlying3 w1) (Below.trod laidOut (by kernel_rfl) (of_decide_eq_true (by kernel_rfl)) h2 hb fun x hx => hlt x (by simp [hx])) (shut_int Try.underlying22 w3) (shut_int Try.underlying3 w4), rfl, hb.frame _, fun h => by cases h⟩
/-- The given statement. -/
theorem walkTells_proved : Rows.WalkTellsSaid :=
  OpenClaim.holds_of_wide 3 Try.f3 rfl rfl rfl rfl rfl rfl rfl ⟨rfl, rfl, rfl, rfl, rfl⟩ rfl rfl rfl rfl rfl (by kernel_rfl) Try.func3 (by kernel_rfl)
    (of_decide_eq_true (by kernel_rfl)) (by unfold Func.isWrapper; first | (rw [if_pos (by decide +kernel)]; kernel_rfl) | (rw [if_neg (by decide +kernel)]; exact ⟨rfl, rfl⟩))
    (fun os started H enc _ => walkTells_lifted os started H enc)

end Go.Proofs.Ytmjlgoceokdabaa
