/- BusNowhere, the given statement: where a read through the bus finds nothing nothing changes, and a write there neither, of every machine: for every input, with no condition. -/
import Derived.Test.YtnedhjaphfjdmaaBZ
import Derived.Test.YtnedhjaphfjdmaaOE
import Derived.Test.YtnedhjaphfjdmaaRows
import Derived.SizedLaws
import Derived.Carry
namespace Go.Proofs.Ytnedhjaphfjdmaa
open Go.RowKit Go.Deep Go.Joins Go.WideShapes Go.ChangeShapes Go.ChangeAt
theorem ok_in {m : Mc} {q : Pt} (ok : OkB m.b) (hs : ∀ s ∈ q.F, s.size ≤ maxLen) (hN : q.F.length * 16 ≤ 140737488351232 ∧ q.D.length ≤ 140737488351232 ∧ q.M.length * 8 ≤ 140737488351232 ∧ q.O.length * 32 ≤ 140737488351232) : POk m q ∧ (q.O.length + 1) * 32 ≤ 140737488355328 :=
  ⟨⟨⟨ok.addr, ok.nicA, ok.sector⟩, ok.pl.c, (fun f hf => by have := hs f hf; unfold maxLen at this; omega), by omega, hN.2.1, by omega⟩, by omega⟩
set_option maxRecDepth 100000 in
theorem busNowhere_lifted (os : Os) (started : os.Started) (H : Type) (enc : TypeId × Value → H) :
    ReturnsInHanded {} Try.checked os 6 .any (Rows.busNowhereSpec.pre6 enc Try.prog Try.f6 Rows.busNowhereRow.domain false) (Rows.busNowhereSpec.post enc Try.prog Try.f6 false true false false) := by
  refine returnsInHanded_of_change_sized (C := Try.checked) own started (by kernel_rfl) Try.func6
    (ChangeSpec.witness6 (enc := enc) (C := Try.checked) false ⟨#[], #[.agg Try.zeroCells42, .int .u64 0, .int .i64 0, .int .u64 0], []⟩ 8 (by kernel_rfl) (by kernel_rfl) (by kernel_rfl) (by kernel_rfl)) ?_
  intro W base args ds gs before hval0 hW hcnd hsz _
  have hW' := hW
  obtain ⟨p, q, hA0, hV, rfl, hfz, hnd⟩ := hW
  have hval : ∀ (j : Nat) t v, Try.f6.params[j]? = some t → args[j]? = some v → Value.okWide Try.prog W .any base t v := hval0
  have hA : DataW.TrodAll enc Try.prog W 0 (fun _ => true) true Try.f6.params.toList args.toList ds p := hA0
  rw [Try.params6] at hA hval
  obtain ⟨v0, v1, v2, v3, d0, d1, d2, d3, p0, p1, p2, p3, rfl, rfl, rfl, h0, h1, h2, h3⟩ := trodAll_four hA
  obtain ⟨rfl, rfl⟩ := trodVars_none hV
  have hlt : ∀ x ∈ p0, x.block < W.heap.size := fun x hx => hW'.lt x (by simp [hx])
  obtain ⟨m, q, rfl, hr, ok, hs, hwt⟩ := open_machine (hval 0 42 v0 rfl rfl) h0
  have hN : ∀ x ∈ d0.weights Try.prog 42, x ≤ 140737488351232 := fun x hx => by
    have := List.all_eq_true.1 hsz x (by
      show x ∈ DataW.weightsEach Try.prog (Try.f6.params.toList ++ _) _
      rw [Try.params6]
      simp [DataW.weightsEach, hx])
    exact of_decide_eq_true this
  obtain ⟨hok, hO⟩ := ok_in ok hs (hwt _ hN)
  obtain ⟨n1, rfl, rfl, rfl, w1⟩ := open_int Try.underlying22 (hval 1 22 v1 rfl rfl) h1
  obtain ⟨n2, rfl, rfl, rfl, w2⟩ := open_int Try.underlying3 (hval 2 3 v2 rfl rfl) h2
  obtain ⟨n3, rfl, rfl, rfl, w3⟩ := open_int Try.underlying22 (hval 3 22 v3 rfl rfl) h3
  simp only [List.append_nil] at hW'
  refine (nowhere_walk m q n1 n2 n3 W hr hok hO (by have := bounds_u64 w1; omega) (by have := bounds_u64 w3; omega)).mono fun e W' ⟨he, hb⟩ => ?_
  subst he
  refine ⟨_, rfl, _, _, _, [], p0 ++ ([] ++ ([] ++ ([]))), [], hW', trodAll_mk1 (shut_bool Try.underlying4 _), trodAll_mk4 (Below.trod laidOut (by kernel_rfl) (of_decide_eq_true (by kernel_rfl)) h0 hb hlt) (shut_int Try.underlying22 w1) (shut_int Try.underlying3 w2) (shut_int Try.underlying22 w3), rfl, hb.frame _, fun h => by cases h⟩
/-- The given statement. -/
theorem busNowhere_proved : Rows.BusNowhereSaid :=
  OpenClaim.holds_of_wide 6 Try.f6 rfl rfl rfl rfl rfl rfl rfl ⟨rfl, rfl, rfl, rfl, rfl⟩ rfl rfl rfl rfl rfl (by kernel_rfl) Try.func6 (by kernel_rfl)
    (of_decide_eq_true (by kernel_rfl)) (by unfold Func.isWrapper; first | (rw [if_pos (by decide +kernel)]; kernel_rfl) | (rw [if_neg (by decide +kernel)]; exact ⟨rfl, rfl⟩))
    (fun os started H enc _ => busNowhere_lifted os started H enc)

end Go.Proofs.Ytnedhjaphfjdmaa
