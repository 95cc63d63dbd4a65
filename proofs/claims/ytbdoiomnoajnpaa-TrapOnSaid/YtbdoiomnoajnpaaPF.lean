/- TrapOn, the given statement: an interrupt that comes is one that is on; with nothing on none comes: for every input, with no condition. -/
import Derived.Test.YtbdoiomnoajnpaaME
import Derived.Test.YtbdoiomnoajnpaaPA
import Derived.Test.YtbdoiomnoajnpaaPB
import Derived.SizedLaws
import Derived.Carry
namespace Go.Proofs.Ytbdoiomnoajnpaa
open Go.RowKit Go.Deep Go.Joins
theorem on_any (h : Hart) (l : Int) (W : World) : Calls Try.prog 6 #[hartV h, .int .u64 l] W fun e W' => e = .returned (.bool true) ∧ Below W.heap.size W W' := by
  rcases pend_or h l with ⟨q, hq, e, t⟩ | ⟨e, t⟩
  · have c8 : RowKit.Hid (∀ W, Calls Try.prog 8 #[hartV h, .int .u64 l] W fun e W' => e = .returned (.int .i64 q) ∧ Below W.heap.size W W') := Lib.hid fun W => e ▸ pend_any h l W
    have ho : (bits .and .u64 (onV h l / 2 ^ q) 1 == 1) = true := (bV_bit (onV h l) (2 ^ q) (u64_on h l) q hq rfl).trans t
    exact on_some h l q hq c8 ho W
  · have c8 : RowKit.Hid (∀ W, Calls Try.prog 8 #[hartV h, .int .u64 l] W fun e W' => e = .returned (.int .i64 (-1)) ∧ Below W.heap.size W W') := Lib.hid fun W => e ▸ pend_any h l W
    rcases Bool.eq_false_or_eq_true (onV h l == 0) with o | o
    · exact on_none h l c8 o W
    · rcases t with t | t
      · rw [t] at o
        cases o
      · exact on_mode h l c8 o (by simp [t]) W
open Go.WideShapes Go.ChangeShapes Go.ChangeAt
set_option maxRecDepth 100000 in
theorem trapOn_lifted (os : Os) (started : os.Started) (H : Type) (enc : TypeId × Value → H) :
    ReturnsInHanded {} Try.checked os 6 .any (Rows.trapOnSpec.pre6 enc Try.prog Try.f6 Rows.trapOnRow.domain false) (Rows.trapOnSpec.post enc Try.prog Try.f6 false true false false) := by
  refine returnsInHanded_of_change_sized (C := Try.checked) (by kernel_rfl) started (by kernel_rfl) Try.func6
    (ChangeSpec.witness6 (enc := enc) (C := Try.checked) false ⟨#[], #[.agg #[.int .u64 0, .int .u64 0, .int .u64 0, .int .u64 0, .int .u64 0, .int .u64 0, .int .u64 0, .int .u64 0, .int .u64 0, .int .u64 0, .int .u64 0, .int .u64 0, .int .u64 0, .int .u64 0, .int .u64 0, .int .u64 0, .int .u64 0, .int .u64 0, .int .u64 0, .int .u64 0, .int .u64 0, .int .u64 0, .int .u64 0, .int .u64 0, .int .u64 0, .int .u64 0, .int .u64 0, .int .u64 0, .int .u64 0, .int .u64 0, .int .u64 0, .int .u64 0, .int .u64 0, .int .i64 0, .int .u64 0, .int .u64 0, .int .u64 0, .int .u64 0, .int .u64 0, .int .u64 0, .int .u64 0, .int .u64 0, .int .u64 0, .int .u64 0, .int .u64 0, .int .u64 0, .int .u64 0, .int .u64 0, .int .u64 0, .int .u64 0, .bool false, .int .u64 0], .int .u64 0], []⟩ 8 (by kernel_rfl) (by kernel_rfl) (by kernel_rfl) (by kernel_rfl)) ?_
  intro W base args ds gs before hval0 hW hcnd hsz _
  have hW' := hW
  obtain ⟨p, q, hA0, hV, rfl, hfz, hnd⟩ := hW
  have hval : ∀ (j : Nat) t v, Try.f6.params[j]? = some t → args[j]? = some v → Value.okWide Try.prog W .any base t v := hval0
  have hA : DataW.TrodAll enc Try.prog W 0 (fun _ => true) true Try.f6.params.toList args.toList ds p := hA0
  rw [Try.params6] at hA hval
  obtain ⟨v0, v1, d0, d1, p0, p1, rfl, rfl, rfl, h0, h1⟩ := trodAll_two hA
  obtain ⟨rfl, rfl⟩ := trodVars_none hV
  have hlt : ∀ x ∈ p0, x.block < W.heap.size := fun x hx => hW'.lt x (by simp [hx])
  obtain ⟨h, rfl, ok⟩ := open_hart (hval 0 27 v0 rfl rfl) h0
  obtain ⟨n1, rfl, rfl, rfl, w1⟩ := open_int Try.underlying22 (hval 1 22 v1 rfl rfl) h1
  simp only [List.append_nil] at hW'
  refine (on_any h n1 W).mono fun e W' ⟨he, hb⟩ => ?_
  subst he
  refine ⟨_, rfl, _, _, _, [], p0 ++ [], [], hW', trodAll_mk1 (shut_bool Try.underlying4 _), trodAll_mk2 (Below.trod laidOut (by kernel_rfl) (of_decide_eq_true (by kernel_rfl)) h0 hb hlt) (shut_int Try.underlying22 w1), rfl, hb.frame _, fun h => by cases h⟩
/-- The given statement. -/
theorem trapOn_proved : Rows.TrapOnSaid :=
  OpenClaim.holds_of_wide 6 Try.f6 rfl rfl rfl rfl rfl rfl rfl ⟨rfl, rfl, rfl, rfl, rfl⟩ rfl rfl rfl rfl rfl (by kernel_rfl) Try.func6 (by kernel_rfl)
    (of_decide_eq_true (by kernel_rfl)) (by unfold Func.isWrapper; first | (rw [if_pos (by decide +kernel)]; kernel_rfl) | (rw [if_neg (by decide +kernel)]; exact ⟨rfl, rfl⟩))
    (fun os started H enc _ => trapOn_lifted os started H enc)

end Go.Proofs.Ytbdoiomnoajnpaa
