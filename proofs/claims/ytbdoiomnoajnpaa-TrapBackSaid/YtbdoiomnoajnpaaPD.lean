/- TrapBack, the given statement: a trap and the way back leave mode, place, interrupt bit and registers as they were: for every input, with no condition. -/
import Derived.Test.YtbdoiomnoajnpaaMG
import Derived.Test.YtbdoiomnoajnpaaPA
import Derived.Test.YtbdoiomnoajnpaaPB
import Derived.SizedLaws
import Derived.Carry
namespace Go.Proofs.Ytbdoiomnoajnpaa
open Go.RowKit Go.Deep Go.Joins
theorem back_any (h : Hart) (c v : Int) (it : Bool) (ok : OkH h) (W : World) : Calls Try.prog 4 #[hartV h, .int .i64 c, .bool it, .int .u64 v] W fun e W' => e = .returned (.bool true) ∧ Below W.heap.size W W' := by
  rcases Bool.eq_false_or_eq_true (rightH h) with hr | hr
  rotate_left
  · exact back_not h c v it (Lib.hid fun W => hr ▸ right_any h W) W
  have c16 : RowKit.Hid (∀ W, Calls Try.prog 16 #[hartV h] W fun e W' => e = .returned (.bool true) ∧ Below W.heap.size W W') := Lib.hid fun W => hr ▸ right_any h W
  by_cases hc : c < 0 ∨ 63 < c
  · exact back_out h c v it c16 hc W
  obtain ⟨k, rfl⟩ := Int.eq_ofNat_of_zero_le (show 0 ≤ c by omega)
  have hk : k ≤ 63 := by omega
  rcases Bool.eq_false_or_eq_true (handV h k it) with hb | hb
  · have hm : h.mode ≤ 1 := by
      unfold handV at hb
      simp only [Bool.and_eq_true, decide_eq_true_eq] at hb
      exact hb.1
    have et : takeF h k it v = tMid h k it v := if_pos hb
    have ct := mid_right h k it v ok hr
    have cb := mid_back_right h k it v ok hr hm
    exact back_sret h (tMid h k it v) (sretF (tMid h k it v)) k v _ it (by omega) (by omega) c16 (Lib.hid fun W => et ▸ take_any h k it v hk W) (Lib.hid fun W => ct ▸ right_any _ W) (Lib.hid fun W => cb ▸ right_any _ W) (Lib.hid fun W => sret_any _ (show ¬ (1 : Int) < 1 by decide) W) (Lib.hid rfl) (Lib.hid rfl) (Lib.hid rfl) (Lib.hid (mid_back_mode h k it v hr hm)) (Lib.hid (back_pc h ok hr)) (mid_back_bit h k it v ok) rfl W
  · have et : takeF h k it v = tUp h k it v := if_neg (by rw [hb]; decide)
    have ct := up_right h k it v ok hr
    have cb := up_back_right h k it v ok hr
    exact back_mret h (tUp h k it v) (mretF (tUp h k it v)) k v _ it (by omega) (by omega) c16 (Lib.hid fun W => et ▸ take_any h k it v hk W) (Lib.hid fun W => ct ▸ right_any _ W) (Lib.hid fun W => cb ▸ right_any _ W) (Lib.hid fun W => mret_any _ rfl W) (Lib.hid rfl) (Lib.hid rfl) (Lib.hid rfl) (Lib.hid (up_back_mode h k it v hr)) (Lib.hid (back_pc h ok hr)) (up_back_bit h k it v ok) rfl W
open Go.WideShapes Go.ChangeShapes Go.ChangeAt
set_option maxRecDepth 100000 in
theorem trapBack_lifted (os : Os) (started : os.Started) (H : Type) (enc : TypeId × Value → H) :
    ReturnsInHanded {} Try.checked os 4 .any (Rows.trapBackSpec.pre6 enc Try.prog Try.f4 Rows.trapBackRow.domain false) (Rows.trapBackSpec.post enc Try.prog Try.f4 false true false false) := by
  refine returnsInHanded_of_change_sized (C := Try.checked) (by kernel_rfl) started (by kernel_rfl) Try.func4
    (ChangeSpec.witness6 (enc := enc) (C := Try.checked) false ⟨#[], #[.agg #[.int .u64 0, .int .u64 0, .int .u64 0, .int .u64 0, .int .u64 0, .int .u64 0, .int .u64 0, .int .u64 0, .int .u64 0, .int .u64 0, .int .u64 0, .int .u64 0, .int .u64 0, .int .u64 0, .int .u64 0, .int .u64 0, .int .u64 0, .int .u64 0, .int .u64 0, .int .u64 0, .int .u64 0, .int .u64 0, .int .u64 0, .int .u64 0, .int .u64 0, .int .u64 0, .int .u64 0, .int .u64 0, .int .u64 0, .int .u64 0, .int .u64 0, .int .u64 0, .int .u64 0, .int .i64 0, .int .u64 0, .int .u64 0, .int .u64 0, .int .u64 0, .int .u64 0, .int .u64 0, .int .u64 0, .int .u64 0, .int .u64 0, .int .u64 0, .int .u64 0, .int .u64 0, .int .u64 0, .int .u64 0, .int .u64 0, .int .u64 0, .bool false, .int .u64 0], .int .i64 0, .bool false, .int .u64 0], []⟩ 8 (by kernel_rfl) (by kernel_rfl) (by kernel_rfl) (by kernel_rfl)) ?_
  intro W base args ds gs before hval0 hW hcnd hsz _
  have hW' := hW
  obtain ⟨p, q, hA0, hV, rfl, hfz, hnd⟩ := hW
  have hval : ∀ (j : Nat) t v, Try.f4.params[j]? = some t → args[j]? = some v → Value.okWide Try.prog W .any base t v := hval0
  have hA : DataW.TrodAll enc Try.prog W 0 (fun _ => true) true Try.f4.params.toList args.toList ds p := hA0
  rw [Try.params4] at hA hval
  obtain ⟨v0, v1, v2, v3, d0, d1, d2, d3, p0, p1, p2, p3, rfl, rfl, rfl, h0, h1, h2, h3⟩ := trodAll_four hA
  obtain ⟨rfl, rfl⟩ := trodVars_none hV
  have hlt : ∀ x ∈ p0, x.block < W.heap.size := fun x hx => hW'.lt x (by simp [hx])
  obtain ⟨h, rfl, ok⟩ := open_hart (hval 0 27 v0 rfl rfl) h0
  obtain ⟨n1, rfl, rfl, rfl, w1⟩ := open_int Try.underlying3 (hval 1 3 v1 rfl rfl) h1
  obtain ⟨b2, rfl, rfl, rfl⟩ := open_bool Try.underlying4 (hval 2 4 v2 rfl rfl) h2
  obtain ⟨n3, rfl, rfl, rfl, w3⟩ := open_int Try.underlying22 (hval 3 22 v3 rfl rfl) h3
  simp only [List.append_nil] at hW'
  refine (back_any h n1 n3 b2 ok W).mono fun e W' ⟨he, hb⟩ => ?_
  subst he
  refine ⟨_, rfl, _, _, _, [], p0 ++ ([] ++ ([] ++ ([]))), [], hW', trodAll_mk1 (shut_bool Try.underlying4 _), trodAll_mk4 (Below.trod laidOut (by kernel_rfl) (of_decide_eq_true (by kernel_rfl)) h0 hb hlt) (shut_int Try.underlying3 w1) (shut_bool Try.underlying4 _) (shut_int Try.underlying22 w3), rfl, hb.frame _, fun h => by cases h⟩
/-- The given statement. -/
theorem trapBack_proved : Rows.TrapBackSaid :=
  OpenClaim.holds_of_wide 4 Try.f4 rfl rfl rfl rfl rfl rfl rfl ⟨rfl, rfl, rfl, rfl, rfl⟩ rfl rfl rfl rfl rfl (by kernel_rfl) Try.func4 (by kernel_rfl)
    (of_decide_eq_true (by kernel_rfl)) (by unfold Func.isWrapper; first | (rw [if_pos (by decide +kernel)]; kernel_rfl) | (rw [if_neg (by decide +kernel)]; exact ⟨rfl, rfl⟩))
    (fun os started H enc _ => trapBack_lifted os started H enc)

end Go.Proofs.Ytbdoiomnoajnpaa
