/- TrapTells, the given statement: traps, interrupts and ways back are as the document says, of every processor: for every input, with no condition. -/
import Derived.Test.YtbdoiomnoajnpaaMD
import Derived.Test.YtbdoiomnoajnpaaPA
import Derived.Test.YtbdoiomnoajnpaaPB
import Derived.SizedLaws
import Derived.Carry
namespace Go.Proofs.Ytbdoiomnoajnpaa
open Go.RowKit Go.Deep Go.Joins
theorem tells_any (h : Hart) (c v l : Int) (it : Bool) (ok : OkH h) (W : World) : Calls Try.prog 3 #[hartV h, .int .i64 c, .bool it, .int .u64 v, .int .u64 l] W fun e W' => e = .returned (.bool true) ∧ Below W.heap.size W W' := by
  have p8 := Lib.hid fun W => pend_any h l W
  have p9 : RowKit.Hid (∀ W, Calls Try.prog 9 #[hartV h, .int .u64 l] W fun e W' => e = .returned (.int .i64 (pendV h l)) ∧ Below W.heap.size W W') := Lib.hid fun W => pend_same h l ok ▸ rpend_any h l W
  have hT : ∃ t, (∀ W, Calls Try.prog 10 #[hartV h, .int .i64 c, .bool it, .int .u64 v] W fun e W' => e = .returned (hartV t) ∧ Below W.heap.size W W') ∧ (∀ W, Calls Try.prog 11 #[hartV h, .int .i64 c, .bool it, .int .u64 v] W fun e W' => e = .returned (hartV t) ∧ Below W.heap.size W W') := by
    by_cases hc : c < 0 ∨ 63 < c
    · exact ⟨h, fun W => take_out h c it v hc W, fun W => rtake_out h c it v hc W⟩
    · obtain ⟨k, rfl⟩ := Int.eq_ofNat_of_zero_le (show 0 ≤ c by omega)
      have hk : k ≤ 63 := by omega
      exact ⟨takeF h k it v, fun W => take_any h k it v hk W, fun W => take_same h k it v hk ok ▸ rtake_any h k it v hk W⟩
  obtain ⟨t, p10, p11⟩ := hT
  have hM : ∃ a r, (∀ W, Calls Try.prog 12 #[hartV h] W fun e W' => e = .returned (.tuple #[hartV a, .bool r]) ∧ Below W.heap.size W W') ∧ (∀ W, Calls Try.prog 13 #[hartV h] W fun e W' => e = .returned (.tuple #[hartV a, .bool r]) ∧ Below W.heap.size W W') := by
    by_cases hm : h.mode = 3
    · exact ⟨mretF h, true, fun W => mret_any h hm W, fun W => mretF_same h ok ▸ rmret_any h hm W⟩
    · have e : (h.mode != 3) = true := by simp [hm]
      exact ⟨h, false, fun W => mret_no h e W, fun W => rmret_no h e W⟩
  obtain ⟨a, r, p12, p13⟩ := hM
  have hS : ∃ b s, (∀ W, Calls Try.prog 14 #[hartV h] W fun e W' => e = .returned (.tuple #[hartV b, .bool s]) ∧ Below W.heap.size W W') ∧ (∀ W, Calls Try.prog 15 #[hartV h] W fun e W' => e = .returned (.tuple #[hartV b, .bool s]) ∧ Below W.heap.size W W') := by
    by_cases hm : h.mode < 1
    · exact ⟨h, false, fun W => sret_no h hm W, fun W => rsret_no h hm W⟩
    · exact ⟨sretF h, true, fun W => sret_any h hm W, fun W => sretF_same h ok ▸ rsret_any h hm W⟩
  obtain ⟨b, s, p14, p15⟩ := hS
  exact tells_walk h t a b c v l _ it r s p8 p9 (Lib.hid p10) (Lib.hid p11) (Lib.hid p12) (Lib.hid p13) (Lib.hid p14) (Lib.hid p15) W
open Go.WideShapes Go.ChangeShapes Go.ChangeAt
set_option maxRecDepth 100000 in
theorem trapTells_lifted (os : Os) (started : os.Started) (H : Type) (enc : TypeId × Value → H) :
    ReturnsInHanded {} Try.checked os 3 .any (Rows.trapTellsSpec.pre6 enc Try.prog Try.f3 Rows.trapTellsRow.domain false) (Rows.trapTellsSpec.post enc Try.prog Try.f3 false true false false) := by
  refine returnsInHanded_of_change_sized (C := Try.checked) (by kernel_rfl) started (by kernel_rfl) Try.func3
    (ChangeSpec.witness6 (enc := enc) (C := Try.checked) false ⟨#[], #[.agg #[.int .u64 0, .int .u64 0, .int .u64 0, .int .u64 0, .int .u64 0, .int .u64 0, .int .u64 0, .int .u64 0, .int .u64 0, .int .u64 0, .int .u64 0, .int .u64 0, .int .u64 0, .int .u64 0, .int .u64 0, .int .u64 0, .int .u64 0, .int .u64 0, .int .u64 0, .int .u64 0, .int .u64 0, .int .u64 0, .int .u64 0, .int .u64 0, .int .u64 0, .int .u64 0, .int .u64 0, .int .u64 0, .int .u64 0, .int .u64 0, .int .u64 0, .int .u64 0, .int .u64 0, .int .i64 0, .int .u64 0, .int .u64 0, .int .u64 0, .int .u64 0, .int .u64 0, .int .u64 0, .int .u64 0, .int .u64 0, .int .u64 0, .int .u64 0, .int .u64 0, .int .u64 0, .int .u64 0, .int .u64 0, .int .u64 0, .int .u64 0, .bool false, .int .u64 0], .int .i64 0, .bool false, .int .u64 0, .int .u64 0], []⟩ 8 (by kernel_rfl) (by kernel_rfl) (by kernel_rfl) (by kernel_rfl)) ?_
  intro W base args ds gs before hval0 hW hcnd hsz _
  have hW' := hW
  obtain ⟨p, q, hA0, hV, rfl, hfz, hnd⟩ := hW
  have hval : ∀ (j : Nat) t v, Try.f3.params[j]? = some t → args[j]? = some v → Value.okWide Try.prog W .any base t v := hval0
  have hA : DataW.TrodAll enc Try.prog W 0 (fun _ => true) true Try.f3.params.toList args.toList ds p := hA0
  rw [Try.params3] at hA hval
  obtain ⟨v0, v1, v2, v3, v4, d0, d1, d2, d3, d4, p0, p1, p2, p3, p4, rfl, rfl, rfl, h0, h1, h2, h3, h4⟩ := trodAll_five hA
  obtain ⟨rfl, rfl⟩ := trodVars_none hV
  have hlt : ∀ x ∈ p0, x.block < W.heap.size := fun x hx => hW'.lt x (by simp [hx])
  obtain ⟨h, rfl, ok⟩ := open_hart (hval 0 27 v0 rfl rfl) h0
  obtain ⟨n1, rfl, rfl, rfl, w1⟩ := open_int Try.underlying3 (hval 1 3 v1 rfl rfl) h1
  obtain ⟨b2, rfl, rfl, rfl⟩ := open_bool Try.underlying4 (hval 2 4 v2 rfl rfl) h2
  obtain ⟨n3, rfl, rfl, rfl, w3⟩ := open_int Try.underlying22 (hval 3 22 v3 rfl rfl) h3
  obtain ⟨n4, rfl, rfl, rfl, w4⟩ := open_int Try.underlying22 (hval 4 22 v4 rfl rfl) h4
  simp only [List.append_nil] at hW'
  refine (tells_any h n1 n3 n4 b2 ok W).mono fun e W' ⟨he, hb⟩ => ?_
  subst he
  refine ⟨_, rfl, _, _, _, [], p0 ++ ([] ++ ([] ++ ([] ++ ([])))), [], hW', trodAll_mk1 (shut_bool Try.underlying4 _), trodAll_mk5 (Below.trod laidOut (by kernel_rfl) (of_decide_eq_true (by kernel_rfl)) h0 hb hlt) (shut_int Try.underlying3 w1) (shut_bool Try.underlying4 _) (shut_int Try.underlying22 w3) (shut_int Try.underlying22 w4), rfl, hb.frame _, fun h => by cases h⟩
/-- The given statement. -/
theorem trapTells_proved : Rows.TrapTellsSaid :=
  OpenClaim.holds_of_wide 3 Try.f3 rfl rfl rfl rfl rfl rfl rfl ⟨rfl, rfl, rfl, rfl, rfl⟩ rfl rfl rfl rfl rfl (by kernel_rfl) Try.func3 (by kernel_rfl)
    (of_decide_eq_true (by kernel_rfl)) (by unfold Func.isWrapper; first | (rw [if_pos (by decide +kernel)]; kernel_rfl) | (rw [if_neg (by decide +kernel)]; exact ⟨rfl, rfl⟩))
    (fun os started H enc _ => trapTells_lifted os started H enc)

end Go.Proofs.Ytbdoiomnoajnpaa
