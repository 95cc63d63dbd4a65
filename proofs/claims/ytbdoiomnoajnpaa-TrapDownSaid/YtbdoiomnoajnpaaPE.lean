/- TrapDown, the given statement: a trap goes to the middle mode just if it is handed down and does not come from the upper one: for every input, with no condition. -/
import Derived.Test.YtbdoiomnoajnpaaMF
import Derived.Test.YtbdoiomnoajnpaaPA
import Derived.Test.YtbdoiomnoajnpaaPB
import Derived.SizedLaws
import Derived.Carry
namespace Go.Proofs.Ytbdoiomnoajnpaa
open Go.RowKit Go.Deep Go.Joins
theorem told_sign (k : Nat) (it : Bool) (hk : k ≤ 63) : toldV k it / 9223372036854775808 = if it = true then 1 else 0 := by
  have hu := u64_told k it hk
  have b := bit_of _ hu 63 (by omega)
  rw [told_top k it hk] at b
  have lo := hu.1
  have hi := hu.2
  cases it
  · rw [if_neg (by decide)]
    have c := of_decide_eq_false b.symm
    omega
  · rw [if_pos rfl]
    have c := of_decide_eq_true b.symm
    omega
theorem down_any (h : Hart) (c v : Int) (it : Bool) (ok : OkH h) (W : World) : Calls Try.prog 5 #[hartV h, .int .i64 c, .bool it, .int .u64 v] W fun e W' => e = .returned (.bool true) ∧ Below W.heap.size W W' := by
  rcases Bool.eq_false_or_eq_true (rightH h) with hr | hr
  rotate_left
  · exact down_not h c v it (Lib.hid fun W => hr ▸ right_any h W) W
  have c16 : RowKit.Hid (∀ W, Calls Try.prog 16 #[hartV h] W fun e W' => e = .returned (.bool true) ∧ Below W.heap.size W W') := Lib.hid fun W => hr ▸ right_any h W
  by_cases hc : c < 0 ∨ 63 < c
  · exact down_out h c v it c16 hc W
  obtain ⟨k, rfl⟩ := Int.eq_ofNat_of_zero_le (show 0 ≤ c by omega)
  have hk : k ≤ 63 := by omega
  have pc := back_pc h ok hr
  have sg := told_sign k it hk
  have hand := hand_same h k it hk ok
  have c10 := Lib.hid fun W => take_any h k it v hk W
  by_cases hm : h.mode ≤ 1
  · rcases Bool.eq_false_or_eq_true (bV (if it = true then h.c.s2 else h.c.s1) (2 ^ k)) with hl | hl
    · have hb : handV h k it = true := by rw [hand]; unfold rhandV; rw [hl]; simp [hm]
      have et : takeF h k it v = tMid h k it v := if_pos hb
      cases it
      · exact down_yes_false h (tMid h k false v) k v hk c16 (et ▸ c10) hm hl rfl pc rfl rfl sg W
      · exact down_yes_true h (tMid h k true v) k v hk c16 (et ▸ c10) hm hl rfl pc rfl rfl sg W
    · have hb : handV h k it = false := by rw [hand]; unfold rhandV; rw [hl]; simp
      have et : takeF h k it v = tUp h k it v := if_neg (by rw [hb]; decide)
      cases it
      · exact down_no2_false h (tUp h k false v) k v hk c16 (et ▸ c10) hm hl rfl pc rfl rfl sg W
      · exact down_no2_true h (tUp h k true v) k v hk c16 (et ▸ c10) hm hl rfl pc rfl rfl sg W
  · have hb : handV h k it = false := by rw [hand]; unfold rhandV; simp [hm]
    have et : takeF h k it v = tUp h k it v := if_neg (by rw [hb]; decide)
    cases it
    · exact down_no1_false h (tUp h k false v) k v hk c16 (et ▸ c10) hm rfl pc rfl rfl sg W
    · exact down_no1_true h (tUp h k true v) k v hk c16 (et ▸ c10) hm rfl pc rfl rfl sg W
open Go.WideShapes Go.ChangeShapes Go.ChangeAt
set_option maxRecDepth 100000 in
theorem trapDown_lifted (os : Os) (started : os.Started) (H : Type) (enc : TypeId × Value → H) :
    ReturnsInHanded {} Try.checked os 5 .any (Rows.trapDownSpec.pre6 enc Try.prog Try.f5 Rows.trapDownRow.domain false) (Rows.trapDownSpec.post enc Try.prog Try.f5 false true false false) := by
  refine returnsInHanded_of_change_sized (C := Try.checked) (by kernel_rfl) started (by kernel_rfl) Try.func5
    (ChangeSpec.witness6 (enc := enc) (C := Try.checked) false ⟨#[], #[.agg #[.int .u64 0, .int .u64 0, .int .u64 0, .int .u64 0, .int .u64 0, .int .u64 0, .int .u64 0, .int .u64 0, .int .u64 0, .int .u64 0, .int .u64 0, .int .u64 0, .int .u64 0, .int .u64 0, .int .u64 0, .int .u64 0, .int .u64 0, .int .u64 0, .int .u64 0, .int .u64 0, .int .u64 0, .int .u64 0, .int .u64 0, .int .u64 0, .int .u64 0, .int .u64 0, .int .u64 0, .int .u64 0, .int .u64 0, .int .u64 0, .int .u64 0, .int .u64 0, .int .u64 0, .int .i64 0, .int .u64 0, .int .u64 0, .int .u64 0, .int .u64 0, .int .u64 0, .int .u64 0, .int .u64 0, .int .u64 0, .int .u64 0, .int .u64 0, .int .u64 0, .int .u64 0, .int .u64 0, .int .u64 0, .int .u64 0, .int .u64 0, .bool false, .int .u64 0], .int .i64 0, .bool false, .int .u64 0], []⟩ 8 (by kernel_rfl) (by kernel_rfl) (by kernel_rfl) (by kernel_rfl)) ?_
  intro W base args ds gs before hval0 hW hcnd hsz _
  have hW' := hW
  obtain ⟨p, q, hA0, hV, rfl, hfz, hnd⟩ := hW
  have hval : ∀ (j : Nat) t v, Try.f5.params[j]? = some t → args[j]? = some v → Value.okWide Try.prog W .any base t v := hval0
  have hA : DataW.TrodAll enc Try.prog W 0 (fun _ => true) true Try.f5.params.toList args.toList ds p := hA0
  rw [Try.params5] at hA hval
  obtain ⟨v0, v1, v2, v3, d0, d1, d2, d3, p0, p1, p2, p3, rfl, rfl, rfl, h0, h1, h2, h3⟩ := trodAll_four hA
  obtain ⟨rfl, rfl⟩ := trodVars_none hV
  have hlt : ∀ x ∈ p0, x.block < W.heap.size := fun x hx => hW'.lt x (by simp [hx])
  obtain ⟨h, rfl, ok⟩ := open_hart (hval 0 27 v0 rfl rfl) h0
  obtain ⟨n1, rfl, rfl, rfl, w1⟩ := open_int Try.underlying3 (hval 1 3 v1 rfl rfl) h1
  obtain ⟨b2, rfl, rfl, rfl⟩ := open_bool Try.underlying4 (hval 2 4 v2 rfl rfl) h2
  obtain ⟨n3, rfl, rfl, rfl, w3⟩ := open_int Try.underlying22 (hval 3 22 v3 rfl rfl) h3
  simp only [List.append_nil] at hW'
  refine (down_any h n1 n3 b2 ok W).mono fun e W' ⟨he, hb⟩ => ?_
  subst he
  refine ⟨_, rfl, _, _, _, [], p0 ++ ([] ++ ([] ++ ([]))), [], hW', trodAll_mk1 (shut_bool Try.underlying4 _), trodAll_mk4 (Below.trod laidOut (by kernel_rfl) (of_decide_eq_true (by kernel_rfl)) h0 hb hlt) (shut_int Try.underlying3 w1) (shut_bool Try.underlying4 _) (shut_int Try.underlying22 w3), rfl, hb.frame _, fun h => by cases h⟩
/-- The given statement. -/
theorem trapDown_proved : Rows.TrapDownSaid :=
  OpenClaim.holds_of_wide 5 Try.f5 rfl rfl rfl rfl rfl rfl rfl ⟨rfl, rfl, rfl, rfl, rfl⟩ rfl rfl rfl rfl rfl (by kernel_rfl) Try.func5 (by kernel_rfl)
    (of_decide_eq_true (by kernel_rfl)) (by unfold Func.isWrapper; first | (rw [if_pos (by decide +kernel)]; kernel_rfl) | (rw [if_neg (by decide +kernel)]; exact ⟨rfl, rfl⟩))
    (fun os started H enc _ => trapDown_lifted os started H enc)

end Go.Proofs.Ytbdoiomnoajnpaa
