/- CsrRight, the given statement: what is written into right registers leaves right ones, and what may not be written changes nothing: for every input, with no condition. -/
import Derived.Test.YthchakfffenoiaaKC
import Derived.Test.YthchakfffenoiaaL
import Derived.Test.YthchakfffenoiaaN
import Derived.SizedLaws
import Derived.Carry
namespace Go.Proofs.Ythchakfffenoiaa
open Go.RowKit Go.Deep Go.Joins
theorem right_holds (c : Reg) (m n v : Int) (hc : OkR c) (hv : U64 v) (W : World) : Calls Try.prog 4 #[regV c, .int .i64 m, .int .i64 n, .int .u64 v] W fun e W' => e = .returned (.bool true) ∧ Below W.heap.size W W' := by
  rcases row_or n with hr | hr
  · exact right_walk_no c m n v (Lib.hid (hr.write c m v).1) W
  · obtain ⟨k, ro, rd, wr, R, G⟩ := hr
    by_cases hk : k ≤ m
    · cases ro with
      | false =>
        have b := R.write_yes rfl c m v hk
        rcases Bool.eq_false_or_eq_true (rightB c) with h | h
        · have h9 : RowKit.Hid (∀ W, Calls Try.prog 9 #[regV c] W fun e W' => e = .returned (.bool true) ∧ Below W.heap.size W W') := Lib.hid fun W => h ▸ right_any c W
          have hd := G.keeps rfl c v hc hv h
          have d9 : RowKit.Hid (∀ W, Calls Try.prog 9 #[regV (wr c v)] W fun e W' => e = .returned (.bool true) ∧ Below W.heap.size W W') := Lib.hid fun W => hd ▸ right_any (wr c v) W
          exact right_walk_yes c (wr c v) m n v (Lib.hid b.1) h9 d9 W
        · have h9 : RowKit.Hid (∀ W, Calls Try.prog 9 #[regV c] W fun e W' => e = .returned (.bool false) ∧ Below W.heap.size W W') := Lib.hid fun W => h ▸ right_any c W
          exact right_walk_not c (wr c v) m n v (Lib.hid b.1) h9 W
      | true => exact right_walk_no c m n v (Lib.hid (R.write_once rfl c m v hk).1) W
    · exact right_walk_no c m n v (Lib.hid (R.write_no c m v (by omega)).1) W
open Go.WideShapes Go.ChangeShapes Go.ChangeAt
set_option maxRecDepth 100000 in
theorem csrRight_lifted (os : Os) (started : os.Started) (H : Type) (enc : TypeId × Value → H) :
    ReturnsInHanded {} Try.checked os 4 .any (Rows.csrRightSpec.pre6 enc Try.prog Try.f4 Rows.csrRightRow.domain false) (Rows.csrRightSpec.post enc Try.prog Try.f4 false true false false) := by
  refine returnsInHanded_of_change_sized (C := Try.checked) (by kernel_rfl) started (by kernel_rfl) Try.func4
    (ChangeSpec.witness6 (enc := enc) (C := Try.checked) false ⟨#[], #[.agg #[.int .u64 0, .int .u64 0, .int .u64 0, .int .u64 0, .int .u64 0, .int .u64 0, .int .u64 0, .int .u64 0, .int .u64 0, .int .u64 0, .int .u64 0, .int .u64 0, .int .u64 0, .int .u64 0, .int .u64 0, .int .u64 0], .int .i64 0, .int .i64 0, .int .u64 0], []⟩ 8 (by kernel_rfl) (by kernel_rfl) (by kernel_rfl) (by kernel_rfl)) ?_
  intro W base args ds gs before hval0 hW hcnd hsz _
  have hW' := hW
  obtain ⟨p, q, hA0, hV, rfl, hfz, hnd⟩ := hW
  have hval : ∀ (j : Nat) t v, Try.f4.params[j]? = some t → args[j]? = some v → Value.okWide Try.prog W .any base t v := hval0
  have hA : DataW.TrodAll enc Try.prog W 0 (fun _ => true) true Try.f4.params.toList args.toList ds p := hA0
  rw [Try.params4] at hA hval
  obtain ⟨v0, v1, v2, v3, d0, d1, d2, d3, p0, p1, p2, p3, rfl, rfl, rfl, h0, h1, h2, h3⟩ := trodAll_four hA
  obtain ⟨rfl, rfl⟩ := trodVars_none hV
  have hlt : ∀ x ∈ p0, x.block < W.heap.size := fun x hx => hW'.lt x (by simp [hx])
  obtain ⟨c, rfl, hc⟩ := open_reg (hval 0 24 v0 rfl rfl) h0
  obtain ⟨n1, rfl, rfl, rfl, w1⟩ := open_int Try.underlying3 (hval 1 3 v1 rfl rfl) h1
  obtain ⟨n2, rfl, rfl, rfl, w2⟩ := open_int Try.underlying3 (hval 2 3 v2 rfl rfl) h2
  obtain ⟨n3, rfl, rfl, rfl, w3⟩ := open_int Try.underlying22 (hval 3 22 v3 rfl rfl) h3
  have U3 : U64 n3 := by
    obtain ⟨lo, hi⟩ := bounds_u64 w3
    exact ⟨lo, by omega⟩
  simp only [List.append_nil] at hW'
  refine (right_holds c n1 n2 n3 hc U3 W).mono fun e W' ⟨he, hb⟩ => ?_
  subst he
  refine ⟨_, rfl, _, _, _, [], p0 ++ ([] ++ ([] ++ ([]))), [], hW', trodAll_mk1 (shut_bool Try.underlying4 _), trodAll_mk4 (Below.trod laidOut (by kernel_rfl) (of_decide_eq_true (by kernel_rfl)) h0 hb hlt) (shut_int Try.underlying3 w1) (shut_int Try.underlying3 w2) (shut_int Try.underlying22 w3), rfl, hb.frame _, fun h => by cases h⟩
/-- The given statement. -/
theorem csrRight_proved : Rows.CsrRightSaid :=
  OpenClaim.holds_of_wide 4 Try.f4 rfl rfl rfl rfl rfl rfl rfl ⟨rfl, rfl, rfl, rfl, rfl⟩ rfl rfl rfl rfl rfl (by kernel_rfl) Try.func4 (by kernel_rfl)
    (of_decide_eq_true (by kernel_rfl)) (by unfold Func.isWrapper; first | (rw [if_pos (by decide +kernel)]; kernel_rfl) | (rw [if_neg (by decide +kernel)]; exact ⟨rfl, rfl⟩))
    (fun os started H enc _ => csrRight_lifted os started H enc)

end Go.Proofs.Ythchakfffenoiaa
