/- CsrModes, the given statement: what may be read in a mode may be read in every higher one, and tells the same: for every input, with no condition. -/
import Derived.Test.YthchakfffenoiaaKE
import Derived.Test.YthchakfffenoiaaL
import Derived.Test.YthchakfffenoiaaN
import Derived.SizedLaws
import Derived.Carry
namespace Go.Proofs.Ythchakfffenoiaa
open Go.RowKit Go.Deep Go.Joins
theorem modes_any (c : Reg) (n l q : Int) (W : World) : Calls Try.prog 7 #[regV c, .int .i64 n, .int .u64 l, .int .u64 q] W fun e W' => e = .returned (.bool true) ∧ Below W.heap.size W W' := by
  rcases row_or n with hr | hr
  · exact modes_walk_fff c n l q (Lib.hid (hr.read c 0 l q).1) (Lib.hid (hr.read c 1 l q).1) (Lib.hid (hr.read c 3 l q).1) W
  · obtain ⟨k, ro, rd, wr, R, G⟩ := hr
    by_cases h0 : k ≤ 0
    · exact modes_walk_ttt c n l q _ (Lib.hid (R.read_yes c 0 l q h0).1) (Lib.hid (R.read_yes c 1 l q (by omega)).1) (Lib.hid (R.read_yes c 3 l q (by omega)).1) W
    · by_cases h1 : k ≤ 1
      · exact modes_walk_ftt c n l q _ (Lib.hid (R.read_no c 0 l q (by omega)).1) (Lib.hid (R.read_yes c 1 l q h1).1) (Lib.hid (R.read_yes c 3 l q (by omega)).1) W
      · by_cases h3 : k ≤ 3
        · exact modes_walk_fft c n l q _ (Lib.hid (R.read_no c 0 l q (by omega)).1) (Lib.hid (R.read_no c 1 l q (by omega)).1) (Lib.hid (R.read_yes c 3 l q h3).1) W
        · exact modes_walk_fff c n l q (Lib.hid (R.read_no c 0 l q (by omega)).1) (Lib.hid (R.read_no c 1 l q (by omega)).1) (Lib.hid (R.read_no c 3 l q (by omega)).1) W
open Go.WideShapes Go.ChangeShapes Go.ChangeAt
set_option maxRecDepth 100000 in
theorem csrModes_lifted (os : Os) (started : os.Started) (H : Type) (enc : TypeId × Value → H) :
    ReturnsInHanded {} Try.checked os 7 .any (Rows.csrModesSpec.pre6 enc Try.prog Try.f7 Rows.csrModesRow.domain false) (Rows.csrModesSpec.post enc Try.prog Try.f7 false true false false) := by
  refine returnsInHanded_of_change_sized (C := Try.checked) (by kernel_rfl) started (by kernel_rfl) Try.func7
    (ChangeSpec.witness6 (enc := enc) (C := Try.checked) false ⟨#[], #[.agg #[.int .u64 0, .int .u64 0, .int .u64 0, .int .u64 0, .int .u64 0, .int .u64 0, .int .u64 0, .int .u64 0, .int .u64 0, .int .u64 0, .int .u64 0, .int .u64 0, .int .u64 0, .int .u64 0, .int .u64 0, .int .u64 0], .int .i64 0, .int .u64 0, .int .u64 0], []⟩ 8 (by kernel_rfl) (by kernel_rfl) (by kernel_rfl) (by kernel_rfl)) ?_
  intro W base args ds gs before hval0 hW hcnd hsz _
  have hW' := hW
  obtain ⟨p, q, hA0, hV, rfl, hfz, hnd⟩ := hW
  have hval : ∀ (j : Nat) t v, Try.f7.params[j]? = some t → args[j]? = some v → Value.okWide Try.prog W .any base t v := hval0
  have hA : DataW.TrodAll enc Try.prog W 0 (fun _ => true) true Try.f7.params.toList args.toList ds p := hA0
  rw [Try.params7] at hA hval
  obtain ⟨v0, v1, v2, v3, d0, d1, d2, d3, p0, p1, p2, p3, rfl, rfl, rfl, h0, h1, h2, h3⟩ := trodAll_four hA
  obtain ⟨rfl, rfl⟩ := trodVars_none hV
  have hlt : ∀ x ∈ p0, x.block < W.heap.size := fun x hx => hW'.lt x (by simp [hx])
  obtain ⟨c, rfl, hc⟩ := open_reg (hval 0 24 v0 rfl rfl) h0
  obtain ⟨n1, rfl, rfl, rfl, w1⟩ := open_int Try.underlying3 (hval 1 3 v1 rfl rfl) h1
  obtain ⟨n2, rfl, rfl, rfl, w2⟩ := open_int Try.underlying22 (hval 2 22 v2 rfl rfl) h2
  have U2 : U64 n2 := by
    obtain ⟨lo, hi⟩ := bounds_u64 w2
    exact ⟨lo, by omega⟩
  obtain ⟨n3, rfl, rfl, rfl, w3⟩ := open_int Try.underlying22 (hval 3 22 v3 rfl rfl) h3
  have U3 : U64 n3 := by
    obtain ⟨lo, hi⟩ := bounds_u64 w3
    exact ⟨lo, by omega⟩
  simp only [List.append_nil] at hW'
  refine (modes_any c n1 n2 n3 W).mono fun e W' ⟨he, hb⟩ => ?_
  subst he
  refine ⟨_, rfl, _, _, _, [], p0 ++ ([] ++ ([] ++ ([]))), [], hW', trodAll_mk1 (shut_bool Try.underlying4 _), trodAll_mk4 (Below.trod laidOut (by kernel_rfl) (of_decide_eq_true (by kernel_rfl)) h0 hb hlt) (shut_int Try.underlying3 w1) (shut_int Try.underlying22 w2) (shut_int Try.underlying22 w3), rfl, hb.frame _, fun h => by cases h⟩
/-- The given statement. -/
theorem csrModes_proved : Rows.CsrModesSaid :=
  OpenClaim.holds_of_wide 7 Try.f7 rfl rfl rfl rfl rfl rfl rfl ⟨rfl, rfl, rfl, rfl, rfl⟩ rfl rfl rfl rfl rfl (by kernel_rfl) Try.func7 (by kernel_rfl)
    (of_decide_eq_true (by kernel_rfl)) (by unfold Func.isWrapper; first | (rw [if_pos (by decide +kernel)]; kernel_rfl) | (rw [if_neg (by decide +kernel)]; exact ⟨rfl, rfl⟩))
    (fun os started H enc _ => csrModes_lifted os started H enc)

end Go.Proofs.Ythchakfffenoiaa
