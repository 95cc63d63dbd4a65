/- CsrTells, the given statement: every register is read and written, and told right, as the document says, in every mode: for every input, with no condition. -/
import Derived.Test.YthchakfffenoiaaKB
import Derived.Test.YthchakfffenoiaaL
import Derived.Test.YthchakfffenoiaaN
import Derived.SizedLaws
import Derived.Carry
namespace Go.Proofs.Ythchakfffenoiaa
open Go.RowKit Go.Deep Go.Joins
theorem tells_any (c : Reg) (m n v l q : Int) (hc : OkR c) (W : World) : Calls Try.prog 3 #[regV c, .int .i64 m, .int .i64 n, .int .u64 v, .int .u64 l, .int .u64 q] W fun e W' => e = .returned (.bool true) ∧ Below W.heap.size W W' := by
  have h9 := Lib.hid (right_any c)
  have h10 : RowKit.Hid (∀ W, Calls Try.prog 10 #[regV c] W fun e W' => e = .returned (.bool (rightB c)) ∧ Below W.heap.size W W') := Lib.hid fun W => rright_eq c hc ▸ rright_any c W
  rcases row_or n with hr | hr
  · exact tells_walk c c m n v l q 0 _ false false h9 h10 (Lib.hid (hr.read c m l q).1) (Lib.hid (hr.read c m l q).2) (Lib.hid (hr.write c m v).1) (Lib.hid (hr.write c m v).2) W
  · obtain ⟨k, ro, rd, wr, R, G⟩ := hr
    by_cases hk : k ≤ m
    · have a := R.read_yes c m l q hk
      cases ro with
      | false =>
        have b := R.write_yes rfl c m v hk
        exact tells_walk c (wr c v) m n v l q _ _ true true h9 h10 (Lib.hid a.1) (Lib.hid a.2) (Lib.hid b.1) (Lib.hid b.2) W
      | true =>
        have b := R.write_once rfl c m v hk
        exact tells_walk c c m n v l q _ _ true false h9 h10 (Lib.hid a.1) (Lib.hid a.2) (Lib.hid b.1) (Lib.hid b.2) W
    · have a := R.read_no c m l q (by omega)
      have b := R.write_no c m v (by omega)
      exact tells_walk c c m n v l q 0 _ false false h9 h10 (Lib.hid a.1) (Lib.hid a.2) (Lib.hid b.1) (Lib.hid b.2) W
open Go.WideShapes Go.ChangeShapes Go.ChangeAt
set_option maxRecDepth 100000 in
theorem csrTells_lifted (os : Os) (started : os.Started) (H : Type) (enc : TypeId × Value → H) :
    ReturnsInHanded {} Try.checked os 3 .any (Rows.csrTellsSpec.pre6 enc Try.prog Try.f3 Rows.csrTellsRow.domain false) (Rows.csrTellsSpec.post enc Try.prog Try.f3 false true false false) := by
  refine returnsInHanded_of_change_sized (C := Try.checked) (by kernel_rfl) started (by kernel_rfl) Try.func3
    (ChangeSpec.witness6 (enc := enc) (C := Try.checked) false ⟨#[], #[.agg #[.int .u64 0, .int .u64 0, .int .u64 0, .int .u64 0, .int .u64 0, .int .u64 0, .int .u64 0, .int .u64 0, .int .u64 0, .int .u64 0, .int .u64 0, .int .u64 0, .int .u64 0, .int .u64 0, .int .u64 0, .int .u64 0], .int .i64 0, .int .i64 0, .int .u64 0, .int .u64 0, .int .u64 0], []⟩ 8 (by kernel_rfl) (by kernel_rfl) (by kernel_rfl) (by kernel_rfl)) ?_
  intro W base args ds gs before hval0 hW hcnd hsz _
  have hW' := hW
  obtain ⟨p, q, hA0, hV, rfl, hfz, hnd⟩ := hW
  have hval : ∀ (j : Nat) t v, Try.f3.params[j]? = some t → args[j]? = some v → Value.okWide Try.prog W .any base t v := hval0
  have hA : DataW.TrodAll enc Try.prog W 0 (fun _ => true) true Try.f3.params.toList args.toList ds p := hA0
  rw [Try.params3] at hA hval
  obtain ⟨v0, v1, v2, v3, v4, v5, d0, d1, d2, d3, d4, d5, p0, p1, p2, p3, p4, p5, rfl, rfl, rfl, h0, h1, h2, h3, h4, h5⟩ := trodAll_six hA
  obtain ⟨rfl, rfl⟩ := trodVars_none hV
  have hlt : ∀ x ∈ p0, x.block < W.heap.size := fun x hx => hW'.lt x (by simp [hx])
  obtain ⟨c, rfl, hc⟩ := open_reg (hval 0 24 v0 rfl rfl) h0
  obtain ⟨n1, rfl, rfl, rfl, w1⟩ := open_int Try.underlying3 (hval 1 3 v1 rfl rfl) h1
  obtain ⟨n2, rfl, rfl, rfl, w2⟩ := open_int Try.underlying3 (hval 2 3 v2 rfl rfl) h2
  obtain ⟨n3, rfl, rfl, rfl, w3⟩ := open_int Try.underlying22 (hval 3 22 v3 rfl rfl) h3
  have U3 : U64 n3 := by
    obtain ⟨lo, hi⟩ := bounds_u64 w3
    exact ⟨lo, by omega⟩
  obtain ⟨n4, rfl, rfl, rfl, w4⟩ := open_int Try.underlying22 (hval 4 22 v4 rfl rfl) h4
  have U4 : U64 n4 := by
    obtain ⟨lo, hi⟩ := bounds_u64 w4
    exact ⟨lo, by omega⟩
  obtain ⟨n5, rfl, rfl, rfl, w5⟩ := open_int Try.underlying22 (hval 5 22 v5 rfl rfl) h5
  have U5 : U64 n5 := by
    obtain ⟨lo, hi⟩ := bounds_u64 w5
    exact ⟨lo, by omega⟩
  simp only [List.append_nil] at hW'
  refine (tells_any c n1 n2 n3 n4 n5 hc W).mono fun e W' ⟨he, hb⟩ => ?_
  subst he
  refine ⟨_, rfl, _, _, _, [], p0 ++ ([] ++ ([] ++ ([] ++ ([] ++ ([]))))), [], hW', trodAll_mk1 (shut_bool Try.underlying4 _), trodAll_mk6 (Below.trod laidOut (by kernel_rfl) (of_decide_eq_true (by kernel_rfl)) h0 hb hlt) (shut_int Try.underlying3 w1) (shut_int Try.underlying3 w2) (shut_int Try.underlying22 w3) (shut_int Try.underlying22 w4) (shut_int Try.underlying22 w5), rfl, hb.frame _, fun h => by cases h⟩
/-- The given statement. -/
theorem csrTells_proved : Rows.CsrTellsSaid :=
  OpenClaim.holds_of_wide 3 Try.f3 rfl rfl rfl rfl rfl rfl rfl ⟨rfl, rfl, rfl, rfl, rfl⟩ rfl rfl rfl rfl rfl (by kernel_rfl) Try.func3 (by kernel_rfl)
    (of_decide_eq_true (by kernel_rfl)) (by unfold Func.isWrapper; first | (rw [if_pos (by decide +kernel)]; kernel_rfl) | (rw [if_neg (by decide +kernel)]; exact ⟨rfl, rfl⟩))
    (fun os started H enc _ => csrTells_lifted os started H enc)

end Go.Proofs.Ythchakfffenoiaa
