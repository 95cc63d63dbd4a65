/- CsrParts, the given statement: a write of the middle mode's part changes nothing of the upper one that reading the part does not tell: for every input, with no condition. -/
import Derived.Test.YthchakfffenoiaaKF
import Derived.Test.YthchakfffenoiaaL
import Derived.Test.YthchakfffenoiaaN
import Derived.SizedLaws
import Derived.Carry
namespace Go.Proofs.Ythchakfffenoiaa
open Go.RowKit Go.Deep Go.Joins
theorem parts_of_row (c : Reg) (v : Int) (hc : OkR c) : ∀ j : Nat, j < 3 → ∃ (d : Reg) (x y : Int), Writes c 1 (numAt j) v d true ∧ Reads c 1 (numAt j) 0 0 x true ∧ Reads d 1 (numAt j) 0 0 y true ∧ Differ c d x y := by
  intro j hj
  match j, hj with
  | 0, _ =>
    refine ⟨_, (bits .and .u64 c.s0 786722), (bits .and .u64 (mxV c.s0 v 786722) 786722), (row_100.write_yes rfl c 1 v (by decide)).1, (row_100.read_yes c 1 0 0 (by decide)).1, (row_100.read_yes _ 1 0 0 (by decide)).1, ?_⟩
    have hp := part_100 c.s0 v 786722 hc.u0
    by_cases h : c.s0 = (mxV c.s0 v 786722)
    · exact .inl ⟨by rw [← h], hp.2 h⟩
    · exact .inr ⟨beq_eq_false_iff_ne.2 fun k => h (hp.1 k), .inl ⟨_, rfl, beq_eq_false_iff_ne.2 fun k => h k.symm⟩⟩
  | 1, _ =>
    refine ⟨_, (bits .and .u64 c.s3 c.s2), (bits .and .u64 (mxV c.s3 v c.s2) c.s2), (row_104.write_yes rfl c 1 v (by decide)).1, (row_104.read_yes c 1 0 0 (by decide)).1, (row_104.read_yes _ 1 0 0 (by decide)).1, ?_⟩
    have hp := part_100 c.s3 v c.s2 hc.u3
    by_cases h : c.s3 = (mxV c.s3 v c.s2)
    · exact .inl ⟨by rw [← h], hp.2 h⟩
    · exact .inr ⟨beq_eq_false_iff_ne.2 fun k => h (hp.1 k), .inr (.inl ⟨_, rfl, beq_eq_false_iff_ne.2 fun k => h k.symm⟩)⟩
  | 2, _ =>
    refine ⟨_, (bits .and .u64 (rsV c.s4 0) c.s2), (bits .and .u64 (rsV (mxV c.s4 v (bits .and .u64 c.s2 2)) 0) c.s2), (row_144.write_yes rfl c 1 v (by decide)).1, (row_144.read_yes c 1 0 0 (by decide)).1, (row_144.read_yes _ 1 0 0 (by decide)).1, ?_⟩
    have hp := part_144 c.s4 v c.s2 hc.u4
    by_cases h : c.s4 = (mxV c.s4 v (bits .and .u64 c.s2 2))
    · exact .inl ⟨by rw [← h], hp.2 h⟩
    · exact .inr ⟨beq_eq_false_iff_ne.2 fun k => h (hp.1 k), .inr (.inr ⟨_, rfl, beq_eq_false_iff_ne.2 fun k => h k.symm⟩)⟩
theorem parts_any (c : Reg) (v : Int) (hc : OkR c) (W : World) : Calls Try.prog 6 #[regV c, .int .u64 v] W fun e W' => e = .returned (.bool true) ∧ Below W.heap.size W W' :=
  parts_walk c v (Lib.hid (parts_of_row c v hc)) W
open Go.WideShapes Go.ChangeShapes Go.ChangeAt
set_option maxRecDepth 100000 in
theorem csrParts_lifted (os : Os) (started : os.Started) (H : Type) (enc : TypeId × Value → H) :
    ReturnsInHanded {} Try.checked os 6 .any (Rows.csrPartsSpec.pre6 enc Try.prog Try.f6 Rows.csrPartsRow.domain false) (Rows.csrPartsSpec.post enc Try.prog Try.f6 false true false false) := by
  refine returnsInHanded_of_change_sized (C := Try.checked) (by kernel_rfl) started (by kernel_rfl) Try.func6
    (ChangeSpec.witness6 (enc := enc) (C := Try.checked) false ⟨#[], #[.agg #[.int .u64 0, .int .u64 0, .int .u64 0, .int .u64 0, .int .u64 0, .int .u64 0, .int .u64 0, .int .u64 0, .int .u64 0, .int .u64 0, .int .u64 0, .int .u64 0, .int .u64 0, .int .u64 0, .int .u64 0, .int .u64 0], .int .u64 0], []⟩ 8 (by kernel_rfl) (by kernel_rfl) (by kernel_rfl) (by kernel_rfl)) ?_
  intro W base args ds gs before hval0 hW hcnd hsz _
  have hW' := hW
  obtain ⟨p, q, hA0, hV, rfl, hfz, hnd⟩ := hW
  have hval : ∀ (j : Nat) t v, Try.f6.params[j]? = some t → args[j]? = some v → Value.okWide Try.prog W .any base t v := hval0
  have hA : DataW.TrodAll enc Try.prog W 0 (fun _ => true) true Try.f6.params.toList args.toList ds p := hA0
  rw [Try.params6] at hA hval
  obtain ⟨v0, v1, d0, d1, p0, p1, rfl, rfl, rfl, h0, h1⟩ := trodAll_two hA
  obtain ⟨rfl, rfl⟩ := trodVars_none hV
  have hlt : ∀ x ∈ p0, x.block < W.heap.size := fun x hx => hW'.lt x (by simp [hx])
  obtain ⟨c, rfl, hc⟩ := open_reg (hval 0 24 v0 rfl rfl) h0
  obtain ⟨n1, rfl, rfl, rfl, w1⟩ := open_int Try.underlying22 (hval 1 22 v1 rfl rfl) h1
  have U1 : U64 n1 := by
    obtain ⟨lo, hi⟩ := bounds_u64 w1
    exact ⟨lo, by omega⟩
  simp only [List.append_nil] at hW'
  refine (parts_any c n1 hc W).mono fun e W' ⟨he, hb⟩ => ?_
  subst he
  refine ⟨_, rfl, _, _, _, [], p0 ++ ([]), [], hW', trodAll_mk1 (shut_bool Try.underlying4 _), trodAll_mk2 (Below.trod laidOut (by kernel_rfl) (of_decide_eq_true (by kernel_rfl)) h0 hb hlt) (shut_int Try.underlying22 w1), rfl, hb.frame _, fun h => by cases h⟩
/-- The given statement. -/
theorem csrParts_proved : Rows.CsrPartsSaid :=
  OpenClaim.holds_of_wide 6 Try.f6 rfl rfl rfl rfl rfl rfl rfl ⟨rfl, rfl, rfl, rfl, rfl⟩ rfl rfl rfl rfl rfl (by kernel_rfl) Try.func6 (by kernel_rfl)
    (of_decide_eq_true (by kernel_rfl)) (by unfold Func.isWrapper; first | (rw [if_pos (by decide +kernel)]; kernel_rfl) | (rw [if_neg (by decide +kernel)]; exact ⟨rfl, rfl⟩))
    (fun os started H enc _ => csrParts_lifted os started H enc)

end Go.Proofs.Ythchakfffenoiaa
