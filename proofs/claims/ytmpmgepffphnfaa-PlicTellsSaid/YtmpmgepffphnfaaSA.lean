/- PlicTells, the given statement: who interrupts, reads and writes are as the document says, of every state: for every input, with no condition. -/
import Derived.Test.YtmpmgepffphnfaaPA
import Derived.Test.YtmpmgepffphnfaaJ
import Derived.Test.YtmpmgepffphnfaaL
import Derived.Test.YtmpmgepffphnfaaF
import Derived.Test.YtmpmgepffphnfaaRA
import Derived.SizedLaws
import Derived.Carry
namespace Go.Proofs.Ytmpmgepffphnfaa
open Go.RowKit Go.Deep Go.Joins
theorem tells_any (h : Pl) (s t z who v : Int) (ok : Ok h) (ht : 0 ≤ t ∧ t < 18446744073709551616) (W : World) : Calls Try.prog 3 #[plV h, .int .u32 s, .int .u64 t, .int .i64 z, .int .i64 who, .int .u64 v] W fun e W' => e = .returned (.bool true) ∧ Below W.heap.size W W' :=
  tells_walk h (ldF h s t z).1 (stF h t z v).1 s t z who v (bestF h s who) (linesF h s) (ldF h s t z).2.1 (rightF h) (ldF h s t z).2.2 (stF h t z v).2
    (Lib.hid fun W => best_any h s who W) (Lib.hid fun W => rbest_any h s who W) (Lib.hid fun W => lines_any h s W) (Lib.hid fun W => rlines_any h s W) (Lib.hid fun W => right_any h W) (Lib.hid fun W => rright_any h W)
    (Lib.hid fun W => load_any h s t z W) (Lib.hid fun W => rload_any h s t z ok.c ht W) (Lib.hid fun W => store_any h t z v ok.c W) (Lib.hid fun W => rstore_any h t z v ok.e0 ok.e1 ht W) W
open Go.WideShapes Go.ChangeShapes Go.ChangeAt
set_option maxRecDepth 100000 in
theorem plicTells_lifted (os : Os) (started : os.Started) (H : Type) (enc : TypeId × Value → H) :
    ReturnsInHanded {} Try.checked os 3 .any (Rows.plicTellsSpec.pre6 enc Try.prog Try.f3 Rows.plicTellsRow.domain false) (Rows.plicTellsSpec.post enc Try.prog Try.f3 false true false false) := by
  refine returnsInHanded_of_change_sized (C := Try.checked) (by kernel_rfl) started (by kernel_rfl) Try.func3
    (ChangeSpec.witness6 (enc := enc) (C := Try.checked) false ⟨#[], #[.agg #[.int .u32 0, .int .u32 0, .int .u32 0, .int .u32 0, .int .u32 0, .int .u32 0, .int .u32 0, .int .u32 0, .int .u32 0], .int .u32 0, .int .u64 0, .int .i64 0, .int .i64 0, .int .u64 0], []⟩ 8 (by kernel_rfl) (by kernel_rfl) (by kernel_rfl) (by kernel_rfl)) ?_
  intro W base args ds gs before hval0 hW hcnd hsz _
  have hW' := hW
  obtain ⟨p, q, hA0, hV, rfl, hfz, hnd⟩ := hW
  have hval : ∀ (j : Nat) t v, Try.f3.params[j]? = some t → args[j]? = some v → Value.okWide Try.prog W .any base t v := hval0
  have hA : DataW.TrodAll enc Try.prog W 0 (fun _ => true) true Try.f3.params.toList args.toList ds p := hA0
  rw [Try.params3] at hA hval
  obtain ⟨v0, v1, v2, v3, v4, v5, d0, d1, d2, d3, d4, d5, p0, p1, p2, p3, p4, p5, rfl, rfl, rfl, h0, h1, h2, h3, h4, h5⟩ := trodAll_six hA
  obtain ⟨rfl, rfl⟩ := trodVars_none hV
  have hlt : ∀ x ∈ p0, x.block < W.heap.size := fun x hx => hW'.lt x (by simp [hx])
  obtain ⟨h, rfl, ok⟩ := open_plic (hval 0 26 v0 rfl rfl) h0
  obtain ⟨n1, rfl, rfl, rfl, w1⟩ := open_int Try.underlying22 (hval 1 22 v1 rfl rfl) h1
  obtain ⟨n2, rfl, rfl, rfl, w2⟩ := open_int Try.underlying27 (hval 2 27 v2 rfl rfl) h2
  obtain ⟨n3, rfl, rfl, rfl, w3⟩ := open_int Try.underlying3 (hval 3 3 v3 rfl rfl) h3
  obtain ⟨n4, rfl, rfl, rfl, w4⟩ := open_int Try.underlying3 (hval 4 3 v4 rfl rfl) h4
  obtain ⟨n5, rfl, rfl, rfl, w5⟩ := open_int Try.underlying27 (hval 5 27 v5 rfl rfl) h5
  simp only [List.append_nil] at hW'
  refine (tells_any h n1 n2 n3 n4 n5 ok (by have := bounds_u64 w2; omega) W).mono fun e W' ⟨he, hb⟩ => ?_
  subst he
  refine ⟨_, rfl, _, _, _, [], p0 ++ ([] ++ ([] ++ ([] ++ ([] ++ ([]))))), [], hW', trodAll_mk1 (shut_bool Try.underlying4 _), trodAll_mk6 (Below.trod laidOut (by kernel_rfl) (of_decide_eq_true (by kernel_rfl)) h0 hb hlt) (shut_int Try.underlying22 w1) (shut_int Try.underlying27 w2) (shut_int Try.underlying3 w3) (shut_int Try.underlying3 w4) (shut_int Try.underlying27 w5), rfl, hb.frame _, fun h => by cases h⟩
/-- The given statement. -/
theorem plicTells_proved : Rows.PlicTellsSaid :=
  OpenClaim.holds_of_wide 3 Try.f3 rfl rfl rfl rfl rfl rfl rfl ⟨rfl, rfl, rfl, rfl, rfl⟩ rfl rfl rfl rfl rfl (by kernel_rfl) Try.func3 (by kernel_rfl)
    (of_decide_eq_true (by kernel_rfl)) (by unfold Func.isWrapper; first | (rw [if_pos (by decide +kernel)]; kernel_rfl) | (rw [if_neg (by decide +kernel)]; exact ⟨rfl, rfl⟩))
    (fun os started H enc _ => plicTells_lifted os started H enc)

end Go.Proofs.Ytmpmgepffphnfaa
