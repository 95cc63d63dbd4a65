/- DevRight, the given statement: of a right board each call leaves a right one: for every input, with no condition. -/
import Derived.Test.YtmbaimcneffnlaaRB
import Derived.ChangeMaps5
namespace Go.Proofs.Ytmbaimcneffnlaa
open Go.RowKit Go.Deep Go.Joins
open Go.WideShapes Go.ChangeShapes Go.ChangeAt
section
variable {H : Type} {enc : TypeId × Value → H} {w : World} {base : Nat} {spare : Nat → Bool} {held : Bool}
theorem trodAll_six {t0 t1 t2 t3 t4 t5 : TypeId} {args : Array Value} {ds : List (DataW H)} {ps : List MemPlace} (h : DataW.TrodAll enc Try.prog w base spare held [t0, t1, t2, t3, t4, t5] args.toList ds ps) :
    ∃ v0 v1 v2 v3 v4 v5 d0 d1 d2 d3 d4 d5 p0 p1 p2 p3 p4 p5, args = #[v0, v1, v2, v3, v4, v5] ∧ ds = [d0, d1, d2, d3, d4, d5] ∧ ps = p0 ++ p1 ++ p2 ++ p3 ++ p4 ++ p5 ∧ DataW.Trod enc Try.prog w base spare held t0 v0 d0 p0 ∧ DataW.Trod enc Try.prog w base spare held t1 v1 d1 p1 ∧ DataW.Trod enc Try.prog w base spare held t2 v2 d2 p2 ∧ DataW.Trod enc Try.prog w base spare held t3 v3 d3 p3 ∧ DataW.Trod enc Try.prog w base spare held t4 v4 d4 p4 ∧ DataW.Trod enc Try.prog w base spare held t5 v5 d5 p5 := by
  obtain ⟨v0, vs0, d0, es0, p0, q0, hargs, rfl, rfl, hd0, hr0⟩ := trodAll_cons h
  obtain ⟨v1, vs1, d1, es1, p1, q1, rfl, rfl, rfl, hd1, hr1⟩ := trodAll_cons hr0
  obtain ⟨v2, vs2, d2, es2, p2, q2, rfl, rfl, rfl, hd2, hr2⟩ := trodAll_cons hr1
  obtain ⟨v3, vs3, d3, es3, p3, q3, rfl, rfl, rfl, hd3, hr3⟩ := trodAll_cons hr2
  obtain ⟨v4, vs4, d4, es4, p4, q4, rfl, rfl, rfl, hd4, hr4⟩ := trodAll_cons hr3
  obtain ⟨v5, vs5, d5, es5, p5, q5, rfl, rfl, rfl, hd5, hr5⟩ := trodAll_cons hr4
  obtain ⟨rfl, rfl, rfl⟩ := trodAll_nil hr5
  exact ⟨v0, v1, v2, v3, v4, v5, d0, d1, d2, d3, d4, d5, p0, p1, p2, p3, p4, p5, by cases args; simp_all, rfl, by simp, hd0, hd1, hd2, hd3, hd4, hd5⟩
theorem trodAll_mk6 {t0 t1 t2 t3 t4 t5 : TypeId} {v0 v1 v2 v3 v4 v5 : Value} {d0 d1 d2 d3 d4 d5 : DataW H} {p0 p1 p2 p3 p4 p5 : List MemPlace} (h0 : DataW.Trod enc Try.prog w base spare held t0 v0 d0 p0) (h1 : DataW.Trod enc Try.prog w base spare held t1 v1 d1 p1) (h2 : DataW.Trod enc Try.prog w base spare held t2 v2 d2 p2) (h3 : DataW.Trod enc Try.prog w base spare held t3 v3 d3 p3) (h4 : DataW.Trod enc Try.prog w base spare held t4 v4 d4 p4) (h5 : DataW.Trod enc Try.prog w base spare held t5 v5 d5 p5) : DataW.TrodAll enc Try.prog w base spare held [t0, t1, t2, t3, t4, t5] [v0, v1, v2, v3, v4, v5] [d0, d1, d2, d3, d4, d5] (p0 ++ (p1 ++ (p2 ++ (p3 ++ (p4 ++ p5))))) :=
  ⟨p0, p1 ++ (p2 ++ (p3 ++ (p4 ++ p5))), h0, trodAll_mk5 h1 h2 h3 h4 h5, rfl⟩
theorem open_effect {r : Reach} {b0 : Nat} {v : Value} {d : DataW H} {p : List MemPlace} (hv : Value.okWide Try.prog w r b0 42 v) (h : DataW.Trod enc Try.prog w base spare held 42 v d p) : ∃ k s, v = effV k s := by
  obtain ⟨cs, rfl, hsz⟩ := okWide_struct Try.underlying42 hv
  rw [cells42] at hsz
  obtain ⟨fuel, hf⟩ := h
  obtain ⟨xs, n, _, _, _, hlen, hg⟩ := DataW.trod_struct Try.underlying42 hf
  match xs, hlen with
  | [y0, y1], _ =>
    have g0 : DataW.trod enc Try.prog w base spare held n 3 (((Value.agg cs).cells.toList.drop 0).take (Try.prog.cellsOf 3)) = some y0 := hg 0 _ rfl
    have g1 : DataW.trod enc Try.prog w base spare held n 9 (((Value.agg cs).cells.toList.drop 1).take (Try.prog.cellsOf 9)) = some y1 := hg 1 _ rfl
    obtain ⟨k, e0, _, _⟩ := DataW.trod_int Try.underlying3 g0
    obtain ⟨s, e1, _, _⟩ := DataW.trod_string Try.underlying9 g1
    rw [cells3] at e0
    rw [cells9] at e1
    refine ⟨k, s, ?_⟩
    have e : cs.toList = [.int .i64 k, .string s] := by
      have a0 := cut_list (Value.cells (.agg cs)).toList 0 1
      have a1 := cut_list (Value.cells (.agg cs)).toList 1 1
      have z : (Value.cells (.agg cs)).toList.drop 2 = [] := List.drop_eq_nil_of_le (by show cs.toList.length ≤ 2; simp [hsz])
      rw [show 1 + 1 = 2 from rfl, z, e1] at a1
      rw [show 0 + 1 = 1 from rfl, a1, e0] at a0
      exact a0
    rw [show cs = #[.int .i64 k, .string s] from Array.ext' e]
end
set_option maxRecDepth 100000 in
theorem devRight_lifted (os : Os) (started : os.Started) (H : Type) (enc : TypeId × Value → H) :
    ReturnsInHanded {} Try.checked os 4 .any (Rows.devRightSpec.pre6 enc Try.prog Try.f4 Rows.devRightRow.domain false) (Rows.devRightSpec.post enc Try.prog Try.f4 false true false false) := by
  refine returnsInHanded_of_change_sized (C := Try.checked) own started (by kernel_rfl) Try.func4
    (ChangeSpec.witness6 (enc := enc) (C := Try.checked) false ⟨#[], #[.agg #[.bool false, .int .u64 0, .string ⟨#[]⟩, .bool false, .string ⟨#[]⟩, .int .u64 0, .int .u64 0, .bool false, .bool false, .slice none 0 0, .int .u64 0, .int .u64 0, .int .u32 0, .int .u32 0, .int .u32 0, .int .u32 0, .int .u32 0, .int .u32 0, .int .u32 0, .int .u32 0, .int .u32 0], .agg #[.slice none 0 0, .slice none 0 0, .int .u64 0], .agg #[.int .u64 0, .int .i64 0, .int .u64 0], .agg #[.int .i64 0, .string ⟨#[]⟩], .int .i64 0, .string ⟨#[]⟩], []⟩ 8 (by kernel_rfl) (by kernel_rfl) (by kernel_rfl) (by kernel_rfl)) ?_
  intro W base args ds gs before hval0 hW hcnd hsz _
  have hW' := hW
  obtain ⟨p, q, hA0, hV, rfl, hfz, hnd⟩ := hW
  have hval : ∀ (j : Nat) t v, Try.f4.params[j]? = some t → args[j]? = some v → Value.okWide Try.prog W .any base t v := hval0
  have hA : DataW.TrodAll enc Try.prog W 0 (fun _ => true) true Try.f4.params.toList args.toList ds p := hA0
  rw [Try.params4] at hA hval
  obtain ⟨v0, v1, v2, v3, v4, v5, d0, d1, d2, d3, d4, d5, p0, p1, p2, p3, p4, p5, rfl, rfl, rfl, h0, h1, h2, h3, h4, h5⟩ := trodAll_six hA
  obtain ⟨rfl, rfl⟩ := trodVars_none hV
  have hlt : ∀ x ∈ p0 ++ p1 ++ p2 ++ p3 ++ p4 ++ p5, x.block < W.heap.size := fun x hx => hW'.lt x (by simpa using hx)
  obtain ⟨b, F, rfl, hf, _, ok, hwt⟩ := open_board (hval 0 30 v0 rfl rfl) h0
  have hN : ∀ x ∈ d0.weights Try.prog 30, x ≤ 140737488351232 := fun x hx => by
    have := List.all_eq_true.1 hsz x (by
      show x ∈ DataW.weightsEach Try.prog (Try.f4.params.toList ++ _) _
      rw [Try.params4]
      simp [DataW.weightsEach, hx])
    exact of_decide_eq_true this
  have hFl := hwt _ hN
  obtain ⟨dv, mv, E, D, M, hr, hwt2⟩ := open_ram (hval 1 49 v1 rfl rfl) h1
  have hN2 : ∀ x ∈ d1.weights Try.prog 49, x ≤ 140737488351232 := fun x hx => by
    have := List.all_eq_true.1 hsz x (by
      show x ∈ DataW.weightsEach Try.prog (Try.f4.params.toList ++ _) _
      rw [Try.params4]
      simp [DataW.weightsEach, hx])
    exact of_decide_eq_true this
  obtain ⟨hD, hM⟩ := hwt2 _ hN2
  obtain rfl := hr.is
  have hdd := hr.d
  have hmm := hr.m
  obtain ⟨q1, c1, rfl⟩ := hdd.is
  obtain ⟨q2, c2, rfl⟩ := hmm.is
  obtain ⟨t, s, x, rfl, ut, ux⟩ := open_look (hval 2 32 v2 rfl rfl) h2
  obtain ⟨k, es, rfl⟩ := open_effect (hval 3 42 v3 rfl rfl) h3
  obtain ⟨n4, rfl, rfl, rfl, w4⟩ := open_int Try.underlying3 (hval 4 3 v4 rfl rfl) h4
  obtain ⟨data, rfl, rfl, rfl, w5⟩ := Go.ChangeMaps.open_string Try.underlying9 (hval 5 9 v5 rfl rfl) h5
  refine (rights_any b F q1 q2 c1 c2 E t s x n4 k es data D M W hf (by omega) hdd hmm hD (by omega) ok ux).mono fun e W' ⟨he, hb⟩ => ?_
  subst he
  simp only [List.append_nil] at hW'
  refine ⟨_, rfl, _, _, _, [], p0 ++ (p1 ++ (p2 ++ (p3 ++ ([] ++ ([]))))), [], hW', trodAll_mk1 (shut_bool Try.underlying4 _), trodAll_mk6 (Below.trod laidOut (by kernel_rfl) (of_decide_eq_true (by kernel_rfl)) h0 hb fun x hx => hlt x (by simp [hx])) (Below.trod laidOut (by kernel_rfl) (of_decide_eq_true (by kernel_rfl)) h1 hb fun x hx => hlt x (by simp [hx])) (Below.trod laidOut (by kernel_rfl) (of_decide_eq_true (by kernel_rfl)) h2 hb fun x hx => hlt x (by simp [hx])) (Below.trod laidOut (by kernel_rfl) (of_decide_eq_true (by kernel_rfl)) h3 hb fun x hx => hlt x (by simp [hx])) (shut_int Try.underlying3 w4) (Go.ChangeMaps.shut_string Try.underlying9 w5), rfl, hb.frame _, fun h => by cases h⟩
/-- The given statement. -/
theorem devRight_proved : Rows.DevRightSaid :=
  OpenClaim.holds_of_wide 4 Try.f4 rfl rfl rfl rfl rfl rfl rfl ⟨rfl, rfl, rfl, rfl, rfl⟩ rfl rfl rfl rfl rfl (by kernel_rfl) Try.func4 (by kernel_rfl)
    (of_decide_eq_true (by kernel_rfl)) (by unfold Func.isWrapper; first | (rw [if_pos (by decide +kernel)]; kernel_rfl) | (rw [if_neg (by decide +kernel)]; exact ⟨rfl, rfl⟩))
    (fun os started H enc _ => devRight_lifted os started H enc)

end Go.Proofs.Ytmbaimcneffnlaa
