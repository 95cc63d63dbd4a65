/- LogChanges, for arguments of bulk at most 1048576: adding, accepting and shortening are as the document says. -/
import Derived.Test.YthlghmechldegaaZL
import Derived.Test.YthlghmechldegaaRL
import Derived.JoinedCond
import Derived.SizedLaws
import Derived.Carry
namespace Go.Proofs.Ythlghmechldegaa
open Go.RowKit Go.Deep Go.Joins
open Go.WideShapes Go.ChangeShapes Go.ChangeAt
section
variable {H : Type} {enc : TypeId × Value → H} {w : World} {base : Nat} {spare : Nat → Bool} {held : Bool}
theorem bulk_pos (d : DataW H) : 1 ≤ Rows.uptoBulk d := by
  cases d with
  | lit l => cases l <;> simp [Rows.uptoBulk]
  | nil => simp [Rows.uptoBulk]
  | ptr d => simp [Rows.uptoBulk]
  | slice elems spare => simp [Rows.uptoBulk]
  | agg parts => simp [Rows.uptoBulk]
  | iface t d => simp [Rows.uptoBulk]
  | map entries => simp [Rows.uptoBulk]
  | held h => simp [Rows.uptoBulk]
theorem bulk_len (l : List (DataW H)) : l.length ≤ Rows.uptoBulkAll l := by
  induction l with
  | nil => simp [Rows.uptoBulkAll]
  | cons x r ih => have := bulk_pos x; simp only [Rows.uptoBulkAll, List.length_cons]; omega
theorem ents_bulk {fuel : Nat} {c : Value} {x : DataW H × List MemPlace} {O : List En} (h : DataW.trod enc Try.prog w base spare held fuel 25 [c] = some x) (hO : EAt w c O) : O.length ≤ Rows.uptoBulk x.1 := by
  obtain ⟨p, d, e⟩ := hO.is
  rcases DataW.trod_slice Try.underlying25 h with ⟨hcs, rfl⟩ | ⟨a, len, cap, elems, rest, n, _, hcs, rfl, hb, hl, hm, hlen, hel, hsp, hns⟩
  · simp only [List.cons.injEq, and_true] at hcs
    rw [e] at hcs
    have : O.length = 0 := by injection hcs
    omega
  · simp only [List.cons.injEq, and_true] at hcs
    rw [e] at hcs
    have e2 : O.length = len := by injection hcs
    have hb1 := bulk_len (elems.map fun x => x.1)
    rw [List.length_map] at hb1
    show O.length ≤ Rows.uptoBulkAll (elems.map fun x => x.1) + _ + 1
    omega
theorem log_bulk {l : Lg} {L : List En} {d : DataW H} {p : List MemPlace} (h : DataW.Trod enc Try.prog w base spare held 27 (lgV l) d p) (hL : EAt w l.lv L) : L.length ≤ Rows.uptoBulk d := by
  obtain ⟨fuel, hf⟩ := h
  obtain ⟨xs, n, _, hd, _, hlen, hg⟩ := DataW.trod_struct Try.underlying27 hf
  obtain ⟨rfl, rfl⟩ := Prod.mk.inj hd
  have hcs : (lgV l).cells.toList = lgL l := rfl
  rw [hcs] at hg
  match xs, hlen with
  | [y0, y1, y2, y3], _ =>
    have g3 : DataW.trod enc Try.prog w base spare held n 25 (((lgL l).drop 9).take (Try.prog.cellsOf 25)) = some y3 := hg 3 _ rfl
    rw [cells25] at g3
    have b := ents_bulk (show DataW.trod enc Try.prog w base spare held n 25 [l.lv] = some y3 from g3) hL
    show L.length ≤ Rows.uptoBulkAll [y0.1, y1.1, y2.1, y3.1] + 1
    simp only [Rows.uptoBulkAll]
    omega
end
theorem own : ownKnob Try.prog.godebug = none := by kernel_rfl
set_option maxRecDepth 100000 in
theorem logChanges_lifted (os : Os) (started : os.Started) (H : Type) (enc : TypeId × Value → H) (F : Stop.Interp) :
    ReturnsInHanded {} Try.checked os 4 .any ((Rows.OpenSpec.upto Rows.logChangesSpec).pre6 enc Try.prog Try.f4 Rows.logChangesUptoRow.domain false) (((Rows.OpenSpec.upto Rows.logChangesSpec).at F).post enc Try.prog Try.f4 false true false false) := by
  refine returnsInHanded_of_cond (C := Try.checked) (s := Rows.OpenSpec.upto Rows.logChangesSpec) (k := Rows.uptoSmall) rfl own started (by kernel_rfl) Try.func4
    (OpenSpec.witness (enc := enc) (C := Try.checked) (s := Rows.OpenSpec.upto Rows.logChangesSpec) (k := Rows.uptoSmall) rfl false ⟨#[], #[.agg #[.int .u64 0, .int .u64 0, .bool false, .bool false, .bool false, .bool false, .bool false, .bool false, .bool false, .slice none 0 0], .int .u64 0, .int .u64 0, .slice none 0 0], []⟩ 8 (by kernel_rfl) (by kernel_rfl) (by kernel_rfl)
      (x := ([.agg [.lit (.int .u64 0), .lit (.int .u64 0), .agg [.lit (.bool false), .lit (.bool false), .lit (.bool false), .lit (.bool false), .lit (.bool false), .lit (.bool false), .lit (.bool false)], .nil], .lit (.int .u64 0), .lit (.int .u64 0), .nil], [], [])) (by kernel_rfl) rfl (by kernel_rfl)) ?_
  intro W base args ds gs before hval0 hW hcnd hk _
  have hW' := hW
  obtain ⟨p, q, hA0, hV, rfl, hfz, hnd⟩ := hW
  have hval : ∀ (j : Nat) t v, Try.f4.params[j]? = some t → args[j]? = some v → Value.okWide Try.prog W .any base t v := hval0
  have hA : DataW.TrodAll enc Try.prog W 0 (fun _ => true) true Try.f4.params.toList args.toList ds p := hA0
  rw [Try.params4] at hA hval
  obtain ⟨v0, v1, v2, v3, d0, d1, d2, d3, p0, p1, p2, p3, rfl, rfl, rfl, h0, h1, h2, h3⟩ := trodAll_four hA
  obtain ⟨rfl, rfl⟩ := trodVars_none hV
  have l0 : ∀ x ∈ p0, x.block < W.heap.size := fun x hx => hW'.lt x (by simp [hx])
  have l3 : ∀ x ∈ p3, x.block < W.heap.size := fun x hx => hW'.lt x (by simp [hx])
  obtain ⟨n0, L0, rfl, r0, z0, b0, _⟩ := open_log (hval 0 27 v0 rfl rfl) h0
  obtain ⟨n1, rfl, rfl, rfl, w1⟩ := open_int Try.underlying22 (hval 1 22 v1 rfl rfl) h1
  obtain ⟨n2, rfl, rfl, rfl, w2⟩ := open_int Try.underlying22 (hval 2 22 v2 rfl rfl) h2
  obtain ⟨a, len, cap, rfl⟩ := okWide_slice Try.underlying25 (hval 3 25 v3 rfl rfl)
  have h3' := h3
  obtain ⟨f3, h3''⟩ := h3'
  have h3s : DataW.trod enc Try.prog W 0 (fun _ => true) true f3 25 [.slice a len cap] = some (d3, p3) := h3''
  obtain ⟨E, rE, zE, _⟩ := open_ents h3s
  have hbulk : Rows.uptoBulkAll ([d0, .lit (.int .u64 n1), .lit (.int .u64 n2), d3] ++ []) ≤ 1048576 := of_decide_eq_true hk
  simp only [List.append_nil, Rows.uptoBulkAll] at hbulk
  have bL := log_bulk h0 r0
  have bE : E.length ≤ Rows.uptoBulk d3 := ents_bulk h3s rE
  have eE : len = E.length := by
    obtain ⟨p, d, e⟩ := rE.is
    injection e
  subst eE
  have bb1 := bounds_u64 w1
  simp only [List.append_nil] at hW'
  refine (changes_walk n0 L0 E n1 n2 a cap W r0 rE z0 zE b0 bb1.1 (by omega) (by omega) (by omega)).mono fun e W' ⟨he, hb⟩ => ?_
  subst he
  refine ⟨_, rfl, _, _, _, [], p0 ++ ([] ++ ([] ++ (p3))), [], hW', trodAll_mk1 (shut_bool Try.underlying4 _), trodAll_mk4 (Below.trod laidOut (by kernel_rfl) (of_decide_eq_true (by kernel_rfl)) h0 hb l0) (shut_int Try.underlying22 w1) (shut_int Try.underlying22 w2) (Below.trod laidOut (by kernel_rfl) (of_decide_eq_true (by kernel_rfl)) h3 hb l3), rfl, hb.frame _, fun h => by cases h⟩
/-- The given statement. -/
theorem logChanges_proved : Rows.LogChangesUptoSaid :=
  OpenClaim.holds_of_cond 4 Try.f4 rfl rfl rfl rfl rfl rfl rfl ⟨rfl, rfl, rfl, rfl, rfl⟩ rfl rfl rfl rfl rfl (by kernel_rfl) Try.func4 (by kernel_rfl)
    (of_decide_eq_true (by kernel_rfl)) (by unfold Func.isWrapper; first | (rw [if_pos (by decide +kernel)]; kernel_rfl) | (rw [if_neg (by decide +kernel)]; exact ⟨rfl, rfl⟩))
    (fun os started H enc _ F => logChanges_lifted os started H enc F)
end Go.Proofs.Ythlghmechldegaa
