/- PlicRight, the given statement: of a right state reads and writes leave right ones: for every input, with no condition. -/
import Derived.Test.YtmpmgepffphnfaaPB
import Derived.Test.YtmpmgepffphnfaaL
import Derived.Test.YtmpmgepffphnfaaRA
import Derived.Test.YtmpmgepffphnfaaRB
import Derived.SizedLaws
import Derived.Carry
namespace Go.Proofs.Ytmpmgepffphnfaa
open Go.RowKit Go.Deep Go.Joins
theorem right_of (h g : Pl) (hr : rightF h = true) (h0 : g.p0 = h.p0) (h1 : g.p1 ≤ 7) (h2 : g.p2 ≤ 7) (h3 : g.p3 ≤ 7) (h4 : g.l0 ≤ 7) (h5 : g.l1 ≤ 7) (h6 : onlyB g.e0 = true) (h7 : onlyB g.e1 = true) (h8 : onlyB g.c = true) : rightF g = true := by
  have r := (right_iff h).1 hr
  exact (right_iff g).2 ⟨⟨by rw [h0]; exact r.1.1, h1, h2, h3⟩, ⟨h4, h6⟩, ⟨h5, h7⟩, h0.trans r.2.2.2.1, h8⟩
theorem load_right (h : Pl) (s t : Int) (hr : rightF h = true) (hx : (ldF h s t 4).2.2 = true) : rightF (ldF h s t 4).1 = true := by
  have r := (right_iff h).1 hr
  have hc : ∀ k, rightF { h with c := bits .or .u32 h.c (wt k) } = true := fun k =>
    right_of h _ hr rfl r.1.2.1 r.1.2.2.1 r.1.2.2.2 r.2.1.1 r.2.2.1.1 r.2.1.2 r.2.2.1.2 (only_or _ _ r.2.2.2.2 (only_wt k))
  by_cases h_p1 : t = 201326596
  · subst h_p1; exact hr
  by_cases h_p2 : t = 201326600
  · subst h_p2; exact hr
  by_cases h_p3 : t = 201326604
  · subst h_p3; exact hr
  by_cases h_wait : t = 201330688
  · subst h_wait; exact hr
  by_cases h_e0 : t = 201334784
  · subst h_e0; exact hr
  by_cases h_e1 : t = 201334912
  · subst h_e1; exact hr
  by_cases h_l0 : t = 203423744
  · subst h_l0; exact hr
  by_cases h_l1 : t = 203427840
  · subst h_l1; exact hr
  by_cases h_b0 : t = 203423748
  · subst h_b0; exact hc _
  by_cases h_b1 : t = 203427844
  · subst h_b1; exact hc _
  rw [ldF_none h s t 4 (.inr ⟨h_p1, h_p2, h_p3, h_wait, h_e0, h_e1, h_l0, h_l1, h_b0, h_b1⟩)] at hx
  cases hx
theorem back_only (h : Pl) (n e : Int) (hc : onlyB h.c = true) : onlyB (backF h n e) = true := by
  unfold backF
  split
  · exact only_andNot _ _ hc
  · exact hc
theorem store_right (h : Pl) (t v : Int) (hr : rightF h = true) (hx : (stF h t 4 v).2 = true) : rightF (stF h t 4 v).1 = true := by
  have r := (right_iff h).1 hr
  by_cases h_p1 : t = 201326596
  · subst h_p1; exact right_of h _ hr rfl (and_seven _) r.1.2.2.1 r.1.2.2.2 r.2.1.1 r.2.2.1.1 r.2.1.2 r.2.2.1.2 r.2.2.2.2
  by_cases h_p2 : t = 201326600
  · subst h_p2; exact right_of h _ hr rfl r.1.2.1 (and_seven _) r.1.2.2.2 r.2.1.1 r.2.2.1.1 r.2.1.2 r.2.2.1.2 r.2.2.2.2
  by_cases h_p3 : t = 201326604
  · subst h_p3; exact right_of h _ hr rfl r.1.2.1 r.1.2.2.1 (and_seven _) r.2.1.1 r.2.2.1.1 r.2.1.2 r.2.2.1.2 r.2.2.2.2
  by_cases h_wait : t = 201330688
  · subst h_wait; rw [stF_wait] at hx; cases hx
  by_cases h_e0 : t = 201334784
  · subst h_e0; exact right_of h _ hr rfl r.1.2.1 r.1.2.2.1 r.1.2.2.2 r.2.1.1 r.2.2.1.1 (only_and _) r.2.2.1.2 r.2.2.2.2
  by_cases h_e1 : t = 201334912
  · subst h_e1; exact right_of h _ hr rfl r.1.2.1 r.1.2.2.1 r.1.2.2.2 r.2.1.1 r.2.2.1.1 r.2.1.2 (only_and _) r.2.2.2.2
  by_cases h_l0 : t = 203423744
  · subst h_l0; exact right_of h _ hr rfl r.1.2.1 r.1.2.2.1 r.1.2.2.2 (and_seven _) r.2.2.1.1 r.2.1.2 r.2.2.1.2 r.2.2.2.2
  by_cases h_l1 : t = 203427840
  · subst h_l1; exact right_of h _ hr rfl r.1.2.1 r.1.2.2.1 r.1.2.2.2 r.2.1.1 (and_seven _) r.2.1.2 r.2.2.1.2 r.2.2.2.2
  by_cases h_b0 : t = 203423748
  · subst h_b0; exact right_of h _ hr rfl r.1.2.1 r.1.2.2.1 r.1.2.2.2 r.2.1.1 r.2.2.1.1 r.2.1.2 r.2.2.1.2 (back_only h _ _ r.2.2.2.2)
  by_cases h_b1 : t = 203427844
  · subst h_b1; exact right_of h _ hr rfl r.1.2.1 r.1.2.2.1 r.1.2.2.2 r.2.1.1 r.2.2.1.1 r.2.1.2 r.2.2.1.2 (back_only h _ _ r.2.2.2.2)
  rw [stF_none h t 4 v (.inr ⟨h_p1, h_p2, h_p3, h_wait, h_e0, h_e1, h_l0, h_l1, h_b0, h_b1⟩)] at hx
  cases hx
theorem rights_any (h : Pl) (s t v : Int) (ok : Ok h) (W : World) : Calls Try.prog 5 #[plV h, .int .u32 s, .int .u64 t, .int .u64 v] W fun e W' => e = .returned (.bool true) ∧ Below W.heap.size W W' := by
  rcases Bool.eq_false_or_eq_true (rightF h) with hr | hr
  rotate_left
  · exact right_walk_no h s t v (Lib.hid fun W => hr ▸ right_any h W) (Lib.hid fun W => hr ▸ rright_any h W) W
  have c12 : RowKit.Hid (∀ W, Calls Try.prog 12 #[plV h] W fun e W' => e = .returned (.bool true) ∧ Below W.heap.size W W') := Lib.hid fun W => hr ▸ right_any h W
  have lr := load_right h s t hr
  have sr := store_right h t v hr
  have c14 := fun W => load_any h s t 4 W
  have c16 := fun W => store_any h t 4 v ok.c W
  generalize ldF h s t 4 = x at *
  generalize stF h t 4 v = y at *
  obtain ⟨a, n, x⟩ := x
  obtain ⟨b, y⟩ := y
  cases x <;> cases y
  · exact right_walk_00 h a b s t v n c12 (Lib.hid c14) (Lib.hid c16) W
  · exact right_walk_01 h a b s t v n c12 (Lib.hid c14) (Lib.hid c16) (Lib.hid fun W => (sr rfl) ▸ right_any b W) W
  · exact right_walk_10 h a b s t v n c12 (Lib.hid c14) (Lib.hid c16) (Lib.hid fun W => (lr rfl) ▸ right_any a W) W
  · exact right_walk_11 h a b s t v n c12 (Lib.hid c14) (Lib.hid c16) (Lib.hid fun W => (lr rfl) ▸ right_any a W) (Lib.hid fun W => (sr rfl) ▸ right_any b W) W
open Go.WideShapes Go.ChangeShapes Go.ChangeAt
set_option maxRecDepth 100000 in
theorem plicRight_lifted (os : Os) (started : os.Started) (H : Type) (enc : TypeId × Value → H) :
    ReturnsInHanded {} Try.checked os 5 .any (Rows.plicRightSpec.pre6 enc Try.prog Try.f5 Rows.plicRightRow.domain false) (Rows.plicRightSpec.post enc Try.prog Try.f5 false true false false) := by
  refine returnsInHanded_of_change_sized (C := Try.checked) (by kernel_rfl) started (by kernel_rfl) Try.func5
    (ChangeSpec.witness6 (enc := enc) (C := Try.checked) false ⟨#[], #[.agg #[.int .u32 0, .int .u32 0, .int .u32 0, .int .u32 0, .int .u32 0, .int .u32 0, .int .u32 0, .int .u32 0, .int .u32 0], .int .u32 0, .int .u64 0, .int .u64 0], []⟩ 8 (by kernel_rfl) (by kernel_rfl) (by kernel_rfl) (by kernel_rfl)) ?_
  intro W base args ds gs before hval0 hW hcnd hsz _
  have hW' := hW
  obtain ⟨p, q, hA0, hV, rfl, hfz, hnd⟩ := hW
  have hval : ∀ (j : Nat) t v, Try.f5.params[j]? = some t → args[j]? = some v → Value.okWide Try.prog W .any base t v := hval0
  have hA : DataW.TrodAll enc Try.prog W 0 (fun _ => true) true Try.f5.params.toList args.toList ds p := hA0
  rw [Try.params5] at hA hval
  obtain ⟨v0, v1, v2, v3, d0, d1, d2, d3, p0, p1, p2, p3, rfl, rfl, rfl, h0, h1, h2, h3⟩ := trodAll_four hA
  obtain ⟨rfl, rfl⟩ := trodVars_none hV
  have hlt : ∀ x ∈ p0, x.block < W.heap.size := fun x hx => hW'.lt x (by simp [hx])
  obtain ⟨h, rfl, ok⟩ := open_plic (hval 0 26 v0 rfl rfl) h0
  obtain ⟨n1, rfl, rfl, rfl, w1⟩ := open_int Try.underlying22 (hval 1 22 v1 rfl rfl) h1
  obtain ⟨n2, rfl, rfl, rfl, w2⟩ := open_int Try.underlying27 (hval 2 27 v2 rfl rfl) h2
  obtain ⟨n3, rfl, rfl, rfl, w3⟩ := open_int Try.underlying27 (hval 3 27 v3 rfl rfl) h3
  simp only [List.append_nil] at hW'
  refine (rights_any h n1 n2 n3 ok W).mono fun e W' ⟨he, hb⟩ => ?_
  subst he
  refine ⟨_, rfl, _, _, _, [], p0 ++ ([] ++ ([] ++ ([]))), [], hW', trodAll_mk1 (shut_bool Try.underlying4 _), trodAll_mk4 (Below.trod laidOut (by kernel_rfl) (of_decide_eq_true (by kernel_rfl)) h0 hb hlt) (shut_int Try.underlying22 w1) (shut_int Try.underlying27 w2) (shut_int Try.underlying27 w3), rfl, hb.frame _, fun h => by cases h⟩
/-- The given statement. -/
theorem plicRight_proved : Rows.PlicRightSaid :=
  OpenClaim.holds_of_wide 5 Try.f5 rfl rfl rfl rfl rfl rfl rfl ⟨rfl, rfl, rfl, rfl, rfl⟩ rfl rfl rfl rfl rfl (by kernel_rfl) Try.func5 (by kernel_rfl)
    (of_decide_eq_true (by kernel_rfl)) (by unfold Func.isWrapper; first | (rw [if_pos (by decide +kernel)]; kernel_rfl) | (rw [if_neg (by decide +kernel)]; exact ⟨rfl, rfl⟩))
    (fun os started H enc _ => plicRight_lifted os started H enc)

end Go.Proofs.Ytmpmgepffphnfaa
