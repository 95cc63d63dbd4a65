/- PlicFirst, the given statement: of those that may interrupt one has the greatest priority, the least number of several, and one that waits and is enabled: for every input, with no condition. -/
import Derived.Test.YtmpmgepffphnfaaPC
import Derived.Test.YtmpmgepffphnfaaPD
import Derived.Test.YtmpmgepffphnfaaD
import Derived.Test.YtmpmgepffphnfaaRA
import Derived.Test.YtmpmgepffphnfaaRB
import Derived.SizedLaws
import Derived.Carry
namespace Go.Proofs.Ytmpmgepffphnfaa
open Go.RowKit Go.Deep Go.Joins
theorem on_tests_1 (h : Pl) (s e l q : Int) (he : U32 e) : ((bits .and .u32 (bits .andNot .u32 s h.c / 2) 1 == 1) = true ∧ (bits .and .u32 (e / 2) 1 == 1) = true ∧ l < q) ↔ (onB h s e 1 = true ∧ l < q) := by
  rw [on_bits h s e 1 (by omega), shift_1 _ (u32_andNot _ _), shift_1 _ he, bit_andNot _ _ 1 (by omega), ← and_assoc, ← Bool.and_eq_true]
theorem on_tests_2 (h : Pl) (s e l q : Int) (he : U32 e) : ((bits .and .u32 (bits .andNot .u32 s h.c / 4) 1 == 1) = true ∧ (bits .and .u32 (e / 4) 1 == 1) = true ∧ l < q) ↔ (onB h s e 2 = true ∧ l < q) := by
  rw [on_bits h s e 2 (by omega), shift_2 _ (u32_andNot _ _), shift_2 _ he, bit_andNot _ _ 2 (by omega), ← and_assoc, ← Bool.and_eq_true]
theorem on_tests_3 (h : Pl) (s e l q : Int) (he : U32 e) : ((bits .and .u32 (bits .andNot .u32 s h.c / 8) 1 == 1) = true ∧ (bits .and .u32 (e / 8) 1 == 1) = true ∧ l < q) ↔ (onB h s e 3 = true ∧ l < q) := by
  rw [on_bits h s e 3 (by omega), shift_3 _ (u32_andNot _ _), shift_3 _ he, bit_andNot _ _ 3 (by omega), ← and_assoc, ← Bool.and_eq_true]
theorem first_any (h : Pl) (s who : Int) (ok : Ok h) (W : World) : Calls Try.prog 6 #[plV h, .int .u32 s, .int .i64 who] W fun e W' => e = .returned (.bool true) ∧ Below W.heap.size W W' := by
  rcases who_and who with hw | hw
  · have c8 := fun W => best_any h s 0 W
    have hb : bestF h s 0 = (stB h s h.e0 h.l0 4).1 := rfl
    rw [hb] at c8
    have f := pick_facts (onB h s h.e0 1) (onB h s h.e0 2) (onB h s h.e0 3) h.p1 h.p2 h.p3 h.l0
    have hs : (stepB (onB h s h.e0 3) 3 h.p3 (stepB (onB h s h.e0 2) 2 h.p2 (stepB (onB h s h.e0 1) 1 h.p1 (0, h.l0)))).1 = (stB h s h.e0 h.l0 4).1 := rfl
    rw [hs] at f
    have t1 := on_tests_1 h s h.e0 h.l0 h.p1 ok.e0
    have t2 := on_tests_2 h s h.e0 h.l0 h.p2 ok.e0
    have t3 := on_tests_3 h s h.e0 h.l0 h.p3 ok.e0
    rcases f with ⟨e, f1, f2, f3⟩ | ⟨e, f1, f2, f3⟩ | ⟨e, f1, f2, f3⟩ | ⟨e, f1, f2, f3⟩
    · exact first_0_0 h s who hw (Lib.hid fun W => by have c := c8 W; rw [e] at c; exact c) (Lib.hid fun a => f1 (t1.1 a)) (Lib.hid fun a => f2 (t2.1 a)) (Lib.hid fun a => f3 (t3.1 a)) W
    · exact first_0_1 h s who hw (Lib.hid fun W => by have c := c8 W; rw [e] at c; exact c) (Lib.hid (t1.2 f1)) (Lib.hid fun a => f2 (t2.1 a)) (Lib.hid fun a => f3 (t3.1 a)) W
    · exact first_0_2 h s who hw (Lib.hid fun W => by have c := c8 W; rw [e] at c; exact c) (Lib.hid fun a => f2 (t1.1 a)) (Lib.hid (t2.2 f1)) (Lib.hid fun a => f3 (t3.1 a)) W
    · exact first_0_3 h s who hw (Lib.hid fun W => by have c := c8 W; rw [e] at c; exact c) (Lib.hid fun a => f2 (t1.1 a)) (Lib.hid fun a => f3 (t2.1 a)) (Lib.hid (t3.2 f1)) W
  · have c8 := fun W => best_any h s 1 W
    have hb : bestF h s 1 = (stB h s h.e1 h.l1 4).1 := rfl
    rw [hb] at c8
    have f := pick_facts (onB h s h.e1 1) (onB h s h.e1 2) (onB h s h.e1 3) h.p1 h.p2 h.p3 h.l1
    have hs : (stepB (onB h s h.e1 3) 3 h.p3 (stepB (onB h s h.e1 2) 2 h.p2 (stepB (onB h s h.e1 1) 1 h.p1 (0, h.l1)))).1 = (stB h s h.e1 h.l1 4).1 := rfl
    rw [hs] at f
    have t1 := on_tests_1 h s h.e1 h.l1 h.p1 ok.e1
    have t2 := on_tests_2 h s h.e1 h.l1 h.p2 ok.e1
    have t3 := on_tests_3 h s h.e1 h.l1 h.p3 ok.e1
    rcases f with ⟨e, f1, f2, f3⟩ | ⟨e, f1, f2, f3⟩ | ⟨e, f1, f2, f3⟩ | ⟨e, f1, f2, f3⟩
    · exact first_1_0 h s who hw (Lib.hid fun W => by have c := c8 W; rw [e] at c; exact c) (Lib.hid fun a => f1 (t1.1 a)) (Lib.hid fun a => f2 (t2.1 a)) (Lib.hid fun a => f3 (t3.1 a)) W
    · exact first_1_1 h s who hw (Lib.hid fun W => by have c := c8 W; rw [e] at c; exact c) (Lib.hid (t1.2 f1)) (Lib.hid fun a => f2 (t2.1 a)) (Lib.hid fun a => f3 (t3.1 a)) W
    · exact first_1_2 h s who hw (Lib.hid fun W => by have c := c8 W; rw [e] at c; exact c) (Lib.hid fun a => f2 (t1.1 a)) (Lib.hid (t2.2 f1)) (Lib.hid fun a => f3 (t3.1 a)) W
    · exact first_1_3 h s who hw (Lib.hid fun W => by have c := c8 W; rw [e] at c; exact c) (Lib.hid fun a => f2 (t1.1 a)) (Lib.hid fun a => f3 (t2.1 a)) (Lib.hid (t3.2 f1)) W
open Go.WideShapes Go.ChangeShapes Go.ChangeAt
set_option maxRecDepth 100000 in
theorem plicFirst_lifted (os : Os) (started : os.Started) (H : Type) (enc : TypeId × Value → H) :
    ReturnsInHanded {} Try.checked os 6 .any (Rows.plicFirstSpec.pre6 enc Try.prog Try.f6 Rows.plicFirstRow.domain false) (Rows.plicFirstSpec.post enc Try.prog Try.f6 false true false false) := by
  refine returnsInHanded_of_change_sized (C := Try.checked) (by kernel_rfl) started (by kernel_rfl) Try.func6
    (ChangeSpec.witness6 (enc := enc) (C := Try.checked) false ⟨#[], #[.agg #[.int .u32 0, .int .u32 0, .int .u32 0, .int .u32 0, .int .u32 0, .int .u32 0, .int .u32 0, .int .u32 0, .int .u32 0], .int .u32 0, .int .i64 0], []⟩ 8 (by kernel_rfl) (by kernel_rfl) (by kernel_rfl) (by kernel_rfl)) ?_
  intro W base args ds gs before hval0 hW hcnd hsz _
  have hW' := hW
  obtain ⟨p, q, hA0, hV, rfl, hfz, hnd⟩ := hW
  have hval : ∀ (j : Nat) t v, Try.f6.params[j]? = some t → args[j]? = some v → Value.okWide Try.prog W .any base t v := hval0
  have hA : DataW.TrodAll enc Try.prog W 0 (fun _ => true) true Try.f6.params.toList args.toList ds p := hA0
  rw [Try.params6] at hA hval
  obtain ⟨v0, v1, v2, d0, d1, d2, p0, p1, p2, rfl, rfl, rfl, h0, h1, h2⟩ := trodAll_three hA
  obtain ⟨rfl, rfl⟩ := trodVars_none hV
  have hlt : ∀ x ∈ p0, x.block < W.heap.size := fun x hx => hW'.lt x (by simp [hx])
  obtain ⟨h, rfl, ok⟩ := open_plic (hval 0 26 v0 rfl rfl) h0
  obtain ⟨n1, rfl, rfl, rfl, w1⟩ := open_int Try.underlying22 (hval 1 22 v1 rfl rfl) h1
  obtain ⟨n2, rfl, rfl, rfl, w2⟩ := open_int Try.underlying3 (hval 2 3 v2 rfl rfl) h2
  simp only [List.append_nil] at hW'
  refine (first_any h n1 n2 ok W).mono fun e W' ⟨he, hb⟩ => ?_
  subst he
  refine ⟨_, rfl, _, _, _, [], p0 ++ ([] ++ ([])), [], hW', trodAll_mk1 (shut_bool Try.underlying4 _), trodAll_mk3 (Below.trod laidOut (by kernel_rfl) (of_decide_eq_true (by kernel_rfl)) h0 hb hlt) (shut_int Try.underlying22 w1) (shut_int Try.underlying3 w2), rfl, hb.frame _, fun h => by cases h⟩
/-- The given statement. -/
theorem plicFirst_proved : Rows.PlicFirstSaid :=
  OpenClaim.holds_of_wide 6 Try.f6 rfl rfl rfl rfl rfl rfl rfl ⟨rfl, rfl, rfl, rfl, rfl⟩ rfl rfl rfl rfl rfl (by kernel_rfl) Try.func6 (by kernel_rfl)
    (of_decide_eq_true (by kernel_rfl)) (by unfold Func.isWrapper; first | (rw [if_pos (by decide +kernel)]; kernel_rfl) | (rw [if_neg (by decide +kernel)]; exact ⟨rfl, rfl⟩))
    (fun os started H enc _ => plicFirst_lifted os started H enc)

end Go.Proofs.Ytmpmgepffphnfaa
