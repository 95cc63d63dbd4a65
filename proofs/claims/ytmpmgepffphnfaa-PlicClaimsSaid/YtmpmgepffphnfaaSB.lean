/- PlicClaims, the given statement: what was claimed is nobody's best till it is written back, and then it is as before: for every input, with no condition. -/
import Derived.Test.YtmpmgepffphnfaaPB
import Derived.Test.YtmpmgepffphnfaaJ
import Derived.Test.YtmpmgepffphnfaaL
import Derived.Test.YtmpmgepffphnfaaRA
import Derived.Test.YtmpmgepffphnfaaRB
import Derived.SizedLaws
import Derived.Carry
namespace Go.Proofs.Ytmpmgepffphnfaa
open Go.RowKit Go.Deep Go.Joins
theorem claim_load_0 (h : Pl) (s : Int) (k : Nat) (hb : bestF h s 0 = k) (W : World) : Calls Try.prog 14 #[plV h, .int .u32 s, .int .u64 203423748, .int .i64 4] W fun e W' => e = .returned (.tuple #[plV { h with c := bits .or .u32 h.c (wt k) }, .int .u64 k, .bool true]) ∧ Below W.heap.size W W' := by
  have e := load_any h s 203423748 4 W
  rw [ldF_b0, hb] at e
  exact e
theorem claim_store_0 (h : Pl) (ok : Ok h) (s : Int) (k : Nat) (hk : 1 ≤ k ∧ k ≤ 3) (hb : bestF h s 0 = k) (W : World) : Calls Try.prog 16 #[plV { h with c := bits .or .u32 h.c (wt k) }, .int .u64 203423748, .int .i64 4, .int .u64 k] W fun e W' => e = .returned (.tuple #[plV h, .bool true]) ∧ Below W.heap.size W W' := by
  have e := store_any { h with c := bits .or .u32 h.c (wt k) } 203423748 4 k (u32_or _ _) W
  have on : onB h s h.e0 k = true := by rcases best_on h s 0 k hk hb with g | g <;> first | exact g.2 | (have := g.1; omega)
  rw [on_bits h s _ k hk] at on
  simp only [Bool.and_eq_true, Bool.not_eq_true'] at on
  have hw : IntKind.u32.wrap (k : Int) = k := by rw [IntKind.wrap_u32]; omega
  have hs : stF { h with c := bits .or .u32 h.c (wt k) } 203423748 4 k = (h, true) := by
    rw [stF_b0, hw]
    have hx : backF { h with c := bits .or .u32 h.c (wt k) } k h.e0 = h.c := by
      rw [back_yes _ k _ hk on.2]
      exact claim_back h.c ok.c k hk on.1.2
    show (({ h with c := backF { h with c := bits .or .u32 h.c (wt k) } k h.e0 } : Pl), true) = (h, true)
    rw [hx]
  rw [hs] at e
  exact e
theorem claim_load_1 (h : Pl) (s : Int) (k : Nat) (hb : bestF h s 1 = k) (W : World) : Calls Try.prog 14 #[plV h, .int .u32 s, .int .u64 203427844, .int .i64 4] W fun e W' => e = .returned (.tuple #[plV { h with c := bits .or .u32 h.c (wt k) }, .int .u64 k, .bool true]) ∧ Below W.heap.size W W' := by
  have e := load_any h s 203427844 4 W
  rw [ldF_b1, hb] at e
  exact e
theorem claim_store_1 (h : Pl) (ok : Ok h) (s : Int) (k : Nat) (hk : 1 ≤ k ∧ k ≤ 3) (hb : bestF h s 1 = k) (W : World) : Calls Try.prog 16 #[plV { h with c := bits .or .u32 h.c (wt k) }, .int .u64 203427844, .int .i64 4, .int .u64 k] W fun e W' => e = .returned (.tuple #[plV h, .bool true]) ∧ Below W.heap.size W W' := by
  have e := store_any { h with c := bits .or .u32 h.c (wt k) } 203427844 4 k (u32_or _ _) W
  have on : onB h s h.e1 k = true := by rcases best_on h s 1 k hk hb with g | g <;> first | exact g.2 | (have := g.1; omega)
  rw [on_bits h s _ k hk] at on
  simp only [Bool.and_eq_true, Bool.not_eq_true'] at on
  have hw : IntKind.u32.wrap (k : Int) = k := by rw [IntKind.wrap_u32]; omega
  have hs : stF { h with c := bits .or .u32 h.c (wt k) } 203427844 4 k = (h, true) := by
    rw [stF_b1, hw]
    have hx : backF { h with c := bits .or .u32 h.c (wt k) } k h.e1 = h.c := by
      rw [back_yes _ k _ hk on.2]
      exact claim_back h.c ok.c k hk on.1.2
    show (({ h with c := backF { h with c := bits .or .u32 h.c (wt k) } k h.e1 } : Pl), true) = (h, true)
    rw [hx]
  rw [hs] at e
  exact e
theorem claim_bit (h : Pl) (k : Nat) (hk : 1 ≤ k ∧ k ≤ 3) : bitT ({ h with c := bits .or .u32 h.c (wt k) } : Pl).c k = true := by
  show bitT (bits .or .u32 h.c (wt k)) k = true
  rw [bit_or, bit_wt_self k hk, Bool.or_true]
theorem claims_any (h : Pl) (s who : Int) (ok : Ok h) (W : World) : Calls Try.prog 4 #[plV h, .int .u32 s, .int .i64 who] W fun e W' => e = .returned (.bool true) ∧ Below W.heap.size W W' := by
  have hz : ({ h with c := bits .or .u32 h.c (wt 0) } : Pl) = h := by rw [show wt 0 = 0 from rfl, or_zero h.c ok.c]
  rcases who_and who with hw | hw
  · have r := best_range h s 0
    rcases (show bestF h s 0 = (0 : Nat) ∨ bestF h s 0 = (1 : Nat) ∨ bestF h s 0 = (2 : Nat) ∨ bestF h s 0 = (3 : Nat) by omega) with e | e | e | e
    · exact claims_0_0 h s who hw (Lib.hid fun W => by have c := best_any h s 0 W; rw [e] at c; exact c) (Lib.hid fun W => by have c := claim_load_0 h s 0 e W; rw [show (((0 : Nat) : Int)) = 0 from rfl, hz] at c; exact c) W
    · exact claims_0_1 h { h with c := bits .or .u32 h.c (wt 1) } s who _ _ hw (best_claimed _ s 0 1 (by omega) (claim_bit h 1 (by omega))) (best_claimed _ s 1 1 (by omega) (claim_bit h 1 (by omega))) (Lib.hid fun W => by have c := best_any h s 0 W; rw [e] at c; exact c) (Lib.hid fun W => best_any _ s 0 W) (Lib.hid fun W => best_any _ s 1 W) (Lib.hid fun W => claim_load_0 h s 1 e W) (Lib.hid fun W => claim_store_0 h ok s 1 (by omega) e W) W
    · exact claims_0_2 h { h with c := bits .or .u32 h.c (wt 2) } s who _ _ hw (best_claimed _ s 0 2 (by omega) (claim_bit h 2 (by omega))) (best_claimed _ s 1 2 (by omega) (claim_bit h 2 (by omega))) (Lib.hid fun W => by have c := best_any h s 0 W; rw [e] at c; exact c) (Lib.hid fun W => best_any _ s 0 W) (Lib.hid fun W => best_any _ s 1 W) (Lib.hid fun W => claim_load_0 h s 2 e W) (Lib.hid fun W => claim_store_0 h ok s 2 (by omega) e W) W
    · exact claims_0_3 h { h with c := bits .or .u32 h.c (wt 3) } s who _ _ hw (best_claimed _ s 0 3 (by omega) (claim_bit h 3 (by omega))) (best_claimed _ s 1 3 (by omega) (claim_bit h 3 (by omega))) (Lib.hid fun W => by have c := best_any h s 0 W; rw [e] at c; exact c) (Lib.hid fun W => best_any _ s 0 W) (Lib.hid fun W => best_any _ s 1 W) (Lib.hid fun W => claim_load_0 h s 3 e W) (Lib.hid fun W => claim_store_0 h ok s 3 (by omega) e W) W
  · have r := best_range h s 1
    rcases (show bestF h s 1 = (0 : Nat) ∨ bestF h s 1 = (1 : Nat) ∨ bestF h s 1 = (2 : Nat) ∨ bestF h s 1 = (3 : Nat) by omega) with e | e | e | e
    · exact claims_1_0 h s who hw (Lib.hid fun W => by have c := best_any h s 1 W; rw [e] at c; exact c) (Lib.hid fun W => by have c := claim_load_1 h s 0 e W; rw [show (((0 : Nat) : Int)) = 0 from rfl, hz] at c; exact c) W
    · exact claims_1_1 h { h with c := bits .or .u32 h.c (wt 1) } s who _ _ hw (best_claimed _ s 0 1 (by omega) (claim_bit h 1 (by omega))) (best_claimed _ s 1 1 (by omega) (claim_bit h 1 (by omega))) (Lib.hid fun W => by have c := best_any h s 1 W; rw [e] at c; exact c) (Lib.hid fun W => best_any _ s 0 W) (Lib.hid fun W => best_any _ s 1 W) (Lib.hid fun W => claim_load_1 h s 1 e W) (Lib.hid fun W => claim_store_1 h ok s 1 (by omega) e W) W
    · exact claims_1_2 h { h with c := bits .or .u32 h.c (wt 2) } s who _ _ hw (best_claimed _ s 0 2 (by omega) (claim_bit h 2 (by omega))) (best_claimed _ s 1 2 (by omega) (claim_bit h 2 (by omega))) (Lib.hid fun W => by have c := best_any h s 1 W; rw [e] at c; exact c) (Lib.hid fun W => best_any _ s 0 W) (Lib.hid fun W => best_any _ s 1 W) (Lib.hid fun W => claim_load_1 h s 2 e W) (Lib.hid fun W => claim_store_1 h ok s 2 (by omega) e W) W
    · exact claims_1_3 h { h with c := bits .or .u32 h.c (wt 3) } s who _ _ hw (best_claimed _ s 0 3 (by omega) (claim_bit h 3 (by omega))) (best_claimed _ s 1 3 (by omega) (claim_bit h 3 (by omega))) (Lib.hid fun W => by have c := best_any h s 1 W; rw [e] at c; exact c) (Lib.hid fun W => best_any _ s 0 W) (Lib.hid fun W => best_any _ s 1 W) (Lib.hid fun W => claim_load_1 h s 3 e W) (Lib.hid fun W => claim_store_1 h ok s 3 (by omega) e W) W
open Go.WideShapes Go.ChangeShapes Go.ChangeAt
set_option maxRecDepth 100000 in
theorem plicClaims_lifted (os : Os) (started : os.Started) (H : Type) (enc : TypeId × Value → H) :
    ReturnsInHanded {} Try.checked os 4 .any (Rows.plicClaimsSpec.pre6 enc Try.prog Try.f4 Rows.plicClaimsRow.domain false) (Rows.plicClaimsSpec.post enc Try.prog Try.f4 false true false false) := by
  refine returnsInHanded_of_change_sized (C := Try.checked) (by kernel_rfl) started (by kernel_rfl) Try.func4
    (ChangeSpec.witness6 (enc := enc) (C := Try.checked) false ⟨#[], #[.agg #[.int .u32 0, .int .u32 0, .int .u32 0, .int .u32 0, .int .u32 0, .int .u32 0, .int .u32 0, .int .u32 0, .int .u32 0], .int .u32 0, .int .i64 0], []⟩ 8 (by kernel_rfl) (by kernel_rfl) (by kernel_rfl) (by kernel_rfl)) ?_
  intro W base args ds gs before hval0 hW hcnd hsz _
  have hW' := hW
  obtain ⟨p, q, hA0, hV, rfl, hfz, hnd⟩ := hW
  have hval : ∀ (j : Nat) t v, Try.f4.params[j]? = some t → args[j]? = some v → Value.okWide Try.prog W .any base t v := hval0
  have hA : DataW.TrodAll enc Try.prog W 0 (fun _ => true) true Try.f4.params.toList args.toList ds p := hA0
  rw [Try.params4] at hA hval
  obtain ⟨v0, v1, v2, d0, d1, d2, p0, p1, p2, rfl, rfl, rfl, h0, h1, h2⟩ := trodAll_three hA
  obtain ⟨rfl, rfl⟩ := trodVars_none hV
  have hlt : ∀ x ∈ p0, x.block < W.heap.size := fun x hx => hW'.lt x (by simp [hx])
  obtain ⟨h, rfl, ok⟩ := open_plic (hval 0 26 v0 rfl rfl) h0
  obtain ⟨n1, rfl, rfl, rfl, w1⟩ := open_int Try.underlying22 (hval 1 22 v1 rfl rfl) h1
  obtain ⟨n2, rfl, rfl, rfl, w2⟩ := open_int Try.underlying3 (hval 2 3 v2 rfl rfl) h2
  simp only [List.append_nil] at hW'
  refine (claims_any h n1 n2 ok W).mono fun e W' ⟨he, hb⟩ => ?_
  subst he
  refine ⟨_, rfl, _, _, _, [], p0 ++ ([] ++ ([])), [], hW', trodAll_mk1 (shut_bool Try.underlying4 _), trodAll_mk3 (Below.trod laidOut (by kernel_rfl) (of_decide_eq_true (by kernel_rfl)) h0 hb hlt) (shut_int Try.underlying22 w1) (shut_int Try.underlying3 w2), rfl, hb.frame _, fun h => by cases h⟩
/-- The given statement. -/
theorem plicClaims_proved : Rows.PlicClaimsSaid :=
  OpenClaim.holds_of_wide 4 Try.f4 rfl rfl rfl rfl rfl rfl rfl ⟨rfl, rfl, rfl, rfl, rfl⟩ rfl rfl rfl rfl rfl (by kernel_rfl) Try.func4 (by kernel_rfl)
    (of_decide_eq_true (by kernel_rfl)) (by unfold Func.isWrapper; first | (rw [if_pos (by decide +kernel)]; kernel_rfl) | (rw [if_neg (by decide +kernel)]; exact ⟨rfl, rfl⟩))
    (fun os started H enc _ => plicClaims_lifted os started H enc)

end Go.Proofs.Ytmpmgepffphnfaa
