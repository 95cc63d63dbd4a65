/- RamStored, the given statement: what was stored is loaded, and all other bytes stay: for every input, with no condition. -/
import Derived.Test.YtocphogddjcblaaM
import Derived.SizedLaws
import Derived.Carry
namespace Go.Proofs.Ytocphogddjcblaa
open Go.RowKit Go.Deep Go.Joins Go.WideShapes Go.ChangeShapes Go.ChangeAt
theorem cells28 : Try.prog.cellsOf 28 = 4 := by kernel_rfl
section
variable {H : Type} {enc : TypeId × Value → H} {w : World} {base : Nat} {spare : Nat → Bool} {held : Bool}
structure SpotIn (v : Value) (t size x : Int) (s : ByteArray) : Prop where
  is : v = .agg #[.int .u64 t, .int .i64 size, .int .u64 x, .string s]
  t0 : 0 ≤ t
  t1 : t ≤ 18446744073709551615
  s0 : -9223372036854775808 ≤ size
  s1 : size ≤ 9223372036854775807
  x0 : 0 ≤ x
  x1 : x ≤ 18446744073709551615
  s : s.size ≤ 9223372036854775807
theorem open_spot {r : Reach} {b0 : Nat} {v : Value} {d : DataW H} {p : List MemPlace} (hv : Value.okWide Try.prog w r b0 28 v) (h : DataW.Trod enc Try.prog w base spare held 28 v d p) :
    ∃ t size x s, SpotIn v t size x s := by
  obtain ⟨c0, c1, c2, c3, y0, y1, y2, y3, n, rfl, rfl, rfl, h0, h1, h2, h3⟩ := open_agg4 Try.underlying28 (by kernel_rfl) cells28 hv h
  obtain ⟨t, e0, rfl, w0⟩ := DataW.trod_int Try.underlying24 h0
  obtain ⟨size, e1, rfl, w1⟩ := DataW.trod_int Try.underlying3 h1
  obtain ⟨x, e2, rfl, w2⟩ := DataW.trod_int Try.underlying24 h2
  obtain ⟨s, e3, rfl, w3⟩ := DataW.trod_string Try.underlying9 h3
  simp only [List.cons.injEq, and_true] at e0 e1 e2 e3
  subst e0 e1 e2 e3
  have b0 := bounds_u64 w0
  have b1 := bounds_i64 w1
  have b2 := bounds_u64 w2
  exact ⟨t, size, x, s, rfl, b0.1, b0.2, b1.1, b1.2, b2.1, b2.2, by unfold maxLen at w3; omega⟩
end
theorem stored_any (dv mv : Value) (E : Int) (D : List UInt8) (M : List Int) (t size x : Int) (s : ByteArray) (w : World) (hd : DAt w dv D) (hm : MAt w mv M) (hD : D.length ≤ 140737488351232) (hM : M.length ≤ 17592186043904) (ht0 : 0 ≤ t) (ht1 : t ≤ 18446744073709551615)
    (hx0 : 0 ≤ x) (hx1 : x ≤ 18446744073709551615) :
    Calls Try.prog 5 #[.agg #[dv, mv, .int .u64 E], .agg #[.int .u64 t, .int .i64 size, .int .u64 x, .string s]] w fun e w' => e = .returned (.bool true) ∧ Below w.heap.size w w' := by
  rcases Bool.eq_false_or_eq_true (loadsB size) with hl | hl
  · rcases Bool.eq_false_or_eq_true (thereB D.length t size) with ht | ht
    · have h1 := (there_iff.1 ht).1
      obtain ⟨sz, rfl⟩ : ∃ sz : Nat, size = sz := ⟨size.toNat, by omega⟩
      obtain ⟨xn, rfl⟩ : ∃ xn : Nat, x = xn := ⟨x.toNat, by omega⟩
      exact stored_yes dv mv E D M t sz xn s w hd hm hD hM ht0 ht1 (by omega) hl ht
    · obtain ⟨p, cap, rfl⟩ := hd.is
      obtain ⟨q, cap2, rfl⟩ := hm.is
      exact stored_ram p D.length cap q M.length cap2 E t size x s w hd.le ht0 ht1 hl ht
  · obtain ⟨p, cap, rfl⟩ := hd.is
    obtain ⟨q, cap2, rfl⟩ := hm.is
    exact stored_arg p D.length cap q M.length cap2 E t size x s w hl

set_option maxRecDepth 100000 in
theorem stored_lifted (os : Os) (started : os.Started) (H : Type) (enc : TypeId × Value → H) :
    ReturnsInHanded {} Try.checked os 5 .any (Rows.ramStoredSpec.pre6 enc Try.prog Try.f5 Rows.ramStoredRow.domain false) (Rows.ramStoredSpec.post enc Try.prog Try.f5 false true false false) := by
  refine returnsInHanded_of_change_sized (C := Try.checked) own started (by kernel_rfl) Try.func5
    (ChangeSpec.witness6 (enc := enc) (C := Try.checked) false ⟨#[], #[.agg #[.slice none 0 0, .slice none 0 0, .int .u64 0], .agg #[.int .u64 0, .int .i64 0, .int .u64 0, .string ⟨#[]⟩]], []⟩ 8 (by kernel_rfl) (by kernel_rfl) (by kernel_rfl) (by kernel_rfl)) ?_
  intro W base args ds gs before hval0 hW hcnd hsz _
  have hW' := hW
  obtain ⟨p, q, hA0, hV, rfl, hfz, hnd⟩ := hW
  have hval : ∀ (j : Nat) t v, Try.f5.params[j]? = some t → args[j]? = some v → Value.okWide Try.prog W .any base t v := hval0
  have hA : DataW.TrodAll enc Try.prog W 0 (fun _ => true) true Try.f5.params.toList args.toList ds p := hA0
  rw [Try.params5] at hA hval
  obtain ⟨v0, v1, d0, d1, p0, p1, rfl, rfl, rfl, h0, h1⟩ := trodAll_two hA
  obtain ⟨rfl, rfl⟩ := trodVars_none hV
  have hlt : ∀ x ∈ p0 ++ p1, x.block < W.heap.size := fun x hx => hW'.lt x (by simpa using hx)
  obtain ⟨dv, mv, E, D, M, hr, hwt⟩ := open_ram (hval 0 26 v0 rfl rfl) h0
  obtain ⟨t, size, x, s, hs⟩ := open_spot (hval 1 28 v1 rfl rfl) h1
  have hN : ∀ x ∈ d0.weights Try.prog 26, x ≤ 140737488351232 := fun x hx => by
    have := List.all_eq_true.1 hsz x (by
      show x ∈ DataW.weightsEach Try.prog (Try.f5.params.toList ++ _) _
      rw [Try.params5]
      simp [DataW.weightsEach, hx])
    exact of_decide_eq_true this
  obtain ⟨hD, hM⟩ := hwt _ hN
  obtain rfl := hr.is
  obtain rfl := hs.is
  simp only [List.append_nil] at hW'
  refine (stored_any dv mv E D M t size x s W hr.d hr.m hD (by omega) hs.t0 hs.t1 hs.x0 hs.x1).mono fun e W' ⟨he, hb⟩ => ?_
  subst he
  refine ⟨_, rfl, _, _, _, [], p0 ++ p1, [], hW', trodAll_mk1 (shut_bool Try.underlying4 _), trodAll_mk2 (Below.trod laidOut (by kernel_rfl) (of_decide_eq_true (by kernel_rfl)) h0 hb fun x hx => hlt x (by simp [hx])) (Below.trod laidOut (by kernel_rfl) (of_decide_eq_true (by kernel_rfl)) h1 hb fun x hx => hlt x (by simp [hx])), rfl, hb.frame _, fun h => by cases h⟩

theorem stored_over : Rows.ramStoredRow.holds Try.pinned (OpenSpec.ofChange Rows.ramStoredSpec) :=
  OpenClaim.holds_of_wide 5 Try.f5 rfl rfl rfl rfl rfl rfl rfl ⟨rfl, rfl, rfl, rfl, rfl⟩ rfl rfl rfl rfl rfl (by kernel_rfl) Try.func5 (by kernel_rfl)
    (of_decide_eq_true (by kernel_rfl)) (by unfold Func.isWrapper; first | (rw [if_pos (by decide +kernel)]; kernel_rfl) | (rw [if_neg (by decide +kernel)]; exact ⟨rfl, rfl⟩))
    (fun os started H enc _ => stored_lifted os started H enc)

/-- The given statement. -/
theorem stored_proved : Rows.RamStoredSaid := stored_over
end Go.Proofs.Ytocphogddjcblaa
