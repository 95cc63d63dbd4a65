/- BusMemory, the given statement: what is stored into memory through the bus is loaded from it, and nothing else of the machine changes, of every machine: for every input, with no condition. -/
import Derived.Test.YtnedhjaphfjdmaaLD
import Derived.Test.YtnedhjaphfjdmaaOE
import Derived.Test.YtnedhjaphfjdmaaRows
import Derived.SizedLaws
import Derived.Carry
namespace Go.Proofs.Ytnedhjaphfjdmaa
open Go.RowKit Go.Deep Go.Joins Go.WideShapes Go.ChangeShapes Go.ChangeAt
theorem cells52 : Try.prog.cellsOf 52 = 4 := by kernel_rfl
set_option maxRecDepth 100000 in
theorem open_look4 {H : Type} {enc : TypeId × Value → H} {w : World} {base : Nat} {spare : Nat → Bool} {held : Bool} {r : Reach} {b0 : Nat} {v : Value} {d : DataW H} {p : List MemPlace} (hv : Value.okWide Try.prog w r b0 52 v) (h : DataW.Trod enc Try.prog w base spare held 52 v d p) : ∃ t s x b, v = .agg (lkC t s x b) ∧ U64 t ∧ U64 x := by
  obtain ⟨cs0, rfl, hsz⟩ := okWide_struct Try.underlying52 hv
  rw [cells52] at hsz
  obtain ⟨fuel, hf⟩ := h
  obtain ⟨xs, n, _, _, _, hlen, hg⟩ := DataW.trod_struct Try.underlying52 hf
  obtain ⟨cs, hc⟩ : ∃ cs, cs = cs0.toList := ⟨_, rfl⟩
  have hl : cs.length = 4 := by rw [hc]; simp [hsz]
  have hcs : (Value.agg cs0).cells.toList = cs0.toList := rfl
  rw [hcs, ← hc] at hg
  match cs, xs, hl, hc, hg, hlen with
  | [c0, c1, c2, c3], [y0, y1, y2, y3], _, hc, hg, _ =>
    have g0 : DataW.trod enc Try.prog w base spare held n 22 (([c0, c1, c2, c3].drop 0).take (Try.prog.cellsOf 22)) = some y0 := hg 0 _ rfl
    have g1 : DataW.trod enc Try.prog w base spare held n 3 (([c0, c1, c2, c3].drop 1).take (Try.prog.cellsOf 3)) = some y1 := hg 1 _ rfl
    have g2 : DataW.trod enc Try.prog w base spare held n 22 (([c0, c1, c2, c3].drop 2).take (Try.prog.cellsOf 22)) = some y2 := hg 2 _ rfl
    have g3 : DataW.trod enc Try.prog w base spare held n 4 (([c0, c1, c2, c3].drop 3).take (Try.prog.cellsOf 4)) = some y3 := hg 3 _ rfl
    rw [cells22] at g0 g2
    rw [cells3] at g1
    rw [cells4] at g3
    obtain ⟨k0, e0, o0⟩ := open_u64 g0
    obtain ⟨k1, e1, _, _⟩ := DataW.trod_int Try.underlying3 g1
    obtain ⟨k2, e2, o2⟩ := open_u64 g2
    obtain ⟨k3, e3, _⟩ := DataW.trod_bool Try.underlying4 g3
    simp at e0 e1 e2 e3
    refine ⟨k0, k1, k2, k3, ?_, o0, o2⟩
    show Value.agg cs0 = .agg (lkC k0 k1 k2 k3)
    congr 1
    apply Array.ext'
    rw [← hc, e0, e1, e2, e3]
theorem ok_in' {m : Mc} {q : Pt} (ok : OkB m.b) (hs : ∀ s ∈ q.F, s.size ≤ maxLen) (hN : q.F.length * 16 ≤ 140737488351232 ∧ q.D.length ≤ 140737488351232 ∧ q.M.length * 8 ≤ 140737488351232 ∧ q.O.length * 32 ≤ 140737488351232) : POk m q ∧ (q.O.length + 1) * 32 ≤ 140737488355328 :=
  ⟨⟨⟨ok.addr, ok.nicA, ok.sector⟩, ok.pl.c, (fun f hf => by have := hs f hf; unfold maxLen at this; omega), by omega, hN.2.1, by omega⟩, by omega⟩
theorem memory_any (m : Mc) (p : Pt) (t s v : Int) (rd : Bool) (W : World) (K : MR W m p) (ok : POk m p) (hO : (p.O.length + 1) * 32 ≤ 140737488355328) (ht : 0 ≤ t ∧ t ≤ 18446744073709551615) (hv : 0 ≤ v ∧ v ≤ 18446744073709551615) : Calls Try.prog 4 #[mcV m, .agg (lkC t s v rd)] W fun e W' => e = .returned (.bool true) ∧ Below W.heap.size W W' := by
  rcases Bool.eq_false_or_eq_true (okB s) with h | h
  · have hs : s = 1 ∨ s = 2 ∨ s = 4 ∨ s = 8 := by unfold okB at h; simpa [or_assoc] using h
    rcases Bool.eq_false_or_eq_true (thereB p.D.length t s) with k | k
    · exact memory_yes m p t s v rd W K ok hO ht hv hs k
    · exact memory_no m p t s v rd W K ok hO ht hv hs k
  · exact memory_size m p t s v rd W K ok hO ht hv h
set_option maxRecDepth 100000 in
theorem busMemory_lifted (os : Os) (started : os.Started) (H : Type) (enc : TypeId × Value → H) :
    ReturnsInHanded {} Try.checked os 4 .any (Rows.busMemorySpec.pre6 enc Try.prog Try.f4 Rows.busMemoryRow.domain false) (Rows.busMemorySpec.post enc Try.prog Try.f4 false true false false) := by
  refine returnsInHanded_of_change_sized (C := Try.checked) own started (by kernel_rfl) Try.func4
    (ChangeSpec.witness6 (enc := enc) (C := Try.checked) false ⟨#[], #[.agg Try.zeroCells42, .agg #[.int .u64 0, .int .i64 0, .int .u64 0, .bool false]], []⟩ 8 (by kernel_rfl) (by kernel_rfl) (by kernel_rfl) (by kernel_rfl)) ?_
  intro W base args ds gs before hval0 hW hcnd hsz _
  have hW' := hW
  obtain ⟨p, q, hA0, hV, rfl, hfz, hnd⟩ := hW
  have hval : ∀ (j : Nat) t v, Try.f4.params[j]? = some t → args[j]? = some v → Value.okWide Try.prog W .any base t v := hval0
  have hA : DataW.TrodAll enc Try.prog W 0 (fun _ => true) true Try.f4.params.toList args.toList ds p := hA0
  rw [Try.params4] at hA hval
  obtain ⟨v0, v1, d0, d1, p0, p1, rfl, rfl, rfl, h0, h1⟩ := trodAll_two hA
  obtain ⟨rfl, rfl⟩ := trodVars_none hV
  have hlt : ∀ x ∈ p0 ++ p1, x.block < W.heap.size := fun x hx => hW'.lt x (by simpa using hx)
  obtain ⟨m, q, rfl, hr, ok, hs, hwt⟩ := open_machine (hval 0 42 v0 rfl rfl) h0
  have hN : ∀ x ∈ d0.weights Try.prog 42, x ≤ 140737488351232 := fun x hx => by
    have := List.all_eq_true.1 hsz x (by
      show x ∈ DataW.weightsEach Try.prog (Try.f4.params.toList ++ _) _
      rw [Try.params4]
      simp [DataW.weightsEach, hx])
    exact of_decide_eq_true this
  obtain ⟨hok, hO⟩ := ok_in' ok hs (hwt _ hN)
  obtain ⟨t, s, x, b, rfl, ut, ux⟩ := open_look4 (hval 1 52 v1 rfl rfl) h1
  simp only [List.append_nil] at hW'
  refine (memory_any m q t s x b W hr hok hO ut ux).mono fun e W' ⟨he, hb⟩ => ?_
  subst he
  refine ⟨_, rfl, _, _, _, [], p0 ++ p1, [], hW', trodAll_mk1 (shut_bool Try.underlying4 _), trodAll_mk2 (Below.trod laidOut (by kernel_rfl) (of_decide_eq_true (by kernel_rfl)) h0 hb fun x hx => hlt x (by simp [hx])) (Below.trod laidOut (by kernel_rfl) (of_decide_eq_true (by kernel_rfl)) h1 hb fun x hx => hlt x (by simp [hx])), rfl, hb.frame _, fun h => by cases h⟩
/-- The given statement. -/
theorem busMemory_proved : Rows.BusMemorySaid :=
  OpenClaim.holds_of_wide 4 Try.f4 rfl rfl rfl rfl rfl rfl rfl ⟨rfl, rfl, rfl, rfl, rfl⟩ rfl rfl rfl rfl rfl (by kernel_rfl) Try.func4 (by kernel_rfl)
    (of_decide_eq_true (by kernel_rfl)) (by unfold Func.isWrapper; first | (rw [if_pos (by decide +kernel)]; kernel_rfl) | (rw [if_neg (by decide +kernel)]; exact ⟨rfl, rfl⟩))
    (fun os started H enc _ => busMemory_lifted os started H enc)

end Go.Proofs.Ytnedhjaphfjdmaa
