/- BusPlays, the given statement: reads and writes through the bus, one behind the other, tell what the document says and leave the machine that it says, with the interrupt lines that it says, of every machine and every list of looks; and a copy is the same machine: for every input, with no condition. -/
import Derived.Test.YtnedhjaphfjdmaaYQI
import Derived.Test.YtnedhjaphfjdmaaYOE
import Derived.Test.YtnedhjaphfjdmaaRows
import Derived.SizedLaws
import Derived.Carry
namespace Go.Proofs.Ytnedhjaphfjdmaa
open Go.RowKit Go.Deep Go.Joins Go.WideShapes Go.ChangeShapes Go.ChangeAt
theorem cells52 : Try.prog.cellsOf 52 = 4 := by kernel_rfl
theorem looks_of {P : Nat → Lk → Prop} : ∀ n, (∀ i, i < n → ∃ r, P i r) → ∃ O : List Lk, O.length = n ∧ ∀ i (h : i < O.length), P i O[i]
  | 0, _ => ⟨[], rfl, fun i h => by cases h⟩
  | n + 1, h => by
    obtain ⟨O, hl, hO⟩ := looks_of n fun i hi => h i (by omega)
    obtain ⟨r, hr⟩ := h n (by omega)
    refine ⟨O ++ [r], by simp [hl], fun i hi => ?_⟩
    by_cases e : i < O.length
    · rw [List.getElem_append_left e]; exact hO i e
    · have : i = n := by simp at hi; omega
      subst this
      rw [List.getElem_append_right (by omega)]
      simpa using hr
section
variable {H : Type} {enc : TypeId × Value → H} {w : World} {base : Nat} {spare : Nat → Bool} {held : Bool}
set_option maxRecDepth 100000 in
theorem open_lk {n : Nat} {cs : List Value} {y : DataW H × List MemPlace} (h : DataW.trod enc Try.prog w base spare held n 52 cs = some y) : ∃ r : Lk, cs = lkL r ∧ U64 r.1 ∧ U64 r.2.2.1 := by
  obtain ⟨xs, m, _, _, hlen, hxs, hg⟩ := DataW.trod_struct Try.underlying52 h
  rw [cells52] at hlen
  match cs, hlen, xs, hxs with
  | [c0, c1, c2, c3], _, [y0, y1, y2, y3], _ =>
    have g0 : DataW.trod enc Try.prog w base spare held m 22 (([c0, c1, c2, c3].drop 0).take (Try.prog.cellsOf 22)) = some y0 := hg 0 _ rfl
    have g1 : DataW.trod enc Try.prog w base spare held m 3 (([c0, c1, c2, c3].drop 1).take (Try.prog.cellsOf 3)) = some y1 := hg 1 _ rfl
    have g2 : DataW.trod enc Try.prog w base spare held m 22 (([c0, c1, c2, c3].drop 2).take (Try.prog.cellsOf 22)) = some y2 := hg 2 _ rfl
    have g3 : DataW.trod enc Try.prog w base spare held m 4 (([c0, c1, c2, c3].drop 3).take (Try.prog.cellsOf 4)) = some y3 := hg 3 _ rfl
    rw [cells22] at g0 g2
    rw [cells3] at g1
    rw [cells4] at g3
    obtain ⟨k0, e0, o0⟩ := open_u64 g0
    obtain ⟨k1, e1, _, _⟩ := DataW.trod_int Try.underlying3 g1
    obtain ⟨k2, e2, o2⟩ := open_u64 g2
    obtain ⟨k3, e3, _⟩ := DataW.trod_bool Try.underlying4 g3
    simp at e0 e1 e2 e3
    exact ⟨(k0, k1, k2, k3), by rw [e0, e1, e2, e3]; rfl, o0, o2⟩
theorem open_lks {fuel : Nat} {c : Value} {x : DataW H × List MemPlace} (h : DataW.trod enc Try.prog w base spare held fuel 43 [c] = some x) :
    ∃ (L : List Lk) (q : Option Addr) (n : Nat), c = .slice q L.length n ∧ Reads w (.slice q L.length n) 4 L.length (lkR L) ∧ ∀ l ∈ L, U64 l.1 ∧ U64 l.2.2.1 := by
  rcases DataW.trod_slice Try.underlying43 h with ⟨hcs, rfl⟩ | ⟨a, len, cap, elems, rest, n, _, hcs, rfl, hb, hl, hm, hlen, hel, hsp, hns⟩
  · simp only [List.cons.injEq, and_true] at hcs
    subst hcs
    exact ⟨[], none, 0, rfl, ⟨rfl, .inl ⟨rfl, rfl⟩⟩, fun l hl => by cases hl⟩
  · simp only [List.cons.injEq, and_true] at hcs
    subst hcs
    obtain ⟨O, hO, hP⟩ := looks_of (P := fun i r => (∀ j v, (lkL r)[j]? = some v → w.cell? ((a.add (i * 4)).add j) = some v) ∧ U64 r.1 ∧ U64 r.2.2.1) len fun i hi => by
      have k := hel i hi
      rw [List.getElem?_eq_getElem (by omega), Option.bind_eq_some_iff, cells52] at k
      obtain ⟨cs', h1, h2⟩ := k
      obtain ⟨r, rfl, u1, u2⟩ := open_lk h2
      exact ⟨r, fun j v hj => by
        have k2 := World.cells?_some h1
        exact (k2.2.2 j (by have := (List.getElem?_eq_some_iff.1 hj).1; simpa [lkL] using this)).trans hj, u1, u2⟩
    refine ⟨O, some a, cap, by rw [hO], ⟨lkR_length O, .inr ⟨a, cap, rfl, by rw [hO]; exact hl, hm, fun j u hu => ?_⟩⟩, fun l hl => ?_⟩
    · have hj : j < O.length * 4 := by have := (List.getElem?_eq_some_iff.1 hu).1; rwa [lkR_length] at this
      have hk : j / 4 < O.length := by omega
      have hu' : (lkL O[j / 4])[j % 4]? = some u := by rw [← lkR_get O (j / 4) hk (j % 4) (by omega), show 4 * (j / 4) + j % 4 = j by omega]; exact hu
      have := (hP (j / 4) hk).1 (j % 4) u hu'
      rwa [Addr.add_add, show j / 4 * 4 + j % 4 = j by omega] at this
    · obtain ⟨i, hi, rfl⟩ := List.getElem_of_mem hl
      exact (hP i hi).2
end
theorem ok_play {m : Mc} {q : Pt} (ok : OkB m.b) (hs : ∀ s ∈ q.F, s.size ≤ maxLen) (hN : q.F.length * 16 ≤ 140737488351232 ∧ q.D.length ≤ 140737488351232 ∧ q.M.length * 8 ≤ 140737488351232 ∧ q.O.length * 32 ≤ 140737488351232) : POk m q ∧ q.O.length * 32 ≤ 140737488351232 :=
  ⟨⟨⟨ok.addr, ok.nicA, ok.sector⟩, ok.pl.c, (fun f hf => by have := hs f hf; unfold maxLen at this; omega), by omega, hN.2.1, by omega⟩, hN.2.2.2⟩
set_option maxRecDepth 100000 in
theorem busPlays_lifted (os : Os) (started : os.Started) (H : Type) (enc : TypeId × Value → H) :
    ReturnsInHanded {} Try.checked os 3 .any (Rows.busPlaysSpec.pre6 enc Try.prog Try.f3 Rows.busPlaysRow.domain false) (Rows.busPlaysSpec.post enc Try.prog Try.f3 false true false false) := by
  refine returnsInHanded_of_change_sized (C := Try.checked) own started (by kernel_rfl) Try.func3
    (ChangeSpec.witness6 (enc := enc) (C := Try.checked) false ⟨#[], #[.agg Try.zeroCells42, .slice none 0 0], []⟩ 8 (by kernel_rfl) (by kernel_rfl) (by kernel_rfl) (by kernel_rfl)) ?_
  intro W base args ds gs before hval0 hW hcnd hsz _
  have hW' := hW
  obtain ⟨p, q, hA0, hV, rfl, hfz, hnd⟩ := hW
  have hval : ∀ (j : Nat) t v, Try.f3.params[j]? = some t → args[j]? = some v → Value.okWide Try.prog W .any base t v := hval0
  have hA : DataW.TrodAll enc Try.prog W 0 (fun _ => true) true Try.f3.params.toList args.toList ds p := hA0
  rw [Try.params3] at hA hval
  obtain ⟨v0, v1, d0, d1, p0, p1, rfl, rfl, rfl, h0, h1⟩ := trodAll_two hA
  obtain ⟨rfl, rfl⟩ := trodVars_none hV
  have hlt : ∀ x ∈ p0 ++ p1, x.block < W.heap.size := fun x hx => hW'.lt x (by simpa using hx)
  obtain ⟨m, q, rfl, hr, ok, hs, hwt⟩ := open_machine (hval 0 42 v0 rfl rfl) h0
  have hN : ∀ x ∈ d0.weights Try.prog 42, x ≤ 140737488351232 := fun x hx => by
    have := List.all_eq_true.1 hsz x (by
      show x ∈ DataW.weightsEach Try.prog (Try.f3.params.toList ++ _) _
      rw [Try.params3]
      simp [DataW.weightsEach, hx])
    exact of_decide_eq_true this
  obtain ⟨hok, hO⟩ := ok_play ok hs (hwt _ hN)
  obtain ⟨L, lq, lc, rfl, hL, hu⟩ := (show ∃ (L : List Lk) (q : Option Addr) (n : Nat), v1 = .slice q L.length n ∧ Reads W (.slice q L.length n) 4 L.length (lkR L) ∧ ∀ l ∈ L, U64 l.1 ∧ U64 l.2.2.1 from by
    obtain ⟨fuel, hf⟩ := h1
    obtain ⟨q, n, c, rfl⟩ := okWide_slice Try.underlying43 (hval 1 43 v1 rfl rfl)
    exact open_lks hf)
  simp only [List.append_nil] at hW'
  refine (plays_walk m q L lq lc W hr hok ⟨ok.pl.e0, ok.pl.e1⟩ hO hL hu).mono fun e W' ⟨he, hb⟩ => ?_
  subst he
  refine ⟨_, rfl, _, _, _, [], p0 ++ p1, [], hW', trodAll_mk1 (shut_bool Try.underlying4 _), trodAll_mk2 (Below.trod laidOut (by kernel_rfl) (of_decide_eq_true (by kernel_rfl)) h0 hb fun x hx => hlt x (by simp [hx])) (Below.trod laidOut (by kernel_rfl) (of_decide_eq_true (by kernel_rfl)) h1 hb fun x hx => hlt x (by simp [hx])), rfl, hb.frame _, fun h => by cases h⟩
/-- The given statement. -/
theorem busPlays_proved : Rows.BusPlaysSaid :=
  OpenClaim.holds_of_wide 3 Try.f3 rfl rfl rfl rfl rfl rfl rfl ⟨rfl, rfl, rfl, rfl, rfl⟩ rfl rfl rfl rfl rfl (by kernel_rfl) Try.func3 (by kernel_rfl)
    (of_decide_eq_true (by kernel_rfl)) (by unfold Func.isWrapper; first | (rw [if_pos (by decide +kernel)]; kernel_rfl) | (rw [if_neg (by decide +kernel)]; exact ⟨rfl, rfl⟩))
    (fun os started H enc _ => busPlays_lifted os started H enc)

end Go.Proofs.Ytnedhjaphfjdmaa
