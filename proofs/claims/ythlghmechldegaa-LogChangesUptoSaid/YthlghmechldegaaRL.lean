/- Lists of entries and logs as arguments: opened. -/
import Derived.Test.YthlghmechldegaaRE
import Derived.Test.YthlghmechldegaaK
import Derived.ChangeMaps
namespace Go.Proofs.Ythlghmechldegaa
open Go.RowKit Go.Deep Go.Joins
open Go.WideShapes Go.ChangeShapes Go.ChangeAt
theorem cells27 : Try.prog.cellsOf 27 = 10 := by kernel_rfl
theorem cells25 : Try.prog.cellsOf 25 = 1 := by kernel_rfl
theorem bytes36 : Try.prog.bytesOf 36 = 64 := by kernel_rfl
theorem list_of {P : Nat → En → Prop} : ∀ n, (∀ i, i < n → ∃ r, P i r) → ∃ O : List En, O.length = n ∧ ∀ i (h : i < O.length), P i O[i]
  | 0, _ => ⟨[], rfl, fun i h => by cases h⟩
  | n + 1, h => by
    obtain ⟨O, hl, hO⟩ := list_of n fun i hi => h i (by omega)
    obtain ⟨r, hr⟩ := h n (by omega)
    refine ⟨O ++ [r], by simp [hl], fun i hi => ?_⟩
    by_cases e : i < O.length
    · rw [List.getElem_append_left e]; exact hO i e
    · have : i = n := by simp at hi; omega
      subst this
      rw [List.getElem_append_right (by omega)]
      simpa using hr
section
variable {H : Type} {enc : TypeId × Value → H} {w : World} {base : Nat} {spare : Nat → Bool} {held : Bool}
theorem open_ents {fuel : Nat} {c : Value} {x : DataW H × List MemPlace} (h : DataW.trod enc Try.prog w base spare held fuel 25 [c] = some x) :
    ∃ O : List En, EAt w c O ∧ (∀ e ∈ O, e.i.data.size ≤ maxLen) ∧ ∀ N, (∀ k ∈ x.1.weights Try.prog 25, k ≤ N) → O.length * 64 ≤ N := by
  rcases DataW.trod_slice Try.underlying25 h with ⟨hcs, rfl⟩ | ⟨a, len, cap, elems, rest, n, _, hcs, rfl, hb, hl, hm, hlen, hel, hsp, hns⟩
  · simp only [List.cons.injEq, and_true] at hcs
    subst hcs
    exact ⟨[], ⟨rfl, .inl ⟨rfl, rfl⟩⟩, fun e he => (by cases he), fun N _ => Nat.zero_le _⟩
  · simp only [List.cons.injEq, and_true] at hcs
    subst hcs
    obtain ⟨O, hO, hP⟩ := list_of (P := fun i r => r.i.data.size ≤ maxLen ∧ ∀ j v, (enL r)[j]? = some v → w.cell? ((a.add (i * 13)).add j) = some v) len fun i hi => by
      have k := hel i hi
      rw [List.getElem?_eq_getElem (by omega), Option.bind_eq_some_iff, cells36] at k
      obtain ⟨cs', h1, h2⟩ := k
      obtain ⟨r, rfl, hz⟩ := ent_cells h2
      exact ⟨r, hz, fun j v hj => by
        have k2 := World.cells?_some h1
        exact (k2.2.2 j (by have := (List.getElem?_eq_some_iff.1 hj).1; rwa [enL_length] at this)).trans hj⟩
    refine ⟨O, ⟨eC_length O, .inr ⟨a, cap, by rw [hO], by rw [hO]; exact hl, hm, fun j u hu => ?_⟩⟩, fun e he => ?_, fun N hN => ?_⟩
    · have hj : j < O.length * 13 := by have := (List.getElem?_eq_some_iff.1 hu).1; rwa [eC_length] at this
      have hk : j / 13 < O.length := by omega
      have hu' : (enL O[j / 13])[j % 13]? = some u := by rw [← eC_get O (j / 13) hk (j % 13) (by omega), show 13 * (j / 13) + j % 13 = j by omega]; exact hu
      have := (hP (j / 13) hk).2 (j % 13) u hu'
      rwa [add_add', show j / 13 * 13 + j % 13 = j by omega] at this
    · obtain ⟨j, hj, rfl⟩ := List.getElem_of_mem he
      exact (hP j hj).1
    · have := hN _ (by simp only [DataW.weights, Try.underlying25, List.mem_cons]; exact .inl rfl)
      rw [bytes36] at this
      simp at this
      omega
theorem u64_of {n : Nat} {cs : List Value} {y : DataW H × List MemPlace} (h : DataW.trod enc Try.prog w base spare held n 22 cs = some y) : ∃ k : Int, cs = [.int .u64 k] ∧ 0 ≤ k ∧ k < 18446744073709551616 := by
  obtain ⟨k, e, rfl, hk⟩ := DataW.trod_int Try.underlying22 h
  have b := bounds_u64 hk
  exact ⟨k, e, b.1, by omega⟩
theorem open_log {r : Reach} {b0 : Nat} {v : Value} {d : DataW H} {p : List MemPlace} (hv : Value.okWide Try.prog w r b0 27 v) (h : DataW.Trod enc Try.prog w base spare held 27 v d p) :
    ∃ (l : Lg) (L : List En), v = lgV l ∧ EAt w l.lv L ∧ (∀ e ∈ L, e.i.data.size ≤ maxLen) ∧ 0 ≤ l.base ∧ ∀ N, (∀ k ∈ d.weights Try.prog 27, k ≤ N) → L.length * 64 ≤ N := by
  obtain ⟨cs0, rfl, hsz⟩ := okWide_struct Try.underlying27 hv
  rw [cells27] at hsz
  obtain ⟨fuel, hf⟩ := h
  obtain ⟨xs, n, _, hd, _, hlen, hg⟩ := DataW.trod_struct Try.underlying27 hf
  obtain ⟨rfl, rfl⟩ := Prod.mk.inj hd
  have hcs : (Value.agg cs0).cells.toList = cs0.toList := rfl
  obtain ⟨cs, hc⟩ : ∃ cs, cs = cs0.toList := ⟨_, rfl⟩
  have hl : cs.length = 10 := by rw [hc]; simp [hsz]
  rw [hcs, ← hc] at hg
  match xs, hlen with
  | [y0, y1, y2, y3], _ =>
    have g0 : DataW.trod enc Try.prog w base spare held n 22 ((cs.drop 0).take (Try.prog.cellsOf 22)) = some y0 := hg 0 _ rfl
    have g1 : DataW.trod enc Try.prog w base spare held n 22 ((cs.drop 1).take (Try.prog.cellsOf 22)) = some y1 := hg 1 _ rfl
    have g2 : DataW.trod enc Try.prog w base spare held n 24 ((cs.drop 2).take (Try.prog.cellsOf 24)) = some y2 := hg 2 _ rfl
    have g3 : DataW.trod enc Try.prog w base spare held n 25 ((cs.drop 9).take (Try.prog.cellsOf 25)) = some y3 := hg 3 _ rfl
    obtain ⟨a, e0, ha, _⟩ := u64_of g0
    obtain ⟨b, e1, _⟩ := u64_of g1
    obtain ⟨f, e2⟩ := set_cells g2
    have l3 : (cs.drop 9).take (Try.prog.cellsOf 25) = [cs[9]'(by omega)] := by
      rw [cells25, List.drop_eq_getElem_cons (show 9 < cs.length by omega)]
      rfl
    rw [l3] at g3
    obtain ⟨O, hO, hz, wO⟩ := open_ents g3
    rw [cells22] at e0 e1
    rw [cells24] at e2
    rw [cells25] at l3
    refine ⟨⟨a, b, f, cs[9]'(by omega)⟩, O, ?_, hO, hz, ha, fun N hN => wO N fun k hk => hN k ?_⟩
    · have e : cs = lgL ⟨a, b, f, cs[9]'(by omega)⟩ := by
        have k0 := cut_list cs 0 1
        have k1 := cut_list cs 1 1
        have k2 := cut_list cs 2 7
        have k3 := cut_list cs 9 1
        have z : cs.drop 10 = [] := List.drop_eq_nil_of_le (by omega)
        rw [show 9 + 1 = 10 from rfl, z, l3] at k3
        rw [show 2 + 7 = 9 from rfl, k3, e2] at k2
        rw [show 1 + 1 = 2 from rfl, k2, e1] at k1
        rw [show 0 + 1 = 1 from rfl, k1, e0] at k0
        exact k0
      show Value.agg cs0 = .agg (lgC _)
      unfold lgC
      rw [← e, hc]
    · simp [DataW.weights, Try.underlying27, DataW.weightsEach, hk]
end
end Go.Proofs.Ythlghmechldegaa
