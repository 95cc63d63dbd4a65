/- An entry as an argument: opened. -/
import Derived.Test.YthlghmechldegaaR
import Derived.Test.YthlghmechldegaaG
namespace Go.Proofs.Ythlghmechldegaa
open Go.RowKit Go.Deep Go.Joins
open Go.WideShapes Go.ChangeShapes Go.ChangeAt
theorem cells36 : Try.prog.cellsOf 36 = 13 := by kernel_rfl
theorem cells34 : Try.prog.cellsOf 34 = 4 := by kernel_rfl
theorem cells3 : Try.prog.cellsOf 3 = 1 := by kernel_rfl
theorem cells9 : Try.prog.cellsOf 9 = 1 := by kernel_rfl
theorem cut_list {α : Type} (l : List α) (a k : Nat) : l.drop a = (l.drop a).take k ++ l.drop (a + k) := by
  rw [← List.drop_drop, List.take_append_drop]
section
variable {H : Type} {enc : TypeId × Value → H} {w : World} {base : Nat} {spare : Nat → Bool} {held : Bool}
theorem one_u64 {n : Nat} {cs : List Value} {y : DataW H × List MemPlace} (h : DataW.trod enc Try.prog w base spare held n 22 cs = some y) : ∃ k : Int, cs = [.int .u64 k] := by
  obtain ⟨k, e, _, _⟩ := DataW.trod_int Try.underlying22 h
  exact ⟨k, e⟩
theorem one_int {n : Nat} {cs : List Value} {y : DataW H × List MemPlace} (h : DataW.trod enc Try.prog w base spare held n 3 cs = some y) : ∃ k : Int, cs = [.int .i64 k] := by
  obtain ⟨k, e, _, _⟩ := DataW.trod_int Try.underlying3 h
  exact ⟨k, e⟩
theorem in_cells {n : Nat} {cs : List Value} {y : DataW H × List MemPlace} (h : DataW.trod enc Try.prog w base spare held n 34 cs = some y) : ∃ i : In, cs = inL i ∧ i.data.size ≤ maxLen := by
  obtain ⟨xs, m, _, _, hlen, hxs, hg⟩ := DataW.trod_struct Try.underlying34 h
  rw [cells34] at hlen
  match xs, hxs with
  | [y0, y1, y2, y3], _ =>
    have g0 : DataW.trod enc Try.prog w base spare held m 22 ((cs.drop 0).take (Try.prog.cellsOf 22)) = some y0 := hg 0 _ rfl
    have g1 : DataW.trod enc Try.prog w base spare held m 3 ((cs.drop 1).take (Try.prog.cellsOf 3)) = some y1 := hg 1 _ rfl
    have g2 : DataW.trod enc Try.prog w base spare held m 3 ((cs.drop 2).take (Try.prog.cellsOf 3)) = some y2 := hg 2 _ rfl
    have g3 : DataW.trod enc Try.prog w base spare held m 9 ((cs.drop 3).take (Try.prog.cellsOf 9)) = some y3 := hg 3 _ rfl
    obtain ⟨a, e0⟩ := one_u64 g0
    obtain ⟨b, e1⟩ := one_int g1
    obtain ⟨c, e2⟩ := one_int g2
    obtain ⟨s, e3, _, hs⟩ := DataW.trod_string Try.underlying9 g3
    rw [cells22] at e0
    rw [cells3] at e1 e2
    rw [cells9] at e3
    refine ⟨⟨a, b, c, s⟩, ?_, hs⟩
    have k0 := cut_list cs 0 1
    have k1 := cut_list cs 1 1
    have k2 := cut_list cs 2 1
    have k3 := cut_list cs 3 1
    have z : cs.drop 4 = [] := List.drop_eq_nil_of_le (by omega)
    rw [show 3 + 1 = 4 from rfl, z, e3] at k3
    rw [show 2 + 1 = 3 from rfl, k3, e2] at k2
    rw [show 1 + 1 = 2 from rfl, k2, e1] at k1
    rw [show 0 + 1 = 1 from rfl, k1, e0] at k0
    exact k0
theorem ent_cells {n : Nat} {cs : List Value} {y : DataW H × List MemPlace} (h : DataW.trod enc Try.prog w base spare held n 36 cs = some y) : ∃ e : En, cs = enL e ∧ e.i.data.size ≤ maxLen := by
  obtain ⟨xs, m, _, _, hlen, hxs, hg⟩ := DataW.trod_struct Try.underlying36 h
  rw [cells36] at hlen
  match xs, hxs with
  | [y0, y1, y2, y3], _ =>
    have g0 : DataW.trod enc Try.prog w base spare held m 22 ((cs.drop 0).take (Try.prog.cellsOf 22)) = some y0 := hg 0 _ rfl
    have g1 : DataW.trod enc Try.prog w base spare held m 3 ((cs.drop 1).take (Try.prog.cellsOf 3)) = some y1 := hg 1 _ rfl
    have g2 : DataW.trod enc Try.prog w base spare held m 34 ((cs.drop 2).take (Try.prog.cellsOf 34)) = some y2 := hg 2 _ rfl
    have g3 : DataW.trod enc Try.prog w base spare held m 24 ((cs.drop 6).take (Try.prog.cellsOf 24)) = some y3 := hg 3 _ rfl
    obtain ⟨a, e0⟩ := one_u64 g0
    obtain ⟨b, e1⟩ := one_int g1
    obtain ⟨i, e2, hs⟩ := in_cells g2
    obtain ⟨f, e3⟩ := set_cells g3
    rw [cells22] at e0
    rw [cells3] at e1
    rw [cells34] at e2
    rw [cells24] at e3
    refine ⟨⟨a, b, i, f⟩, ?_, hs⟩
    have k0 := cut_list cs 0 1
    have k1 := cut_list cs 1 1
    have k2 := cut_list cs 2 4
    have k3 := cut_list cs 6 7
    have z : cs.drop 13 = [] := List.drop_eq_nil_of_le (by omega)
    rw [show 6 + 7 = 13 from rfl, z, e3] at k3
    rw [show 2 + 4 = 6 from rfl, k3, e2] at k2
    rw [show 1 + 1 = 2 from rfl, k2, e1] at k1
    rw [show 0 + 1 = 1 from rfl, k1, e0] at k0
    exact k0
theorem open_ent {r : Reach} {b0 : Nat} {v : Value} {d : DataW H} {p : List MemPlace} (hv : Value.okWide Try.prog w r b0 36 v) (h : DataW.Trod enc Try.prog w base spare held 36 v d p) : ∃ e, v = enV e ∧ e.i.data.size ≤ maxLen := by
  obtain ⟨cs, rfl, hsz⟩ := okWide_struct Try.underlying36 hv
  obtain ⟨fuel, hf⟩ := h
  obtain ⟨e, he, hz⟩ := ent_cells hf
  refine ⟨e, ?_, hz⟩
  have e2 : cs.toList = enL e := he
  show Value.agg cs = .agg (enC e)
  unfold enC
  rw [← e2]
end
end Go.Proofs.Ythlghmechldegaa
