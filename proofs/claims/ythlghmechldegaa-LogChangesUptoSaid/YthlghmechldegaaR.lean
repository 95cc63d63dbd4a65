/- Sets and numbers as arguments: opened. -/
import Derived.Test.YthlghmechldegaaB
import Derived.SizedLaws
import Derived.Carry
namespace Go.Proofs.Ythlghmechldegaa
open Go.RowKit Go.Deep Go.Joins
open Go.WideShapes Go.ChangeShapes Go.ChangeAt
theorem cells24 : Try.prog.cellsOf 24 = 7 := by kernel_rfl
theorem cells54 : Try.prog.cellsOf 54 = 7 := by kernel_rfl
theorem cellsB : Try.prog.cellsOf 4 = 1 := by kernel_rfl
theorem cells22 : Try.prog.cellsOf 22 = 1 := by kernel_rfl
theorem laidOut : laidOutB Try.prog = true := by kernel_rfl
theorem okWide_arr {P : Program} {w : World} {r : Reach} {base : Nat} {t e : TypeId} {n : Nat} {v : Value} (ht : P.underlying t = some (.array n e)) (h : Value.okWide P w r base t v) : ∃ cs, v = .agg cs ∧ cs.size = P.cellsOf t := by
  simp only [Value.okWide, ht] at h
  obtain ⟨cs, h1, h2, _⟩ := h
  exact ⟨cs, h1, h2⟩
def bools (a b c d e f g : Bool) : Nat → Bool := fun i => match i with | 0 => a | 1 => b | 2 => c | 3 => d | 4 => e | 5 => f | _ => g
def nums (a b c d e f g : Int) : Nat → Int := fun i => match i with | 0 => a | 1 => b | 2 => c | 3 => d | 4 => e | 5 => f | _ => g
section
variable {H : Type} {enc : TypeId × Value → H} {w : World} {base : Nat} {spare : Nat → Bool} {held : Bool}
theorem seven_parts {n : Nat} {t e : TypeId} {cs : List Value} {y : DataW H × List MemPlace} {P : Value → Prop} (ht : Try.prog.underlying t = some (.array 7 e)) (hc : Try.prog.cellsOf t = 7) (he : Try.prog.cellsOf e = 1) (hP : ∀ m c z, DataW.trod enc Try.prog w base spare held m e [c] = some z → P c)
    (h : DataW.trod enc Try.prog w base spare held n t cs = some y) : ∃ a b c d e f g, cs = [a, b, c, d, e, f, g] ∧ P a ∧ P b ∧ P c ∧ P d ∧ P e ∧ P f ∧ P g := by
  obtain ⟨xs, m, _, _, hlen, hxs, hg⟩ := DataW.trod_array ht h
  rw [hc] at hlen
  match cs, hlen, xs, hxs with
  | [c0, c1, c2, c3, c4, c5, c6], _, [y0, y1, y2, y3, y4, y5, y6], _ =>
    have g0 := hg 0 (by omega)
    have g1 := hg 1 (by omega)
    have g2 := hg 2 (by omega)
    have g3 := hg 3 (by omega)
    have g4 := hg 4 (by omega)
    have g5 := hg 5 (by omega)
    have g6 := hg 6 (by omega)
    rw [he] at g0 g1 g2 g3 g4 g5 g6
    exact ⟨c0, c1, c2, c3, c4, c5, c6, rfl, hP m _ y0 (by simpa using g0), hP m _ y1 (by simpa using g1), hP m _ y2 (by simpa using g2), hP m _ y3 (by simpa using g3), hP m _ y4 (by simpa using g4), hP m _ y5 (by simpa using g5), hP m _ y6 (by simpa using g6)⟩
theorem set_cells {n : Nat} {cs : List Value} {y : DataW H × List MemPlace} (h : DataW.trod enc Try.prog w base spare held n 24 cs = some y) : ∃ f : Nat → Bool, cs = setL f := by
  obtain ⟨a, b, c, d, e, f, g, rfl, ⟨xa, rfl⟩, ⟨xb, rfl⟩, ⟨xc, rfl⟩, ⟨xd, rfl⟩, ⟨xe, rfl⟩, ⟨xf, rfl⟩, ⟨xg, rfl⟩⟩ := seven_parts (P := fun v => ∃ x, v = .bool x) Try.underlying24 cells24 cellsB (fun m c z hz => by
    obtain ⟨b, e, _⟩ := DataW.trod_bool Try.underlying4 hz
    exact ⟨b, by simpa using e⟩) h
  exact ⟨bools xa xb xc xd xe xf xg, rfl⟩
theorem num_cells {n : Nat} {cs : List Value} {y : DataW H × List MemPlace} (h : DataW.trod enc Try.prog w base spare held n 54 cs = some y) : ∃ f : Nat → Int, cs = numL f := by
  obtain ⟨a, b, c, d, e, f, g, rfl, ⟨xa, rfl⟩, ⟨xb, rfl⟩, ⟨xc, rfl⟩, ⟨xd, rfl⟩, ⟨xe, rfl⟩, ⟨xf, rfl⟩, ⟨xg, rfl⟩⟩ := seven_parts (P := fun v => ∃ x, v = .int .u64 x) Try.underlying54 cells54 cells22 (fun m c z hz => by
    obtain ⟨b, e, _⟩ := DataW.trod_int Try.underlying22 hz
    exact ⟨b, by simpa using e⟩) h
  exact ⟨nums xa xb xc xd xe xf xg, rfl⟩
theorem open_set {r : Reach} {b0 : Nat} {v : Value} {d : DataW H} {p : List MemPlace} (hv : Value.okWide Try.prog w r b0 24 v) (h : DataW.Trod enc Try.prog w base spare held 24 v d p) : ∃ f, v = setV f := by
  obtain ⟨cs, rfl, hsz⟩ := okWide_arr Try.underlying24 hv
  obtain ⟨fuel, hf⟩ := h
  obtain ⟨f, e⟩ := set_cells hf
  refine ⟨f, ?_⟩
  have e2 : cs.toList = setL f := e
  show Value.agg cs = .agg (setC f)
  unfold setC
  rw [← e2]
theorem open_nums {r : Reach} {b0 : Nat} {v : Value} {d : DataW H} {p : List MemPlace} (hv : Value.okWide Try.prog w r b0 54 v) (h : DataW.Trod enc Try.prog w base spare held 54 v d p) : ∃ f, v = numV f := by
  obtain ⟨cs, rfl, hsz⟩ := okWide_arr Try.underlying54 hv
  obtain ⟨fuel, hf⟩ := h
  obtain ⟨f, e⟩ := num_cells hf
  refine ⟨f, ?_⟩
  have e2 : cs.toList = numL f := e
  show Value.agg cs = .agg (numC f)
  unfold numC
  rw [← e2]
theorem trodAll_four {t0 t1 t2 t3 : TypeId} {args : Array Value} {ds : List (DataW H)} {ps : List MemPlace} (h : DataW.TrodAll enc Try.prog w base spare held [t0, t1, t2, t3] args.toList ds ps) :
    ∃ v0 v1 v2 v3 d0 d1 d2 d3 p0 p1 p2 p3, args = #[v0, v1, v2, v3] ∧ ds = [d0, d1, d2, d3] ∧ ps = p0 ++ p1 ++ p2 ++ p3 ∧ DataW.Trod enc Try.prog w base spare held t0 v0 d0 p0 ∧ DataW.Trod enc Try.prog w base spare held t1 v1 d1 p1 ∧ DataW.Trod enc Try.prog w base spare held t2 v2 d2 p2 ∧ DataW.Trod enc Try.prog w base spare held t3 v3 d3 p3 := by
  obtain ⟨v0, vs0, d0, es0, p0, q0, hargs, rfl, rfl, hd0, hr0⟩ := trodAll_cons h
  obtain ⟨v1, vs1, d1, es1, p1, q1, rfl, rfl, rfl, hd1, hr1⟩ := trodAll_cons hr0
  obtain ⟨v2, vs2, d2, es2, p2, q2, rfl, rfl, rfl, hd2, hr2⟩ := trodAll_cons hr1
  obtain ⟨v3, vs3, d3, es3, p3, q3, rfl, rfl, rfl, hd3, hr3⟩ := trodAll_cons hr2
  obtain ⟨rfl, rfl, rfl⟩ := trodAll_nil hr3
  exact ⟨v0, v1, v2, v3, d0, d1, d2, d3, p0, p1, p2, p3, by cases args; simp_all, rfl, by simp, hd0, hd1, hd2, hd3⟩
end
end Go.Proofs.Ythlghmechldegaa
