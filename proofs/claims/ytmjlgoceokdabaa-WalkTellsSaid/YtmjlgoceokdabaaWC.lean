/- The registers and the memory as arguments: opened; the calls by letters. -/
import Derived.Test.YtmjlgoceokdabaaT
import Derived.Test.YtmjlgoceokdabaaO
import Derived.SizedLaws
import Derived.Carry
namespace Go.Proofs.Ytmjlgoceokdabaa
open Go.RowKit Go.Deep Go.Joins
open Go.WideShapes Go.ChangeShapes Go.ChangeAt
theorem cells24 : Try.prog.cellsOf 24 = 16 := by kernel_rfl
section
variable {H : Type} {enc : TypeId × Value → H} {w : World} {base : Nat} {spare : Nat → Bool} {held : Bool}
theorem open_u64 {n : Nat} {x : Value} {y : DataW H × List MemPlace} (h : DataW.trod enc Try.prog w base spare held n 22 [x] = some y) : ∃ k : Int, x = .int .u64 k ∧ U64 k := by
  obtain ⟨k, e, rfl, hk⟩ := DataW.trod_int Try.underlying22 h
  simp only [List.cons.injEq, and_true] at e
  have b := bounds_u64 hk
  exact ⟨k, e, b.1, by omega⟩
set_option maxHeartbeats 1000000 in
theorem open_csr {r : Reach} {b0 : Nat} {v : Value} {d : DataW H} {p : List MemPlace} (hv : Value.okWide Try.prog w r b0 24 v) (h : DataW.Trod enc Try.prog w base spare held 24 v d p) : ∃ C ms sp, v = .agg C ∧ CsrAt C ms sp ∧ U64 ms := by
  obtain ⟨cs, rfl, hsz⟩ := okWide_struct Try.underlying24 hv
  rw [cells24] at hsz
  obtain ⟨fuel, hf⟩ := h
  obtain ⟨xs, n, _, _, _, hlen, hg⟩ := DataW.trod_struct Try.underlying24 hf
  obtain ⟨l⟩ := cs
  match l, hsz, xs, hlen with
  | [c0, c1, c2, c3, c4, c5, c6, c7, c8, c9, c10, c11, c12, c13, c14, c15], _, [y0, y1, y2, y3, y4, y5, y6, y7, y8, y9, y10, y11, y12, y13, y14, y15], _ =>
    have g0 := hg 0 _ rfl
    have g15 := hg 15 _ rfl
    simp only [List.getElem?_cons_succ, List.getElem?_cons_zero] at g0 g15
    obtain ⟨k0, rfl, o0⟩ := open_u64 g0
    obtain ⟨k15, rfl, o15⟩ := open_u64 g15
    exact ⟨_, k0, k15, rfl, ⟨rfl, rfl, rfl⟩, o0⟩
theorem trodAll_five {t0 t1 t2 t3 t4 : TypeId} {args : Array Value} {ds : List (DataW H)} {ps : List MemPlace} (h : DataW.TrodAll enc Try.prog w base spare held [t0, t1, t2, t3, t4] args.toList ds ps) :
    ∃ v0 v1 v2 v3 v4 d0 d1 d2 d3 d4 p0 p1 p2 p3 p4, args = #[v0, v1, v2, v3, v4] ∧ ds = [d0, d1, d2, d3, d4] ∧ ps = p0 ++ p1 ++ p2 ++ p3 ++ p4 ∧ DataW.Trod enc Try.prog w base spare held t0 v0 d0 p0 ∧ DataW.Trod enc Try.prog w base spare held t1 v1 d1 p1 ∧ DataW.Trod enc Try.prog w base spare held t2 v2 d2 p2 ∧ DataW.Trod enc Try.prog w base spare held t3 v3 d3 p3 ∧ DataW.Trod enc Try.prog w base spare held t4 v4 d4 p4 := by
  obtain ⟨v0, vs0, d0, es0, p0, q0, hargs, rfl, rfl, hd0, hr0⟩ := trodAll_cons h
  obtain ⟨v1, vs1, d1, es1, p1, q1, rfl, rfl, rfl, hd1, hr1⟩ := trodAll_cons hr0
  obtain ⟨v2, vs2, d2, es2, p2, q2, rfl, rfl, rfl, hd2, hr2⟩ := trodAll_cons hr1
  obtain ⟨v3, vs3, d3, es3, p3, q3, rfl, rfl, rfl, hd3, hr3⟩ := trodAll_cons hr2
  obtain ⟨v4, vs4, d4, es4, p4, q4, rfl, rfl, rfl, hd4, hr4⟩ := trodAll_cons hr3
  obtain ⟨rfl, rfl, rfl⟩ := trodAll_nil hr4
  exact ⟨v0, v1, v2, v3, v4, d0, d1, d2, d3, d4, p0, p1, p2, p3, p4, by cases args; simp_all, rfl, by simp, hd0, hd1, hd2, hd3, hd4⟩
theorem trodAll_mk5 {t0 t1 t2 t3 t4 : TypeId} {v0 v1 v2 v3 v4 : Value} {d0 d1 d2 d3 d4 : DataW H} {p0 p1 p2 p3 p4 : List MemPlace} (h0 : DataW.Trod enc Try.prog w base spare held t0 v0 d0 p0) (h1 : DataW.Trod enc Try.prog w base spare held t1 v1 d1 p1) (h2 : DataW.Trod enc Try.prog w base spare held t2 v2 d2 p2) (h3 : DataW.Trod enc Try.prog w base spare held t3 v3 d3 p3) (h4 : DataW.Trod enc Try.prog w base spare held t4 v4 d4 p4) : DataW.TrodAll enc Try.prog w base spare held [t0, t1, t2, t3, t4] [v0, v1, v2, v3, v4] [d0, d1, d2, d3, d4] (p0 ++ (p1 ++ (p2 ++ (p3 ++ p4)))) :=
  ⟨p0, p1 ++ (p2 ++ (p3 ++ p4)), h0, trodAll_mk4 h1 h2 h3 h4, rfl⟩
theorem trodAll_six {t0 t1 t2 t3 t4 t5 : TypeId} {args : Array Value} {ds : List (DataW H)} {ps : List MemPlace} (h : DataW.TrodAll enc Try.prog w base spare held [t0, t1, t2, t3, t4, t5] args.toList ds ps) :
    ∃ v0 v1 v2 v3 v4 v5 d0 d1 d2 d3 d4 d5 p0 p1 p2 p3 p4 p5, args = #[v0, v1, v2, v3, v4, v5] ∧ ds = [d0, d1, d2, d3, d4, d5] ∧ ps = p0 ++ p1 ++ p2 ++ p3 ++ p4 ++ p5 ∧ DataW.Trod enc Try.prog w base spare held t0 v0 d0 p0 ∧ DataW.Trod enc Try.prog w base spare held t1 v1 d1 p1 ∧ DataW.Trod enc Try.prog w base spare held t2 v2 d2 p2 ∧ DataW.Trod enc Try.prog w base spare held t3 v3 d3 p3 ∧ DataW.Trod enc Try.prog w base spare held t4 v4 d4 p4 ∧ DataW.Trod enc Try.prog w base spare held t5 v5 d5 p5 := by
  obtain ⟨v0, vs0, d0, es0, p0, q0, hargs, rfl, rfl, hd0, hr0⟩ := trodAll_cons h
  obtain ⟨v1, vs1, d1, es1, p1, q1, rfl, rfl, rfl, hd1, hr1⟩ := trodAll_cons hr0
  obtain ⟨v2, vs2, d2, es2, p2, q2, rfl, rfl, rfl, hd2, hr2⟩ := trodAll_cons hr1
  obtain ⟨v3, vs3, d3, es3, p3, q3, rfl, rfl, rfl, hd3, hr3⟩ := trodAll_cons hr2
  obtain ⟨v4, vs4, d4, es4, p4, q4, rfl, rfl, rfl, hd4, hr4⟩ := trodAll_cons hr3
  obtain ⟨v5, vs5, d5, es5, p5, q5, rfl, rfl, rfl, hd5, hr5⟩ := trodAll_cons hr4
  obtain ⟨rfl, rfl, rfl⟩ := trodAll_nil hr5
  exact ⟨v0, v1, v2, v3, v4, v5, d0, d1, d2, d3, d4, d5, p0, p1, p2, p3, p4, p5, by cases args; simp_all, rfl, by simp, hd0, hd1, hd2, hd3, hd4, hd5⟩
theorem trodAll_mk6 {t0 t1 t2 t3 t4 t5 : TypeId} {v0 v1 v2 v3 v4 v5 : Value} {d0 d1 d2 d3 d4 d5 : DataW H} {p0 p1 p2 p3 p4 p5 : List MemPlace} (h0 : DataW.Trod enc Try.prog w base spare held t0 v0 d0 p0) (h1 : DataW.Trod enc Try.prog w base spare held t1 v1 d1 p1) (h2 : DataW.Trod enc Try.prog w base spare held t2 v2 d2 p2) (h3 : DataW.Trod enc Try.prog w base spare held t3 v3 d3 p3) (h4 : DataW.Trod enc Try.prog w base spare held t4 v4 d4 p4) (h5 : DataW.Trod enc Try.prog w base spare held t5 v5 d5 p5) : DataW.TrodAll enc Try.prog w base spare held [t0, t1, t2, t3, t4, t5] [v0, v1, v2, v3, v4, v5] [d0, d1, d2, d3, d4, d5] (p0 ++ (p1 ++ (p2 ++ (p3 ++ (p4 ++ p5))))) :=
  ⟨p0, p1 ++ (p2 ++ (p3 ++ (p4 ++ p5))), h0, ⟨p1, p2 ++ (p3 ++ (p4 ++ p5)), h1, trodAll_mk4 h2 h3 h4 h5, rfl⟩, rfl⟩
end
theorem find_let (C : Array Value) (dv mv : Value) (ms sp E m t kind a c : Int) (D : List UInt8) (hC : CsrAt C ms sp) (ht : U64 t) (W : World) (hd : DAt W dv D) (h : findF D ms sp m t kind = (a, c)) :
    ∀ W', Below W.heap.size W W' → Calls Try.prog 9 #[.agg C, .int .i64 m, .agg #[dv, mv, .int .u64 E], .int .u64 t, .int .i64 kind] W' fun y W'' => y = .returned (.tuple #[.int .u64 a, .int .i64 c]) ∧ Below W'.heap.size W' W'' := fun W' hb => by
  have k := find_any C #[dv, mv, .int .u64 E] ms sp m t kind D W' hC rfl ht.1 (load_ok (hd.below hb))
  rw [h] at k
  exact k

end Go.Proofs.Ytmjlgoceokdabaa
