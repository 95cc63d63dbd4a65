/- A board as an argument: opened. -/
import Derived.Test.YtmbaimcneffnlaaVV
import Derived.Test.YtmbaimcneffnlaaO
import Derived.SliceStrings
import Derived.SizedLaws
import Derived.Carry
namespace Go.Proofs.Ytmbaimcneffnlaa
open Go.RowKit Go.Deep Go.Joins
open Go.WideShapes Go.ChangeShapes Go.ChangeAt
theorem cells30 : Try.prog.cellsOf 30 = 21 := by kernel_rfl
theorem cells28 : Try.prog.cellsOf 28 = 9 := by kernel_rfl
theorem cells25 : Try.prog.cellsOf 25 = 4 := by kernel_rfl
theorem cells26 : Try.prog.cellsOf 26 = 2 := by kernel_rfl
theorem cells24 : Try.prog.cellsOf 24 = 1 := by kernel_rfl
theorem cells23 : Try.prog.cellsOf 23 = 1 := by kernel_rfl
theorem cells9 : Try.prog.cellsOf 9 = 1 := by kernel_rfl
theorem cells4 : Try.prog.cellsOf 4 = 1 := by kernel_rfl
theorem cells3 : Try.prog.cellsOf 3 = 1 := by kernel_rfl
theorem cells32 : Try.prog.cellsOf 32 = 3 := by kernel_rfl
theorem cells42 : Try.prog.cellsOf 42 = 2 := by kernel_rfl
theorem bytes9 : Try.prog.bytesOf 9 = 16 := by kernel_rfl
theorem cut_list {α : Type} (l : List α) (a k : Nat) : l.drop a = (l.drop a).take k ++ l.drop (a + k) := by
  rw [← List.drop_drop, List.take_append_drop]
def U64 (x : Int) : Prop := 0 ≤ x ∧ x ≤ 18446744073709551615
/-- Numbers of a board that came in. -/
structure OkB (b : Bd) : Prop where
  cmp : U64 b.cmp
  sector : U64 b.sector
  addr : U64 b.addr
  nicA : U64 b.nicA
  nicL : U64 b.nicL
  inn : b.inn.size ≤ maxLen
  sec : b.sec.size ≤ maxLen
section
variable {H : Type} {enc : TypeId × Value → H} {w : World} {base : Nat} {spare : Nat → Bool} {held : Bool}
theorem open_u64 {n : Nat} {cs : List Value} {y : DataW H × List MemPlace} (h : DataW.trod enc Try.prog w base spare held n 22 cs = some y) : ∃ k : Int, cs = [.int .u64 k] ∧ U64 k := by
  obtain ⟨k, e, rfl, hk⟩ := DataW.trod_int Try.underlying22 h
  have b := bounds_u64 hk
  exact ⟨k, e, b.1, b.2⟩
theorem open_u32 {n : Nat} {cs : List Value} {y : DataW H × List MemPlace} (h : DataW.trod enc Try.prog w base spare held n 24 cs = some y) : ∃ k : Int, cs = [.int .u32 k] := by
  obtain ⟨k, e, _, _⟩ := DataW.trod_int Try.underlying24 h
  exact ⟨k, e⟩
theorem open_p4 {n : Nat} {cs : List Value} {y : DataW H × List MemPlace} (h : DataW.trod enc Try.prog w base spare held n 25 cs = some y) : ∃ a b c d : Int, cs = [.int .u32 a, .int .u32 b, .int .u32 c, .int .u32 d] := by
  obtain ⟨xs, m, _, _, hlen, hxs, hg⟩ := DataW.trod_array Try.underlying25 h
  rw [cells25] at hlen
  match cs, hlen, xs, hxs with
  | [c0, c1, c2, c3], _, [y0, y1, y2, y3], _ =>
    have g0 := hg 0 (by omega)
    have g1 := hg 1 (by omega)
    have g2 := hg 2 (by omega)
    have g3 := hg 3 (by omega)
    rw [cells24] at g0 g1 g2 g3
    obtain ⟨k0, e0⟩ := open_u32 (y := y0) (by simpa using g0)
    obtain ⟨k1, e1⟩ := open_u32 (y := y1) (by simpa using g1)
    obtain ⟨k2, e2⟩ := open_u32 (y := y2) (by simpa using g2)
    obtain ⟨k3, e3⟩ := open_u32 (y := y3) (by simpa using g3)
    simp only [List.cons.injEq, and_true] at e0 e1 e2 e3
    exact ⟨k0, k1, k2, k3, by rw [e0, e1, e2, e3]⟩
theorem open_p2 {n : Nat} {cs : List Value} {y : DataW H × List MemPlace} (h : DataW.trod enc Try.prog w base spare held n 26 cs = some y) : ∃ a b : Int, cs = [.int .u32 a, .int .u32 b] := by
  obtain ⟨xs, m, _, _, hlen, hxs, hg⟩ := DataW.trod_array Try.underlying26 h
  rw [cells26] at hlen
  match cs, hlen, xs, hxs with
  | [c0, c1], _, [y0, y1], _ =>
    have g0 := hg 0 (by omega)
    have g1 := hg 1 (by omega)
    rw [cells24] at g0 g1
    obtain ⟨k0, e0⟩ := open_u32 (y := y0) (by simpa using g0)
    obtain ⟨k1, e1⟩ := open_u32 (y := y1) (by simpa using g1)
    simp only [List.cons.injEq, and_true] at e0 e1
    exact ⟨k0, k1, by rw [e0, e1]⟩
theorem open_pl {n : Nat} {cs : List Value} {y : DataW H × List MemPlace} (h : DataW.trod enc Try.prog w base spare held n 28 cs = some y) : ∃ p : Pl, cs = plL p := by
  obtain ⟨xs, m, _, _, hlen, hxs, hg⟩ := DataW.trod_struct Try.underlying28 h
  rw [cells28] at hlen
  match xs, hxs with
  | [y0, y1, y2, y3], _ =>
    have g0 : DataW.trod enc Try.prog w base spare held m 25 ((cs.drop 0).take (Try.prog.cellsOf 25)) = some y0 := hg 0 _ rfl
    have g1 : DataW.trod enc Try.prog w base spare held m 26 ((cs.drop 4).take (Try.prog.cellsOf 26)) = some y1 := hg 1 _ rfl
    have g2 : DataW.trod enc Try.prog w base spare held m 26 ((cs.drop 6).take (Try.prog.cellsOf 26)) = some y2 := hg 2 _ rfl
    have g3 : DataW.trod enc Try.prog w base spare held m 24 ((cs.drop 8).take (Try.prog.cellsOf 24)) = some y3 := hg 3 _ rfl
    obtain ⟨a0, a1, a2, a3, e0⟩ := open_p4 g0
    obtain ⟨b0, b1, e1⟩ := open_p2 g1
    obtain ⟨c0, c1, e2⟩ := open_p2 g2
    obtain ⟨d0, e3⟩ := open_u32 g3
    rw [cells25] at e0
    rw [cells26] at e1 e2
    rw [cells24] at e3
    refine ⟨⟨a0, a1, a2, a3, b0, b1, c0, c1, d0⟩, ?_⟩
    have k0 := cut_list cs 0 4
    have k1 := cut_list cs 4 2
    have k2 := cut_list cs 6 2
    have k3 := cut_list cs 8 1
    have z : cs.drop 9 = [] := List.drop_eq_nil_of_le (by omega)
    rw [show 8 + 1 = 9 from rfl, z, e3] at k3
    rw [show 6 + 2 = 8 from rfl, k3, e2] at k2
    rw [show 4 + 2 = 6 from rfl, k2, e1] at k1
    rw [show 0 + 4 = 4 from rfl, k1, e0] at k0
    exact k0
theorem open_f {fuel : Nat} {c : Value} {x : DataW H × List MemPlace} (h : DataW.trod enc Try.prog w base spare held fuel 23 [c] = some x) :
    ∃ F, FAt w c F ∧ (∀ s ∈ F, s.size ≤ maxLen) ∧ ∀ N, (∀ k ∈ x.1.weights Try.prog 23, k ≤ N) → F.length * 16 ≤ N := by
  rcases open_strings Try.underlying23 Try.underlying9 cells9 h with ⟨hcs, rfl⟩ | ⟨a, len, cap, ss, hcs, _, hl, hm, hz, rfl, hcell, hsz⟩
  · simp only [List.cons.injEq, and_true] at hcs
    subst hcs
    exact ⟨[], ⟨rfl, .inl ⟨rfl, rfl⟩⟩, fun s hs => by (cases hs), fun N _ => Nat.zero_le _⟩
  · simp only [List.cons.injEq, and_true] at hcs
    subst hcs
    have hlen : len ≤ ss.length := by rw [hz]; split <;> omega
    have hDl : (ss.take len).length = len := by simp; omega
    refine ⟨ss.take len, ⟨by rw [sC_length, Nat.mul_one], .inr ⟨a, cap, by rw [hDl], by rw [hDl]; exact hl, hm, fun j u hu => ?_⟩⟩, fun s hs => hsz s (List.mem_of_mem_take hs), fun N hN => ?_⟩
    · have hj : j < len := by
        have := (List.getElem?_eq_some_iff.1 hu).1
        rw [sC_length, hDl] at this
        exact this
      rw [hcell j (by omega), ← hu]
      simp only [sC, List.getElem?_map, List.getElem?_take_of_lt hj, List.getElem?_eq_getElem (show j < ss.length by omega), List.getD_eq_getElem?_getD, Option.map_some, Option.getD_some]
    · have := hN _ (by simp only [DataW.weights, Try.underlying23, List.mem_cons]; exact .inl rfl)
      rw [bytes9] at this
      simp [strs] at this
      rw [hDl]
      omega
theorem open_board {r : Reach} {b0 : Nat} {v : Value} {d : DataW H} {p : List MemPlace} (hv : Value.okWide Try.prog w r b0 30 v) (h : DataW.Trod enc Try.prog w base spare held 30 v d p) :
    ∃ b F, v = bdV b ∧ FAt w (.slice b.fp b.fn b.fc) F ∧ (∀ s ∈ F, s.size ≤ maxLen) ∧ OkB b ∧ ∀ N, (∀ k ∈ d.weights Try.prog 30, k ≤ N) → F.length * 16 ≤ N := by
  obtain ⟨cs, rfl, hsz⟩ := okWide_struct Try.underlying30 hv
  rw [cells30] at hsz
  obtain ⟨fuel, hf⟩ := h
  obtain ⟨xs, n, _, hd, _, hlen, hg⟩ := DataW.trod_struct Try.underlying30 hf
  obtain ⟨rfl, rfl⟩ := Prod.mk.inj hd
  match xs, hlen with
  | [y0, y1, y2, y3, y4, y5, y6, y7, y8, y9, y10, y11, y12], _ =>
    have g0 : DataW.trod enc Try.prog w base spare held n 4 (((Value.agg cs).cells.toList.drop 0).take (Try.prog.cellsOf 4)) = some y0 := hg 0 _ rfl
    have g1 : DataW.trod enc Try.prog w base spare held n 22 (((Value.agg cs).cells.toList.drop 1).take (Try.prog.cellsOf 22)) = some y1 := hg 1 _ rfl
    have g2 : DataW.trod enc Try.prog w base spare held n 9 (((Value.agg cs).cells.toList.drop 2).take (Try.prog.cellsOf 9)) = some y2 := hg 2 _ rfl
    have g3 : DataW.trod enc Try.prog w base spare held n 4 (((Value.agg cs).cells.toList.drop 3).take (Try.prog.cellsOf 4)) = some y3 := hg 3 _ rfl
    have g4 : DataW.trod enc Try.prog w base spare held n 9 (((Value.agg cs).cells.toList.drop 4).take (Try.prog.cellsOf 9)) = some y4 := hg 4 _ rfl
    have g5 : DataW.trod enc Try.prog w base spare held n 22 (((Value.agg cs).cells.toList.drop 5).take (Try.prog.cellsOf 22)) = some y5 := hg 5 _ rfl
    have g6 : DataW.trod enc Try.prog w base spare held n 22 (((Value.agg cs).cells.toList.drop 6).take (Try.prog.cellsOf 22)) = some y6 := hg 6 _ rfl
    have g7 : DataW.trod enc Try.prog w base spare held n 4 (((Value.agg cs).cells.toList.drop 7).take (Try.prog.cellsOf 4)) = some y7 := hg 7 _ rfl
    have g8 : DataW.trod enc Try.prog w base spare held n 4 (((Value.agg cs).cells.toList.drop 8).take (Try.prog.cellsOf 4)) = some y8 := hg 8 _ rfl
    have g9 : DataW.trod enc Try.prog w base spare held n 23 (((Value.agg cs).cells.toList.drop 9).take (Try.prog.cellsOf 23)) = some y9 := hg 9 _ rfl
    have g10 : DataW.trod enc Try.prog w base spare held n 22 (((Value.agg cs).cells.toList.drop 10).take (Try.prog.cellsOf 22)) = some y10 := hg 10 _ rfl
    have g11 : DataW.trod enc Try.prog w base spare held n 22 (((Value.agg cs).cells.toList.drop 11).take (Try.prog.cellsOf 22)) = some y11 := hg 11 _ rfl
    have g12 : DataW.trod enc Try.prog w base spare held n 28 (((Value.agg cs).cells.toList.drop 12).take (Try.prog.cellsOf 28)) = some y12 := hg 12 _ rfl
    obtain ⟨k0, e0, _⟩ := DataW.trod_bool Try.underlying4 g0
    rw [cells4] at e0
    obtain ⟨k1, e1, o1⟩ := open_u64 g1
    rw [cells22] at e1
    obtain ⟨k2, e2, _, o2⟩ := DataW.trod_string Try.underlying9 g2
    rw [cells9] at e2
    obtain ⟨k3, e3, _⟩ := DataW.trod_bool Try.underlying4 g3
    rw [cells4] at e3
    obtain ⟨k4, e4, _, o4⟩ := DataW.trod_string Try.underlying9 g4
    rw [cells9] at e4
    obtain ⟨k5, e5, o5⟩ := open_u64 g5
    rw [cells22] at e5
    obtain ⟨k6, e6, o6⟩ := open_u64 g6
    rw [cells22] at e6
    obtain ⟨k7, e7, _⟩ := DataW.trod_bool Try.underlying4 g7
    rw [cells4] at e7
    obtain ⟨k8, e8, _⟩ := DataW.trod_bool Try.underlying4 g8
    rw [cells4] at e8
    have l9 : ((Value.agg cs).cells.toList.drop 9).take (Try.prog.cellsOf 23) = [cs[9]'(by omega)] := by
      rw [cells23, List.drop_eq_getElem_cons (show 9 < (Value.agg cs).cells.toList.length by show 9 < cs.toList.length; simp [hsz])]
      rfl
    rw [l9] at g9
    obtain ⟨F, hF, hFs, hw⟩ := open_f g9
    obtain ⟨q, cap, hq⟩ := hF.is
    have e9 : ((Value.agg cs).cells.toList.drop 9).take 1 = [.slice q F.length cap] := by rw [← hq, ← l9, cells23]
    obtain ⟨k10, e10, o10⟩ := open_u64 g10
    rw [cells22] at e10
    obtain ⟨k11, e11, o11⟩ := open_u64 g11
    rw [cells22] at e11
    obtain ⟨k12, e12⟩ := open_pl g12
    rw [cells28] at e12
    refine ⟨⟨k0, k1, k2, k3, k4, k5, k6, k7, k8, q, F.length, cap, k10, k11, k12⟩, F, ?_, hq ▸ hF, hFs, ⟨o1, o5, o6, o10, o11, o2, o4⟩, fun N hN => hw N fun k hk => hN k ?_⟩
    · have e : cs.toList = bdL ⟨k0, k1, k2, k3, k4, k5, k6, k7, k8, q, F.length, cap, k10, k11, k12⟩ ++ plL k12 := by
        have a0 := cut_list (Value.cells (.agg cs)).toList 0 1
        have a1 := cut_list (Value.cells (.agg cs)).toList 1 1
        have a2 := cut_list (Value.cells (.agg cs)).toList 2 1
        have a3 := cut_list (Value.cells (.agg cs)).toList 3 1
        have a4 := cut_list (Value.cells (.agg cs)).toList 4 1
        have a5 := cut_list (Value.cells (.agg cs)).toList 5 1
        have a6 := cut_list (Value.cells (.agg cs)).toList 6 1
        have a7 := cut_list (Value.cells (.agg cs)).toList 7 1
        have a8 := cut_list (Value.cells (.agg cs)).toList 8 1
        have a9 := cut_list (Value.cells (.agg cs)).toList 9 1
        have a10 := cut_list (Value.cells (.agg cs)).toList 10 1
        have a11 := cut_list (Value.cells (.agg cs)).toList 11 1
        have a12 := cut_list (Value.cells (.agg cs)).toList 12 9
        have z : (Value.cells (.agg cs)).toList.drop 21 = [] := List.drop_eq_nil_of_le (by show cs.toList.length ≤ 21; simp [hsz])
        rw [show 12 + 9 = 21 from rfl, z, e12] at a12
        rw [show 11 + 1 = 12 from rfl, a12, e11] at a11
        rw [show 10 + 1 = 11 from rfl, a11, e10] at a10
        rw [show 9 + 1 = 10 from rfl, a10, e9] at a9
        rw [show 8 + 1 = 9 from rfl, a9, e8] at a8
        rw [show 7 + 1 = 8 from rfl, a8, e7] at a7
        rw [show 6 + 1 = 7 from rfl, a7, e6] at a6
        rw [show 5 + 1 = 6 from rfl, a6, e5] at a5
        rw [show 4 + 1 = 5 from rfl, a5, e4] at a4
        rw [show 3 + 1 = 4 from rfl, a4, e3] at a3
        rw [show 2 + 1 = 3 from rfl, a3, e2] at a2
        rw [show 1 + 1 = 2 from rfl, a2, e1] at a1
        rw [show 0 + 1 = 1 from rfl, a1, e0] at a0
        rw [List.append_nil] at a0
        exact a0
      show Value.agg cs = .agg (bdC _)
      unfold bdC
      rw [← e]
    · simp [DataW.weights, Try.underlying30, DataW.weightsEach, hk]
theorem open_look {r : Reach} {b0 : Nat} {v : Value} {d : DataW H} {p : List MemPlace} (hv : Value.okWide Try.prog w r b0 32 v) (h : DataW.Trod enc Try.prog w base spare held 32 v d p) : ∃ t s x, v = .agg (lookC t s x) ∧ U64 t ∧ U64 x := by
  obtain ⟨c0, c1, c2, y0, y1, y2, n, rfl, rfl, rfl, h0, h1, h2⟩ := open_agg3 Try.underlying32 (by kernel_rfl) cells32 hv h
  obtain ⟨t, e0, u0⟩ := open_u64 h0
  obtain ⟨s, e1, _, _⟩ := DataW.trod_int Try.underlying3 h1
  obtain ⟨x, e2, u2⟩ := open_u64 h2
  simp only [List.cons.injEq, and_true] at e0 e1 e2
  exact ⟨t, s, x, by rw [e0, e1, e2], u0, u2⟩
theorem trodAll_three' {t0 t1 t2 : TypeId} {args : Array Value} {ds : List (DataW H)} {ps : List MemPlace} (h : DataW.TrodAll enc Try.prog w base spare held [t0, t1, t2] args.toList ds ps) :
    ∃ v0 v1 v2 d0 d1 d2 p0 p1 p2, args = #[v0, v1, v2] ∧ ds = [d0, d1, d2] ∧ ps = p0 ++ p1 ++ p2 ∧ DataW.Trod enc Try.prog w base spare held t0 v0 d0 p0 ∧ DataW.Trod enc Try.prog w base spare held t1 v1 d1 p1 ∧ DataW.Trod enc Try.prog w base spare held t2 v2 d2 p2 := by
  obtain ⟨v0, vs0, d0, es0, p0, q0, hargs, rfl, rfl, hd0, hr0⟩ := trodAll_cons h
  obtain ⟨v1, vs1, d1, es1, p1, q1, rfl, rfl, rfl, hd1, hr1⟩ := trodAll_cons hr0
  obtain ⟨v2, vs2, d2, es2, p2, q2, rfl, rfl, rfl, hd2, hr2⟩ := trodAll_cons hr1
  obtain ⟨rfl, rfl, rfl⟩ := trodAll_nil hr2
  exact ⟨v0, v1, v2, d0, d1, d2, p0, p1, p2, by cases args; simp_all, rfl, by simp, hd0, hd1, hd2⟩
theorem trodAll_five {t0 t1 t2 t3 t4 : TypeId} {args : Array Value} {ds : List (DataW H)} {ps : List MemPlace} (h : DataW.TrodAll enc Try.prog w base spare held [t0, t1, t2, t3, t4] args.toList ds ps) :
    ∃ v0 v1 v2 v3 v4 d0 d1 d2 d3 d4 p0 p1 p2 p3 p4, args = #[v0, v1, v2, v3, v4] ∧ ds = [d0, d1, d2, d3, d4] ∧ ps = p0 ++ p1 ++ p2 ++ p3 ++ p4 ∧ DataW.Trod enc Try.prog w base spare held t0 v0 d0 p0 ∧ DataW.Trod enc Try.prog w base spare held t1 v1 d1 p1 ∧ DataW.Trod enc Try.prog w base spare held t2 v2 d2 p2 ∧ DataW.Trod enc Try.prog w base spare held t3 v3 d3 p3 ∧ DataW.Trod enc Try.prog w base spare held t4 v4 d4 p4 := by
  obtain ⟨v0, vs0, d0, es0, p0, q0, hargs, rfl, rfl, hd0, hr0⟩ := trodAll_cons h
  obtain ⟨v1, vs1, d1, es1, p1, q1, rfl, rfl, rfl, hd1, hr1⟩ := trodAll_cons hr0
  obtain ⟨v2, vs2, d2, es2, p2, q2, rfl, rfl, rfl, hd2, hr2⟩ := trodAll_cons hr1
  obtain ⟨v3, vs3, d3, es3, p3, q3, rfl, rfl, rfl, hd3, hr3⟩ := trodAll_cons hr2
  obtain ⟨v4, vs4, d4, es4, p4, q4, rfl, rfl, rfl, hd4, hr4⟩ := trodAll_cons hr3
  obtain ⟨rfl, rfl, rfl⟩ := trodAll_nil hr4
  exact ⟨v0, v1, v2, v3, v4, d0, d1, d2, d3, d4, p0, p1, p2, p3, p4, by cases args; simp_all, rfl, by simp, hd0, hd1, hd2, hd3, hd4⟩
theorem trodAll_mk5 {t0 t1 t2 t3 t4 : TypeId} {v0 v1 v2 v3 v4 : Value} {d0 d1 d2 d3 d4 : DataW H} {p0 p1 p2 p3 p4 : List MemPlace} (h0 : DataW.Trod enc Try.prog w base spare held t0 v0 d0 p0) (h1 : DataW.Trod enc Try.prog w base spare held t1 v1 d1 p1) (h2 : DataW.Trod enc Try.prog w base spare held t2 v2 d2 p2) (h3 : DataW.Trod enc Try.prog w base spare held t3 v3 d3 p3) (h4 : DataW.Trod enc Try.prog w base spare held t4 v4 d4 p4) : DataW.TrodAll enc Try.prog w base spare held [t0, t1, t2, t3, t4] [v0, v1, v2, v3, v4] [d0, d1, d2, d3, d4] (p0 ++ (p1 ++ (p2 ++ (p3 ++ p4)))) :=
  ⟨p0, p1 ++ (p2 ++ (p3 ++ p4)), h0, trodAll_mk4 h1 h2 h3 h4, rfl⟩
end

end Go.Proofs.Ytmbaimcneffnlaa
