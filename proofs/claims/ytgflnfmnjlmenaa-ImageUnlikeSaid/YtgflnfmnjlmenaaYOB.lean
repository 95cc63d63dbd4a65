/- Arguments opened. -/
import Derived.Test.YtgflnfmnjlmenaaYBU
import Derived.Test.YtgflnfmnjlmenaaYRW
import Derived.Test.YtgflnfmnjlmenaaYPS
import Derived.SliceStrings
import Derived.SizedLaws
import Derived.Carry
namespace Go.Proofs.Ytgflnfmnjlmenaa
open Go.RowKit Go.Deep Go.Joins Go.WideShapes Go.ChangeShapes Go.ChangeAt
theorem own : ownKnob Try.prog.godebug = none := by kernel_rfl
theorem laidOut : laidOutB Try.prog = true := by kernel_rfl
theorem cells39 : Try.prog.cellsOf 39 = 3 := by kernel_rfl
theorem cells5 : Try.prog.cellsOf 5 = 1 := by kernel_rfl
theorem cells22 : Try.prog.cellsOf 22 = 1 := by kernel_rfl
theorem bytes5 : Try.prog.bytesOf 5 = 1 := by kernel_rfl
theorem bytes22 : Try.prog.bytesOf 22 = 8 := by kernel_rfl
def toB (zs : List Int) : List UInt8 := zs.map fun n => UInt8.ofNat n.toNat
theorem toB_get (zs : List Int) (i : Nat) (h : i < zs.length) (hw : ∀ n ∈ zs, 0 ≤ n ∧ n ≤ 255) : (dC (toB zs))[i]? = some (.int .u8 (zs.getD i 0)) := by
  have h2 := hw zs[i] (List.getElem_mem _)
  have e : zs.getD i 0 = zs[i] := by rw [List.getD_eq_getElem?_getD, List.getElem?_eq_getElem h]; rfl
  rw [e]
  simp only [dC, toB, List.getElem?_map, List.getElem?_eq_getElem h, Option.map_some]
  congr 2
  rw [UInt8.toNat_ofNat']
  omega
section
variable {H : Type} {enc : TypeId × Value → H} {w : World} {base : Nat} {spare : Nat → Bool} {held : Bool}
theorem open_d {fuel : Nat} {c : Value} {x : DataW H × List MemPlace} (h : DataW.trod enc Try.prog w base spare held fuel 36 [c] = some x) :
    ∃ D, DAt w c D ∧ ∀ N, (∀ k ∈ x.1.weights Try.prog 36, k ≤ N) → D.length ≤ N := by
  rcases open_ints Try.underlying36 Try.underlying5 cells5 h with ⟨hcs, rfl⟩ | ⟨a, len, cap, zs, hcs, _, hl, hm, hz, rfl, hcell, hwf⟩
  · simp only [List.cons.injEq, and_true] at hcs
    subst hcs
    exact ⟨[], ⟨rfl, .inl ⟨rfl, rfl⟩⟩, fun N _ => Nat.zero_le _⟩
  · simp only [List.cons.injEq, and_true] at hcs
    subst hcs
    have hlen : len ≤ zs.length := by rw [hz]; split <;> omega
    have hb : ∀ n ∈ zs, 0 ≤ n ∧ n ≤ 255 := fun n hn => bounds_u8 (hwf n hn)
    have hDl : (toB (zs.take len)).length = len := by simp [toB]; omega
    refine ⟨toB (zs.take len), ⟨by rw [dC_length, Nat.mul_one], .inr ⟨a, cap, by rw [hDl], by rw [hDl]; exact hl, hm, fun j u hu => ?_⟩⟩, fun N hN => ?_⟩
    · have hj : j < len := by
        have := (List.getElem?_eq_some_iff.1 hu).1
        rw [dC_length, hDl] at this
        exact this
      rw [toB_get _ j (by simp; omega) (fun n hn => hb n (List.mem_of_mem_take hn))] at hu
      rw [hcell j (by omega), ← Option.some.inj hu, List.getD_eq_getElem?_getD, List.getD_eq_getElem?_getD, List.getElem?_take_of_lt hj]
    · have := hN _ (by simp only [DataW.weights, Try.underlying36, List.mem_cons]; exact .inl rfl)
      rw [bytes5] at this
      simp [lits] at this
      rw [hDl]
      omega
theorem open_m {fuel : Nat} {c : Value} {x : DataW H × List MemPlace} (h : DataW.trod enc Try.prog w base spare held fuel 37 [c] = some x) :
    ∃ M, MAt w c M ∧ (∀ n ∈ M, 0 ≤ n ∧ n ≤ 18446744073709551615) ∧ ∀ N, (∀ k ∈ x.1.weights Try.prog 37, k ≤ N) → M.length * 8 ≤ N := by
  rcases open_ints Try.underlying37 Try.underlying22 cells22 h with ⟨hcs, rfl⟩ | ⟨a, len, cap, zs, hcs, _, hl, hm, hz, rfl, hcell, hwf⟩
  · simp only [List.cons.injEq, and_true] at hcs
    subst hcs
    exact ⟨[], ⟨rfl, .inl ⟨rfl, rfl⟩⟩, fun n hn => by (cases hn), fun N _ => Nat.zero_le _⟩
  · simp only [List.cons.injEq, and_true] at hcs
    subst hcs
    have hlen : len ≤ zs.length := by rw [hz]; split <;> omega
    have hb : ∀ n ∈ zs, 0 ≤ n ∧ n ≤ 18446744073709551615 := fun n hn => bounds_u64 (hwf n hn)
    have hDl : (zs.take len).length = len := by simp; omega
    refine ⟨zs.take len, ⟨by rw [mC_length, Nat.mul_one], .inr ⟨a, cap, by rw [hDl], by rw [hDl]; exact hl, hm, fun j u hu => ?_⟩⟩, fun n hn => hb n (List.mem_of_mem_take hn), fun N hN => ?_⟩
    · have hj : j < len := by
        have := (List.getElem?_eq_some_iff.1 hu).1
        rw [mC_length, hDl] at this
        exact this
      rw [hcell j (by omega), ← hu]
      simp only [mC, List.getElem?_map, List.getElem?_take_of_lt hj, List.getElem?_eq_getElem (show j < zs.length by omega), List.getD_eq_getElem?_getD, Option.map_some, Option.getD_some]
    · have := hN _ (by simp only [DataW.weights, Try.underlying37, List.mem_cons]; exact .inl rfl)
      rw [bytes22] at this
      simp [lits] at this
      rw [hDl]
      omega
end
end Go.Proofs.Ytgflnfmnjlmenaa
namespace Go.Proofs.Ytgflnfmnjlmenaa.Pc
set_option maxRecDepth 100000
open Go.RowKit Go.Deep Go.Joins
open Go.WideShapes Go.ChangeShapes Go.ChangeAt
theorem cells33 : Try.prog.cellsOf 33 = 9 := by kernel_rfl
theorem cells30 : Try.prog.cellsOf 30 = 4 := by kernel_rfl
theorem cells31 : Try.prog.cellsOf 31 = 2 := by kernel_rfl
theorem cells29 : Try.prog.cellsOf 29 = 1 := by kernel_rfl
theorem laidOut : laidOutB Try.prog = true := by kernel_rfl
theorem cut_list {α : Type} (l : List α) (a k : Nat) : l.drop a = (l.drop a).take k ++ l.drop (a + k) := by
  rw [← List.drop_drop, List.take_append_drop]
section
variable {H : Type} {enc : TypeId × Value → H} {w : World} {base : Nat} {spare : Nat → Bool} {held : Bool}
theorem open_u32 {n : Nat} {cs : List Value} {y : DataW H × List MemPlace} (h : DataW.trod enc Try.prog w base spare held n 29 cs = some y) : ∃ k : Int, cs = [.int .u32 k] ∧ U32 k := by
  obtain ⟨k, e, rfl, hk⟩ := DataW.trod_int Try.underlying29 h
  have b := bounds_u32 hk
  exact ⟨k, e, b.1, by omega⟩
theorem open_p4 {n : Nat} {cs : List Value} {y : DataW H × List MemPlace} (h : DataW.trod enc Try.prog w base spare held n 30 cs = some y) : ∃ a b c d : Int, cs = [.int .u32 a, .int .u32 b, .int .u32 c, .int .u32 d] ∧ U32 a ∧ U32 b ∧ U32 c ∧ U32 d := by
  obtain ⟨xs, m, _, _, hlen, hxs, hg⟩ := DataW.trod_array Try.underlying30 h
  rw [cells30] at hlen
  match cs, hlen, xs, hxs with
  | [c0, c1, c2, c3], _, [y0, y1, y2, y3], _ =>
    have g0 := hg 0 (by omega)
    have g1 := hg 1 (by omega)
    have g2 := hg 2 (by omega)
    have g3 := hg 3 (by omega)
    rw [cells29] at g0 g1 g2 g3
    obtain ⟨k0, e0, o0⟩ := open_u32 (y := y0) (by simpa using g0)
    obtain ⟨k1, e1, o1⟩ := open_u32 (y := y1) (by simpa using g1)
    obtain ⟨k2, e2, o2⟩ := open_u32 (y := y2) (by simpa using g2)
    obtain ⟨k3, e3, o3⟩ := open_u32 (y := y3) (by simpa using g3)
    simp only [List.cons.injEq, and_true] at e0 e1 e2 e3
    exact ⟨k0, k1, k2, k3, by rw [e0, e1, e2, e3], o0, o1, o2, o3⟩
theorem open_p2 {n : Nat} {cs : List Value} {y : DataW H × List MemPlace} (h : DataW.trod enc Try.prog w base spare held n 31 cs = some y) : ∃ a b : Int, cs = [.int .u32 a, .int .u32 b] ∧ U32 a ∧ U32 b := by
  obtain ⟨xs, m, _, _, hlen, hxs, hg⟩ := DataW.trod_array Try.underlying31 h
  rw [cells31] at hlen
  match cs, hlen, xs, hxs with
  | [c0, c1], _, [y0, y1], _ =>
    have g0 := hg 0 (by omega)
    have g1 := hg 1 (by omega)
    rw [cells29] at g0 g1
    obtain ⟨k0, e0, o0⟩ := open_u32 (y := y0) (by simpa using g0)
    obtain ⟨k1, e1, o1⟩ := open_u32 (y := y1) (by simpa using g1)
    simp only [List.cons.injEq, and_true] at e0 e1
    exact ⟨k0, k1, by rw [e0, e1], o0, o1⟩
theorem open_cells {n : Nat} {cs : List Value} {y : DataW H × List MemPlace} (h : DataW.trod enc Try.prog w base spare held n 33 cs = some y) : ∃ p : Pl, cs = plL p ∧ Ok p := by
  obtain ⟨xs, m, _, _, hlen, hxs, hg⟩ := DataW.trod_struct Try.underlying33 h
  rw [cells33] at hlen
  match xs, hxs with
  | [y0, y1, y2, y3], _ =>
    have g0 : DataW.trod enc Try.prog w base spare held m 30 ((cs.drop 0).take (Try.prog.cellsOf 30)) = some y0 := hg 0 _ rfl
    have g1 : DataW.trod enc Try.prog w base spare held m 31 ((cs.drop 4).take (Try.prog.cellsOf 31)) = some y1 := hg 1 _ rfl
    have g2 : DataW.trod enc Try.prog w base spare held m 31 ((cs.drop 6).take (Try.prog.cellsOf 31)) = some y2 := hg 2 _ rfl
    have g3 : DataW.trod enc Try.prog w base spare held m 29 ((cs.drop 8).take (Try.prog.cellsOf 29)) = some y3 := hg 3 _ rfl
    obtain ⟨a0, a1, a2, a3, e0, oa0, oa1, oa2, oa3⟩ := open_p4 g0
    obtain ⟨b0, b1, e1, ob0, ob1⟩ := open_p2 g1
    obtain ⟨c0, c1, e2, oc0, oc1⟩ := open_p2 g2
    obtain ⟨d0, e3, od0⟩ := open_u32 g3
    rw [cells30] at e0
    rw [cells31] at e1 e2
    rw [cells29] at e3
    refine ⟨⟨a0, a1, a2, a3, b0, b1, c0, c1, d0⟩, ?_, ⟨oa0, oa1, oa2, oa3, ob0, ob1, oc0, oc1, od0⟩⟩
    have k0 := cut_list cs 0 4
    have k1 := cut_list cs 4 2
    have k2 := cut_list cs 6 2
    have k3 := cut_list cs 8 1
    have z : cs.drop 9 = [] := List.drop_eq_nil_of_le (by omega)
    rw [show 8 + 1 = 9 from rfl, z, e3] at k3
    rw [show 6 + 2 = 8 from rfl, k3, e2] at k2
    rw [show 4 + 2 = 6 from rfl, k2, e1] at k1
    rw [show 0 + 4 = 4 from rfl, k1, e0] at k0
    exact k0
theorem open_plic {r : Reach} {b0 : Nat} {v : Value} {d : DataW H} {p : List MemPlace} (hv : Value.okWide Try.prog w r b0 33 v) (h : DataW.Trod enc Try.prog w base spare held 33 v d p) : ∃ q : Pl, v = plV q ∧ Ok q := by
  obtain ⟨cs, rfl, hsz⟩ := okWide_struct Try.underlying33 hv
  obtain ⟨fuel, hf⟩ := h
  obtain ⟨q, e, ok⟩ := open_cells hf
  refine ⟨q, ?_, ok⟩
  have e2 : cs.toList = plL q := e
  show Value.agg cs = .agg (plC q)
  unfold plC
  rw [← e2]
theorem trodAll_six {t0 t1 t2 t3 t4 t5 : TypeId} {args : Array Value} {ds : List (DataW H)} {ps : List MemPlace} (h : DataW.TrodAll enc Try.prog w base spare held [t0, t1, t2, t3, t4, t5] args.toList ds ps) :
    ∃ v0 v1 v2 v3 v4 v5 d0 d1 d2 d3 d4 d5 p0 p1 p2 p3 p4 p5, args = #[v0, v1, v2, v3, v4, v5] ∧ ds = [d0, d1, d2, d3, d4, d5] ∧ ps = p0 ++ p1 ++ p2 ++ p3 ++ p4 ++ p5 ∧ DataW.Trod enc Try.prog w base spare held t0 v0 d0 p0 ∧ DataW.Trod enc Try.prog w base spare held t1 v1 d1 p1 ∧ DataW.Trod enc Try.prog w base spare held t2 v2 d2 p2 ∧ DataW.Trod enc Try.prog w base spare held t3 v3 d3 p3 ∧ DataW.Trod enc Try.prog w base spare held t4 v4 d4 p4 ∧ DataW.Trod enc Try.prog w base spare held t5 v5 d5 p5 := by
  obtain ⟨v0, vs0, d0, es0, p0, q0, hargs, rfl, rfl, hd0, hr0⟩ := trodAll_cons h
  obtain ⟨v1, vs1, d1, es1, p1, q1, rfl, rfl, rfl, hd1, hr1⟩ := trodAll_cons hr0
  obtain ⟨v2, vs2, d2, es2, p2, q2, rfl, rfl, rfl, hd2, hr2⟩ := trodAll_cons hr1
  obtain ⟨v3, vs3, d3, es3, p3, q3, rfl, rfl, rfl, hd3, hr3⟩ := trodAll_cons hr2
  obtain ⟨v4, vs4, d4, es4, p4, q4, rfl, rfl, rfl, hd4, hr4⟩ := trodAll_cons hr3
  obtain ⟨v5, vs5, d5, es5, p5, q5, rfl, rfl, rfl, hd5, hr5⟩ := trodAll_cons hr4
  obtain ⟨rfl, rfl, rfl⟩ := trodAll_nil hr5
  exact ⟨v0, v1, v2, v3, v4, v5, d0, d1, d2, d3, d4, d5, p0, p1, p2, p3, p4, p5, by cases args; simp_all, rfl, by simp, hd0, hd1, hd2, hd3, hd4, hd5⟩
theorem trodAll_mk6 {t0 t1 t2 t3 t4 t5 : TypeId} {v0 v1 v2 v3 v4 v5 : Value} {d0 d1 d2 d3 d4 d5 : DataW H} {p0 p1 p2 p3 p4 p5 : List MemPlace} (h0 : DataW.Trod enc Try.prog w base spare held t0 v0 d0 p0) (h1 : DataW.Trod enc Try.prog w base spare held t1 v1 d1 p1) (h2 : DataW.Trod enc Try.prog w base spare held t2 v2 d2 p2) (h3 : DataW.Trod enc Try.prog w base spare held t3 v3 d3 p3) (h4 : DataW.Trod enc Try.prog w base spare held t4 v4 d4 p4) (h5 : DataW.Trod enc Try.prog w base spare held t5 v5 d5 p5) : DataW.TrodAll enc Try.prog w base spare held [t0, t1, t2, t3, t4, t5] [v0, v1, v2, v3, v4, v5] [d0, d1, d2, d3, d4, d5] (p0 ++ (p1 ++ (p2 ++ (p3 ++ (p4 ++ p5))))) :=
  ⟨p0, p1 ++ (p2 ++ (p3 ++ (p4 ++ p5))), h0, ⟨p1, p2 ++ (p3 ++ (p4 ++ p5)), h1, trodAll_mk4 h2 h3 h4 h5, rfl⟩, rfl⟩
end

end Go.Proofs.Ytgflnfmnjlmenaa.Pc
