/- Arguments opened. Arguments opened. Arguments opened. Arguments opened. Arguments opened. -/
import Derived.Test.YtjohcpokmdofkaaGreatDoorYBX
import Derived.SliceStrings
import Derived.SizedLaws
import Derived.Carry
namespace Go.Proofs.YtjohcpokmdofkaaGreatDoor
open Go.RowKit Go.Deep Go.Joins Go.WideShapes Go.ChangeShapes Go.ChangeAt
theorem own : ownKnob Tryz.prog.godebug = none := by kernel_rfl
theorem laidOut : laidOutB Tryz.prog = true := by kernel_rfl
theorem cells39 : Tryz.prog.cellsOf 39 = 3 := by kernel_rfl
theorem cells5 : Tryz.prog.cellsOf 5 = 1 := by kernel_rfl
theorem cells22 : Tryz.prog.cellsOf 22 = 1 := by kernel_rfl
theorem bytes5 : Tryz.prog.bytesOf 5 = 1 := by kernel_rfl
theorem bytes22 : Tryz.prog.bytesOf 22 = 8 := by kernel_rfl
def toB (zs : List Int) : List UInt8 := zs.map fun n => UInt8.ofNat n.toNat
theorem toB_get (zs : List Int) (i : Nat) (h : i < zs.length) (hw : ∀ n ∈ zs, 0 ≤ n ∧ n ≤ 255) : (dC (toB zs))[i]? = some (.int .u8 (zs.getD i 0)) := by
  have h2 := hw zs[i] (List.getElem_mem _)
  have e : zs.getD i 0 = zs[i] := by rw [List.getD_eq_getElem?_getD, List.getElem?_eq_getElem h]; rfl
  rw [e]
  simp only [dC, toB, List.getElem?_map, List.getElem?_eq_getElem h, Option.map_some]
  congr 2
  rw [UInt8.toNat_ofNat']
  omega
section
variable {H : Type} {enc : TypeId × Value → H} {w : World} {base : Nat} {spare : Nat → Bool} {held : Bool}
theorem open_d {fuel : Nat} {c : Value} {x : DataW H × List MemPlace} (h : DataW.trod enc Tryz.prog w base spare held fuel 36 [c] = some x) :
    ∃ D, DAt w c D ∧ ∀ N, (∀ k ∈ x.1.weights Tryz.prog 36, k ≤ N) → D.length ≤ N := by
  rcases open_ints Tryz.underlying36 Tryz.underlying5 cells5 h with ⟨hcs, rfl⟩ | ⟨a, len, cap, zs, hcs, _, hl, hm, hz, rfl, hcell, hwf⟩
  · simp only [List.cons.injEq, and_true] at hcs
    subst hcs
    exact ⟨[], ⟨rfl, .inl ⟨rfl, rfl⟩⟩, fun N _ => Nat.zero_le _⟩
  · simp only [List.cons.injEq, and_true] at hcs
    subst hcs
    have hlen : len ≤ zs.length := by rw [hz]; split <;> omega
    have hb : ∀ n ∈ zs, 0 ≤ n ∧ n ≤ 255 := fun n hn => bounds_u8 (hwf n hn)
    have hDl : (toB (zs.take len)).length = len := by simp [toB]; omega
    refine ⟨toB (zs.take len), ⟨by rw [dC_length, Nat.mul_one], .inr ⟨a, cap, by rw [hDl], by rw [hDl]; exact hl, hm, fun j u hu => ?_⟩⟩, fun N hN => ?_⟩
    · have hj : j < len := by
        have := (List.getElem?_eq_some_iff.1 hu).1
        rw [dC_length, hDl] at this
        exact this
      rw [toB_get _ j (by simp; omega) (fun n hn => hb n (List.mem_of_mem_take hn))] at hu
      rw [hcell j (by omega), ← Option.some.inj hu, List.getD_eq_getElem?_getD, List.getD_eq_getElem?_getD, List.getElem?_take_of_lt hj]
    · have := hN _ (by simp only [DataW.weights, Tryz.underlying36, List.mem_cons]; exact .inl rfl)
      rw [bytes5] at this
      simp [lits] at this
      rw [hDl]
      omega
theorem open_m {fuel : Nat} {c : Value} {x : DataW H × List MemPlace} (h : DataW.trod enc Tryz.prog w base spare held fuel 37 [c] = some x) :
    ∃ M, MAt w c M ∧ (∀ n ∈ M, 0 ≤ n ∧ n ≤ 18446744073709551615) ∧ ∀ N, (∀ k ∈ x.1.weights Tryz.prog 37, k ≤ N) → M.length * 8 ≤ N := by
  rcases open_ints Tryz.underlying37 Tryz.underlying22 cells22 h with ⟨hcs, rfl⟩ | ⟨a, len, cap, zs, hcs, _, hl, hm, hz, rfl, hcell, hwf⟩
  · simp only [List.cons.injEq, and_true] at hcs
    subst hcs
    exact ⟨[], ⟨rfl, .inl ⟨rfl, rfl⟩⟩, fun n hn => by (cases hn), fun N _ => Nat.zero_le _⟩
  · simp only [List.cons.injEq, and_true] at hcs
    subst hcs
    have hlen : len ≤ zs.length := by rw [hz]; split <;> omega
    have hb : ∀ n ∈ zs, 0 ≤ n ∧ n ≤ 18446744073709551615 := fun n hn => bounds_u64 (hwf n hn)
    have hDl : (zs.take len).length = len := by simp; omega
    refine ⟨zs.take len, ⟨by rw [mC_length, Nat.mul_one], .inr ⟨a, cap, by rw [hDl], by rw [hDl]; exact hl, hm, fun j u hu => ?_⟩⟩, fun n hn => hb n (List.mem_of_mem_take hn), fun N hN => ?_⟩
    · have hj : j < len := by
        have := (List.getElem?_eq_some_iff.1 hu).1
        rw [mC_length, hDl] at this
        exact this
      rw [hcell j (by omega), ← hu]
      simp only [mC, List.getElem?_map, List.getElem?_take_of_lt hj, List.getElem?_eq_getElem (show j < zs.length by omega), List.getD_eq_getElem?_getD, Option.map_some, Option.getD_some]
    · have := hN _ (by simp only [DataW.weights, Tryz.underlying37, List.mem_cons]; exact .inl rfl)
      rw [bytes22] at this
      simp [lits] at this
      rw [hDl]
      omega
end
end Go.Proofs.YtjohcpokmdofkaaGreatDoor
namespace Go.Proofs.YtjohcpokmdofkaaGreatDoor.Pc
set_option maxRecDepth 100000
open Go.RowKit Go.Deep Go.Joins
open Go.WideShapes Go.ChangeShapes Go.ChangeAt
theorem cells33 : Tryz.prog.cellsOf 33 = 9 := by kernel_rfl
theorem cells30 : Tryz.prog.cellsOf 30 = 4 := by kernel_rfl
theorem cells31 : Tryz.prog.cellsOf 31 = 2 := by kernel_rfl
theorem cells29 : Tryz.prog.cellsOf 29 = 1 := by kernel_rfl
theorem laidOut : laidOutB Tryz.prog = true := by kernel_rfl
theorem cut_list {α : Type} (l : List α) (a k : Nat) : l.drop a = (l.drop a).take k ++ l.drop (a + k) := by
  rw [← List.drop_drop, List.take_append_drop]
section
variable {H : Type} {enc : TypeId × Value → H} {w : World} {base : Nat} {spare : Nat → Bool} {held : Bool}
theorem open_u32 {n : Nat} {cs : List Value} {y : DataW H × List MemPlace} (h : DataW.trod enc Tryz.prog w base spare held n 29 cs = some y) : ∃ k : Int, cs = [.int .u32 k] ∧ U32 k := by
  obtain ⟨k, e, rfl, hk⟩ := DataW.trod_int Tryz.underlying29 h
  have b := bounds_u32 hk
  exact ⟨k, e, b.1, by omega⟩
theorem open_p4 {n : Nat} {cs : List Value} {y : DataW H × List MemPlace} (h : DataW.trod enc Tryz.prog w base spare held n 30 cs = some y) : ∃ a b c d : Int, cs = [.int .u32 a, .int .u32 b, .int .u32 c, .int .u32 d] ∧ U32 a ∧ U32 b ∧ U32 c ∧ U32 d := by
  obtain ⟨xs, m, _, _, hlen, hxs, hg⟩ := DataW.trod_array Tryz.underlying30 h
  rw [cells30] at hlen
  match cs, hlen, xs, hxs with
  | [c0, c1, c2, c3], _, [y0, y1, y2, y3], _ =>
    have g0 := hg 0 (by omega)
    have g1 := hg 1 (by omega)
    have g2 := hg 2 (by omega)
    have g3 := hg 3 (by omega)
    rw [cells29] at g0 g1 g2 g3
    obtain ⟨k0, e0, o0⟩ := open_u32 (y := y0) (by simpa using g0)
    obtain ⟨k1, e1, o1⟩ := open_u32 (y := y1) (by simpa using g1)
    obtain ⟨k2, e2, o2⟩ := open_u32 (y := y2) (by simpa using g2)
    obtain ⟨k3, e3, o3⟩ := open_u32 (y := y3) (by simpa using g3)
    simp only [List.cons.injEq, and_true] at e0 e1 e2 e3
    exact ⟨k0, k1, k2, k3, by rw [e0, e1, e2, e3], o0, o1, o2, o3⟩
theorem open_p2 {n : Nat} {cs : List Value} {y : DataW H × List MemPlace} (h : DataW.trod enc Tryz.prog w base spare held n 31 cs = some y) : ∃ a b : Int, cs = [.int .u32 a, .int .u32 b] ∧ U32 a ∧ U32 b := by
  obtain ⟨xs, m, _, _, hlen, hxs, hg⟩ := DataW.trod_array Tryz.underlying31 h
  rw [cells31] at hlen
  match cs, hlen, xs, hxs with
  | [c0, c1], _, [y0, y1], _ =>
    have g0 := hg 0 (by omega)
    have g1 := hg 1 (by omega)
    rw [cells29] at g0 g1
    obtain ⟨k0, e0, o0⟩ := open_u32 (y := y0) (by simpa using g0)
    obtain ⟨k1, e1, o1⟩ := open_u32 (y := y1) (by simpa using g1)
    simp only [List.cons.injEq, and_true] at e0 e1
    exact ⟨k0, k1, by rw [e0, e1], o0, o1⟩
theorem open_cells {n : Nat} {cs : List Value} {y : DataW H × List MemPlace} (h : DataW.trod enc Tryz.prog w base spare held n 33 cs = some y) : ∃ p : Pl, cs = plL p ∧ Ok p := by
  obtain ⟨xs, m, _, _, hlen, hxs, hg⟩ := DataW.trod_struct Tryz.underlying33 h
  rw [cells33] at hlen
  match xs, hxs with
  | [y0, y1, y2, y3], _ =>
    have g0 : DataW.trod enc Tryz.prog w base spare held m 30 ((cs.drop 0).take (Tryz.prog.cellsOf 30)) = some y0 := hg 0 _ rfl
    have g1 : DataW.trod enc Tryz.prog w base spare held m 31 ((cs.drop 4).take (Tryz.prog.cellsOf 31)) = some y1 := hg 1 _ rfl
    have g2 : DataW.trod enc Tryz.prog w base spare held m 31 ((cs.drop 6).take (Tryz.prog.cellsOf 31)) = some y2 := hg 2 _ rfl
    have g3 : DataW.trod enc Tryz.prog w base spare held m 29 ((cs.drop 8).take (Tryz.prog.cellsOf 29)) = some y3 := hg 3 _ rfl
    obtain ⟨a0, a1, a2, a3, e0, oa0, oa1, oa2, oa3⟩ := open_p4 g0
    obtain ⟨b0, b1, e1, ob0, ob1⟩ := open_p2 g1
    obtain ⟨c0, c1, e2, oc0, oc1⟩ := open_p2 g2
    obtain ⟨d0, e3, od0⟩ := open_u32 g3
    rw [cells30] at e0
    rw [cells31] at e1 e2
    rw [cells29] at e3
    refine ⟨⟨a0, a1, a2, a3, b0, b1, c0, c1, d0⟩, ?_, ⟨oa0, oa1, oa2, oa3, ob0, ob1, oc0, oc1, od0⟩⟩
    have k0 := cut_list cs 0 4
    have k1 := cut_list cs 4 2
    have k2 := cut_list cs 6 2
    have k3 := cut_list cs 8 1
    have z : cs.drop 9 = [] := List.drop_eq_nil_of_le (by omega)
    rw [show 8 + 1 = 9 from rfl, z, e3] at k3
    rw [show 6 + 2 = 8 from rfl, k3, e2] at k2
    rw [show 4 + 2 = 6 from rfl, k2, e1] at k1
    rw [show 0 + 4 = 4 from rfl, k1, e0] at k0
    exact k0
theorem open_plic {r : Reach} {b0 : Nat} {v : Value} {d : DataW H} {p : List MemPlace} (hv : Value.okWide Tryz.prog w r b0 33 v) (h : DataW.Trod enc Tryz.prog w base spare held 33 v d p) : ∃ q : Pl, v = plV q ∧ Ok q := by
  obtain ⟨cs, rfl, hsz⟩ := okWide_struct Tryz.underlying33 hv
  obtain ⟨fuel, hf⟩ := h
  obtain ⟨q, e, ok⟩ := open_cells hf
  refine ⟨q, ?_, ok⟩
  have e2 : cs.toList = plL q := e
  show Value.agg cs = .agg (plC q)
  unfold plC
  rw [← e2]
theorem trodAll_six {t0 t1 t2 t3 t4 t5 : TypeId} {args : Array Value} {ds : List (DataW H)} {ps : List MemPlace} (h : DataW.TrodAll enc Tryz.prog w base spare held [t0, t1, t2, t3, t4, t5] args.toList ds ps) :
    ∃ v0 v1 v2 v3 v4 v5 d0 d1 d2 d3 d4 d5 p0 p1 p2 p3 p4 p5, args = #[v0, v1, v2, v3, v4, v5] ∧ ds = [d0, d1, d2, d3, d4, d5] ∧ ps = p0 ++ p1 ++ p2 ++ p3 ++ p4 ++ p5 ∧ DataW.Trod enc Tryz.prog w base spare held t0 v0 d0 p0 ∧ DataW.Trod enc Tryz.prog w base spare held t1 v1 d1 p1 ∧ DataW.Trod enc Tryz.prog w base spare held t2 v2 d2 p2 ∧ DataW.Trod enc Tryz.prog w base spare held t3 v3 d3 p3 ∧ DataW.Trod enc Tryz.prog w base spare held t4 v4 d4 p4 ∧ DataW.Trod enc Tryz.prog w base spare held t5 v5 d5 p5 := by
  obtain ⟨v0, vs0, d0, es0, p0, q0, hargs, rfl, rfl, hd0, hr0⟩ := trodAll_cons h
  obtain ⟨v1, vs1, d1, es1, p1, q1, rfl, rfl, rfl, hd1, hr1⟩ := trodAll_cons hr0
  obtain ⟨v2, vs2, d2, es2, p2, q2, rfl, rfl, rfl, hd2, hr2⟩ := trodAll_cons hr1
  obtain ⟨v3, vs3, d3, es3, p3, q3, rfl, rfl, rfl, hd3, hr3⟩ := trodAll_cons hr2
  obtain ⟨v4, vs4, d4, es4, p4, q4, rfl, rfl, rfl, hd4, hr4⟩ := trodAll_cons hr3
  obtain ⟨v5, vs5, d5, es5, p5, q5, rfl, rfl, rfl, hd5, hr5⟩ := trodAll_cons hr4
  obtain ⟨rfl, rfl, rfl⟩ := trodAll_nil hr5
  exact ⟨v0, v1, v2, v3, v4, v5, d0, d1, d2, d3, d4, d5, p0, p1, p2, p3, p4, p5, by cases args; simp_all, rfl, by simp, hd0, hd1, hd2, hd3, hd4, hd5⟩
theorem trodAll_mk6 {t0 t1 t2 t3 t4 t5 : TypeId} {v0 v1 v2 v3 v4 v5 : Value} {d0 d1 d2 d3 d4 d5 : DataW H} {p0 p1 p2 p3 p4 p5 : List MemPlace} (h0 : DataW.Trod enc Tryz.prog w base spare held t0 v0 d0 p0) (h1 : DataW.Trod enc Tryz.prog w base spare held t1 v1 d1 p1) (h2 : DataW.Trod enc Tryz.prog w base spare held t2 v2 d2 p2) (h3 : DataW.Trod enc Tryz.prog w base spare held t3 v3 d3 p3) (h4 : DataW.Trod enc Tryz.prog w base spare held t4 v4 d4 p4) (h5 : DataW.Trod enc Tryz.prog w base spare held t5 v5 d5 p5) : DataW.TrodAll enc Tryz.prog w base spare held [t0, t1, t2, t3, t4, t5] [v0, v1, v2, v3, v4, v5] [d0, d1, d2, d3, d4, d5] (p0 ++ (p1 ++ (p2 ++ (p3 ++ (p4 ++ p5))))) :=
  ⟨p0, p1 ++ (p2 ++ (p3 ++ (p4 ++ p5))), h0, ⟨p1, p2 ++ (p3 ++ (p4 ++ p5)), h1, trodAll_mk4 h2 h3 h4 h5, rfl⟩, rfl⟩
end

end Go.Proofs.YtjohcpokmdofkaaGreatDoor.Pc
namespace Go.Proofs.YtjohcpokmdofkaaGreatDoor
set_option maxRecDepth 100000
open Go.RowKit Go.Deep Go.Joins
open Go.WideShapes Go.ChangeShapes Go.ChangeAt
theorem cells35 : Tryz.prog.cellsOf 35 = 21 := by kernel_rfl
theorem cells33 : Tryz.prog.cellsOf 33 = 9 := by kernel_rfl
theorem cells28 : Tryz.prog.cellsOf 28 = 1 := by kernel_rfl
theorem cells9 : Tryz.prog.cellsOf 9 = 1 := by kernel_rfl
theorem cells4 : Tryz.prog.cellsOf 4 = 1 := by kernel_rfl
theorem cells3 : Tryz.prog.cellsOf 3 = 1 := by kernel_rfl
theorem bytes9 : Tryz.prog.bytesOf 9 = 16 := by kernel_rfl
theorem cut_list {α : Type} (l : List α) (a k : Nat) : l.drop a = (l.drop a).take k ++ l.drop (a + k) := by
  rw [← List.drop_drop, List.take_append_drop]
def U64 (x : Int) : Prop := 0 ≤ x ∧ x ≤ 18446744073709551615
/-- Numbers of a board that came in. -/
structure OkB (b : Bd) : Prop where
  cmp : U64 b.cmp
  sector : U64 b.sector
  addr : U64 b.addr
  nicA : U64 b.nicA
  nicL : U64 b.nicL
  inn : b.inn.size ≤ maxLen
  sec : b.sec.size ≤ maxLen
  pl : Pc.Ok b.pl
section
variable {H : Type} {enc : TypeId × Value → H} {w : World} {base : Nat} {spare : Nat → Bool} {held : Bool}
theorem open_u64 {n : Nat} {cs : List Value} {y : DataW H × List MemPlace} (h : DataW.trod enc Tryz.prog w base spare held n 22 cs = some y) : ∃ k : Int, cs = [.int .u64 k] ∧ U64 k := by
  obtain ⟨k, e, rfl, hk⟩ := DataW.trod_int Tryz.underlying22 h
  have b := bounds_u64 hk
  exact ⟨k, e, b.1, b.2⟩
theorem open_f {fuel : Nat} {c : Value} {x : DataW H × List MemPlace} (h : DataW.trod enc Tryz.prog w base spare held fuel 28 [c] = some x) :
    ∃ F, FAt w c F ∧ (∀ s ∈ F, s.size ≤ maxLen) ∧ ∀ N, (∀ k ∈ x.1.weights Tryz.prog 28, k ≤ N) → F.length * 16 ≤ N := by
  rcases open_strings Tryz.underlying28 Tryz.underlying9 cells9 h with ⟨hcs, rfl⟩ | ⟨a, len, cap, ss, hcs, _, hl, hm, hz, rfl, hcell, hsz⟩
  · simp only [List.cons.injEq, and_true] at hcs
    subst hcs
    exact ⟨[], ⟨rfl, .inl ⟨rfl, rfl⟩⟩, fun s hs => by (cases hs), fun N _ => Nat.zero_le _⟩
  · simp only [List.cons.injEq, and_true] at hcs
    subst hcs
    have hlen : len ≤ ss.length := by rw [hz]; split <;> omega
    have hDl : (ss.take len).length = len := by simp; omega
    refine ⟨ss.take len, ⟨by rw [sC_length, Nat.mul_one], .inr ⟨a, cap, by rw [hDl], by rw [hDl]; exact hl, hm, fun j u hu => ?_⟩⟩, fun s hs => hsz s (List.mem_of_mem_take hs), fun N hN => ?_⟩
    · have hj : j < len := by
        have := (List.getElem?_eq_some_iff.1 hu).1
        rw [sC_length, hDl] at this
        exact this
      rw [hcell j (by omega), ← hu]
      simp only [sC, List.getElem?_map, List.getElem?_take_of_lt hj, List.getElem?_eq_getElem (show j < ss.length by omega), List.getD_eq_getElem?_getD, Option.map_some, Option.getD_some]
    · have := hN _ (by simp only [DataW.weights, Tryz.underlying28, List.mem_cons]; exact .inl rfl)
      rw [bytes9] at this
      simp [strs] at this
      rw [hDl]
      omega
theorem open_bd {fuel : Nat} {cs : List Value} {y : DataW H × List MemPlace} (hf : DataW.trod enc Tryz.prog w base spare held fuel 35 cs = some y) :
    ∃ b F, cs = (bdC b).toList ∧ FAt w (.slice b.fp b.fn b.fc) F ∧ (∀ s ∈ F, s.size ≤ maxLen) ∧ OkB b ∧ ∀ N, (∀ k ∈ y.1.weights Tryz.prog 35, k ≤ N) → F.length * 16 ≤ N := by
  obtain ⟨xs, n, _, hd, hsz, hlen, hg⟩ := DataW.trod_struct Tryz.underlying35 hf
  rw [cells35] at hsz
  subst hd
  match xs, hlen with
  | [y0, y1, y2, y3, y4, y5, y6, y7, y8, y9, y10, y11, y12], _ =>
    have g0 : DataW.trod enc Tryz.prog w base spare held n 4 ((cs.drop 0).take (Tryz.prog.cellsOf 4)) = some y0 := hg 0 _ rfl
    have g1 : DataW.trod enc Tryz.prog w base spare held n 22 ((cs.drop 1).take (Tryz.prog.cellsOf 22)) = some y1 := hg 1 _ rfl
    have g2 : DataW.trod enc Tryz.prog w base spare held n 9 ((cs.drop 2).take (Tryz.prog.cellsOf 9)) = some y2 := hg 2 _ rfl
    have g3 : DataW.trod enc Tryz.prog w base spare held n 4 ((cs.drop 3).take (Tryz.prog.cellsOf 4)) = some y3 := hg 3 _ rfl
    have g4 : DataW.trod enc Tryz.prog w base spare held n 9 ((cs.drop 4).take (Tryz.prog.cellsOf 9)) = some y4 := hg 4 _ rfl
    have g5 : DataW.trod enc Tryz.prog w base spare held n 22 ((cs.drop 5).take (Tryz.prog.cellsOf 22)) = some y5 := hg 5 _ rfl
    have g6 : DataW.trod enc Tryz.prog w base spare held n 22 ((cs.drop 6).take (Tryz.prog.cellsOf 22)) = some y6 := hg 6 _ rfl
    have g7 : DataW.trod enc Tryz.prog w base spare held n 4 ((cs.drop 7).take (Tryz.prog.cellsOf 4)) = some y7 := hg 7 _ rfl
    have g8 : DataW.trod enc Tryz.prog w base spare held n 4 ((cs.drop 8).take (Tryz.prog.cellsOf 4)) = some y8 := hg 8 _ rfl
    have g9 : DataW.trod enc Tryz.prog w base spare held n 28 ((cs.drop 9).take (Tryz.prog.cellsOf 28)) = some y9 := hg 9 _ rfl
    have g10 : DataW.trod enc Tryz.prog w base spare held n 22 ((cs.drop 10).take (Tryz.prog.cellsOf 22)) = some y10 := hg 10 _ rfl
    have g11 : DataW.trod enc Tryz.prog w base spare held n 22 ((cs.drop 11).take (Tryz.prog.cellsOf 22)) = some y11 := hg 11 _ rfl
    have g12 : DataW.trod enc Tryz.prog w base spare held n 33 ((cs.drop 12).take (Tryz.prog.cellsOf 33)) = some y12 := hg 12 _ rfl
    obtain ⟨k0, e0, _⟩ := DataW.trod_bool Tryz.underlying4 g0
    rw [cells4] at e0
    obtain ⟨k1, e1, o1⟩ := open_u64 g1
    rw [cells22] at e1
    obtain ⟨k2, e2, _, o2⟩ := DataW.trod_string Tryz.underlying9 g2
    rw [cells9] at e2
    obtain ⟨k3, e3, _⟩ := DataW.trod_bool Tryz.underlying4 g3
    rw [cells4] at e3
    obtain ⟨k4, e4, _, o4⟩ := DataW.trod_string Tryz.underlying9 g4
    rw [cells9] at e4
    obtain ⟨k5, e5, o5⟩ := open_u64 g5
    rw [cells22] at e5
    obtain ⟨k6, e6, o6⟩ := open_u64 g6
    rw [cells22] at e6
    obtain ⟨k7, e7, _⟩ := DataW.trod_bool Tryz.underlying4 g7
    rw [cells4] at e7
    obtain ⟨k8, e8, _⟩ := DataW.trod_bool Tryz.underlying4 g8
    rw [cells4] at e8
    have l9 : (cs.drop 9).take (Tryz.prog.cellsOf 28) = [cs[9]'(by omega)] := by
      rw [cells28, List.drop_eq_getElem_cons (by omega)]
      rfl
    rw [l9] at g9
    obtain ⟨F, hF, hFs, hw⟩ := open_f g9
    obtain ⟨q, cap, hq⟩ := hF.is
    have e9 : (cs.drop 9).take 1 = [.slice q F.length cap] := by rw [← hq, ← l9, cells28]
    obtain ⟨k10, e10, o10⟩ := open_u64 g10
    rw [cells22] at e10
    obtain ⟨k11, e11, o11⟩ := open_u64 g11
    rw [cells22] at e11
    obtain ⟨k12, e12, o12⟩ := Pc.open_cells g12
    rw [cells33] at e12
    refine ⟨⟨k0, k1, k2, k3, k4, k5, k6, k7, k8, q, F.length, cap, k10, k11, k12⟩, F, ?_, hq ▸ hF, hFs, ⟨o1, o5, o6, o10, o11, o2, o4, o12⟩, fun N hN => hw N fun k hk => hN k ?_⟩
    · have e : cs = bdL ⟨k0, k1, k2, k3, k4, k5, k6, k7, k8, q, F.length, cap, k10, k11, k12⟩ ++ plL k12 := by
        have a0 := cut_list cs 0 1
        have a1 := cut_list cs 1 1
        have a2 := cut_list cs 2 1
        have a3 := cut_list cs 3 1
        have a4 := cut_list cs 4 1
        have a5 := cut_list cs 5 1
        have a6 := cut_list cs 6 1
        have a7 := cut_list cs 7 1
        have a8 := cut_list cs 8 1
        have a9 := cut_list cs 9 1
        have a10 := cut_list cs 10 1
        have a11 := cut_list cs 11 1
        have a12 := cut_list cs 12 9
        have z : cs.drop 21 = [] := List.drop_eq_nil_of_le (by omega)
        rw [show 12 + 9 = 21 from rfl, z, e12] at a12
        rw [show 11 + 1 = 12 from rfl, a12, e11] at a11
        rw [show 10 + 1 = 11 from rfl, a11, e10] at a10
        rw [show 9 + 1 = 10 from rfl, a10, e9] at a9
        rw [show 8 + 1 = 9 from rfl, a9, e8] at a8
        rw [show 7 + 1 = 8 from rfl, a8, e7] at a7
        rw [show 6 + 1 = 7 from rfl, a7, e6] at a6
        rw [show 5 + 1 = 6 from rfl, a6, e5] at a5
        rw [show 4 + 1 = 5 from rfl, a5, e4] at a4
        rw [show 3 + 1 = 4 from rfl, a4, e3] at a3
        rw [show 2 + 1 = 3 from rfl, a3, e2] at a2
        rw [show 1 + 1 = 2 from rfl, a2, e1] at a1
        rw [show 0 + 1 = 1 from rfl, a1, e0] at a0
        rw [List.append_nil] at a0
        exact a0
      rw [bdC_parts]
      exact e
    · simp [DataW.weights, Tryz.underlying35, DataW.weightsEach, hk]
end

end Go.Proofs.YtjohcpokmdofkaaGreatDoor
namespace Go.Proofs.YtjohcpokmdofkaaGreatDoor
set_option maxRecDepth 100000
open Go.RowKit Go.Deep Go.Joins
structure OkR (c : Reg) : Prop where
  u0 : U64 c.s0
  u1 : U64 c.s1
  u2 : U64 c.s2
  u3 : U64 c.s3
  u4 : U64 c.s4
  u5 : U64 c.s5
  u6 : U64 c.s6
  u7 : U64 c.s7
  u8 : U64 c.s8
  u9 : U64 c.s9
  u10 : U64 c.s10
  u11 : U64 c.s11
  u12 : U64 c.s12
  u13 : U64 c.s13
  u14 : U64 c.s14
  u15 : U64 c.s15
structure OkH (h : Hart) : Prop where
  pc : U64 h.pc
  c : OkR h.c
end Go.Proofs.YtjohcpokmdofkaaGreatDoor

namespace Go.Proofs.YtjohcpokmdofkaaGreatDoor
set_option maxRecDepth 100000
open Go.RowKit Go.Deep Go.Joins
open Go.WideShapes Go.ChangeShapes Go.ChangeAt
theorem cells27 : Tryz.prog.cellsOf 27 = 52 := by kernel_rfl
theorem cells25 : Tryz.prog.cellsOf 25 = 16 := by kernel_rfl
theorem cells23 : Tryz.prog.cellsOf 23 = 32 := by kernel_rfl
def numOf : Value → Int
  | .int _ a => a
  | _ => 0
section
variable {H : Type} {enc : TypeId × Value → H} {w : World} {base : Nat} {spare : Nat → Bool} {held : Bool}
theorem open_xs {n : Nat} {cs : List Value} {y : DataW H × List MemPlace} (h : DataW.trod enc Tryz.prog w base spare held n 23 cs = some y) : ∃ x : List Int, x.length = 32 ∧ cs = x.map (.int .u64) := by
  obtain ⟨xs, m, _, _, hlen, hxs, hg⟩ := DataW.trod_array Tryz.underlying23 h
  rw [cells23] at hlen
  refine ⟨cs.map numOf, by rw [List.length_map, hlen], ?_⟩
  rw [List.map_map]
  refine List.ext_getElem (by rw [List.length_map]) fun i h1 _ => ?_
  have hi : i < 32 := by omega
  have g := hg i hi
  rw [cells22, Nat.mul_one, List.getElem?_eq_getElem (by omega)] at g
  obtain ⟨k, hk, _⟩ := open_u64 g
  have e : (cs.drop i).take 1 = [cs[i]] := by
    rw [List.drop_eq_getElem_cons h1]
    rfl
  rw [e] at hk
  have hk2 : cs[i] = .int .u64 k := by simpa using hk
  rw [List.getElem_map, hk2]
  rfl
theorem open_regs {n : Nat} {cs : List Value} {y : DataW H × List MemPlace} (h : DataW.trod enc Tryz.prog w base spare held n 25 cs = some y) : ∃ c : Reg, cs = [.int .u64 c.s0, .int .u64 c.s1, .int .u64 c.s2, .int .u64 c.s3, .int .u64 c.s4, .int .u64 c.s5, .int .u64 c.s6, .int .u64 c.s7, .int .u64 c.s8, .int .u64 c.s9, .int .u64 c.s10, .int .u64 c.s11, .int .u64 c.s12, .int .u64 c.s13, .int .u64 c.s14, .int .u64 c.s15] ∧ OkR c := by
  obtain ⟨xs, m, _, _, hlen, hxs, hg⟩ := DataW.trod_struct Tryz.underlying25 h
  rw [cells25] at hlen
  match cs, hlen, xs, hxs with
  | [c0, c1, c2, c3, c4, c5, c6, c7, c8, c9, c10, c11, c12, c13, c14, c15], _, [y0, y1, y2, y3, y4, y5, y6, y7, y8, y9, y10, y11, y12, y13, y14, y15], _ =>
    have g0 := hg 0 _ rfl
    have g1 := hg 1 _ rfl
    have g2 := hg 2 _ rfl
    have g3 := hg 3 _ rfl
    have g4 := hg 4 _ rfl
    have g5 := hg 5 _ rfl
    have g6 := hg 6 _ rfl
    have g7 := hg 7 _ rfl
    have g8 := hg 8 _ rfl
    have g9 := hg 9 _ rfl
    have g10 := hg 10 _ rfl
    have g11 := hg 11 _ rfl
    have g12 := hg 12 _ rfl
    have g13 := hg 13 _ rfl
    have g14 := hg 14 _ rfl
    have g15 := hg 15 _ rfl
    simp only [List.getElem?_cons_succ, List.getElem?_cons_zero] at g0 g1 g2 g3 g4 g5 g6 g7 g8 g9 g10 g11 g12 g13 g14 g15
    obtain ⟨k0, e0, o0⟩ := open_u64 g0
    obtain ⟨k1, e1, o1⟩ := open_u64 g1
    obtain ⟨k2, e2, o2⟩ := open_u64 g2
    obtain ⟨k3, e3, o3⟩ := open_u64 g3
    obtain ⟨k4, e4, o4⟩ := open_u64 g4
    obtain ⟨k5, e5, o5⟩ := open_u64 g5
    obtain ⟨k6, e6, o6⟩ := open_u64 g6
    obtain ⟨k7, e7, o7⟩ := open_u64 g7
    obtain ⟨k8, e8, o8⟩ := open_u64 g8
    obtain ⟨k9, e9, o9⟩ := open_u64 g9
    obtain ⟨k10, e10, o10⟩ := open_u64 g10
    obtain ⟨k11, e11, o11⟩ := open_u64 g11
    obtain ⟨k12, e12, o12⟩ := open_u64 g12
    obtain ⟨k13, e13, o13⟩ := open_u64 g13
    obtain ⟨k14, e14, o14⟩ := open_u64 g14
    obtain ⟨k15, e15, o15⟩ := open_u64 g15
    obtain rfl : c0 = .int .u64 k0 := by simpa [cells22] using e0
    obtain rfl : c1 = .int .u64 k1 := by simpa [cells22] using e1
    obtain rfl : c2 = .int .u64 k2 := by simpa [cells22] using e2
    obtain rfl : c3 = .int .u64 k3 := by simpa [cells22] using e3
    obtain rfl : c4 = .int .u64 k4 := by simpa [cells22] using e4
    obtain rfl : c5 = .int .u64 k5 := by simpa [cells22] using e5
    obtain rfl : c6 = .int .u64 k6 := by simpa [cells22] using e6
    obtain rfl : c7 = .int .u64 k7 := by simpa [cells22] using e7
    obtain rfl : c8 = .int .u64 k8 := by simpa [cells22] using e8
    obtain rfl : c9 = .int .u64 k9 := by simpa [cells22] using e9
    obtain rfl : c10 = .int .u64 k10 := by simpa [cells22] using e10
    obtain rfl : c11 = .int .u64 k11 := by simpa [cells22] using e11
    obtain rfl : c12 = .int .u64 k12 := by simpa [cells22] using e12
    obtain rfl : c13 = .int .u64 k13 := by simpa [cells22] using e13
    obtain rfl : c14 = .int .u64 k14 := by simpa [cells22] using e14
    obtain rfl : c15 = .int .u64 k15 := by simpa [cells22] using e15
    exact ⟨⟨k0, k1, k2, k3, k4, k5, k6, k7, k8, k9, k10, k11, k12, k13, k14, k15⟩, rfl, ⟨o0, o1, o2, o3, o4, o5, o6, o7, o8, o9, o10, o11, o12, o13, o14, o15⟩⟩
theorem open_hc {fuel : Nat} {cs : List Value} {y : DataW H × List MemPlace} (hf : DataW.trod enc Tryz.prog w base spare held fuel 27 cs = some y) : ∃ h : Hart, cs = hartL h ∧ OkH h := by
  obtain ⟨xs, n, _, hd, hsz, hlen, hg⟩ := DataW.trod_struct Tryz.underlying27 hf
  rw [cells27] at hsz
  match xs, hlen with
  | [y0, y1, y2, y3, y4, y5], _ =>
    have g0 : DataW.trod enc Tryz.prog w base spare held n 23 ((cs.drop 0).take (Tryz.prog.cellsOf 23)) = some y0 := hg 0 _ rfl
    have g1 : DataW.trod enc Tryz.prog w base spare held n 22 ((cs.drop 32).take (Tryz.prog.cellsOf 22)) = some y1 := hg 1 _ rfl
    have g2 : DataW.trod enc Tryz.prog w base spare held n 3 ((cs.drop 33).take (Tryz.prog.cellsOf 3)) = some y2 := hg 2 _ rfl
    have g3 : DataW.trod enc Tryz.prog w base spare held n 25 ((cs.drop 34).take (Tryz.prog.cellsOf 25)) = some y3 := hg 3 _ rfl
    have g4 : DataW.trod enc Tryz.prog w base spare held n 4 ((cs.drop 50).take (Tryz.prog.cellsOf 4)) = some y4 := hg 4 _ rfl
    have g5 : DataW.trod enc Tryz.prog w base spare held n 22 ((cs.drop 51).take (Tryz.prog.cellsOf 22)) = some y5 := hg 5 _ rfl
    obtain ⟨x, hx, e0⟩ := open_xs g0
    obtain ⟨pc, e1, opc⟩ := open_u64 g1
    obtain ⟨mode, e2, _, _⟩ := DataW.trod_int Tryz.underlying3 g2
    obtain ⟨c, e3, oc⟩ := open_regs g3
    obtain ⟨held, e4, _⟩ := DataW.trod_bool Tryz.underlying4 g4
    obtain ⟨rat, e5, _⟩ := open_u64 g5
    rw [cells23] at e0
    rw [cells22] at e1 e5
    rw [cells3] at e2
    rw [cells25] at e3
    rw [cells4] at e4
    refine ⟨⟨x, hx, pc, mode, c, held, rat⟩, ?_, ⟨opc, oc⟩⟩
    have e : cs = hartL ⟨x, hx, pc, mode, c, held, rat⟩ := by
      have a0 := cut_list cs 0 32
      have a1 := cut_list cs 32 1
      have a2 := cut_list cs 33 1
      have a3 := cut_list cs 34 16
      have a4 := cut_list cs 50 1
      have a5 := cut_list cs 51 1
      have z : cs.drop 52 = [] := List.drop_eq_nil_of_le (by omega)
      rw [show 51 + 1 = 52 from rfl, z, e5] at a5
      rw [show 50 + 1 = 51 from rfl, a5, e4] at a4
      rw [show 34 + 16 = 50 from rfl, a4, e3] at a3
      rw [show 33 + 1 = 34 from rfl, a3, e2] at a2
      rw [show 32 + 1 = 33 from rfl, a2, e1] at a1
      rw [show 0 + 32 = 32 from rfl, a1, e0] at a0
      exact a0
    exact e
end

end Go.Proofs.YtjohcpokmdofkaaGreatDoor
namespace Go.Proofs.YtjohcpokmdofkaaGreatDoor
set_option maxRecDepth 100000
open Go.RowKit Go.Deep Go.Joins Go.WideShapes Go.ChangeShapes Go.ChangeAt
theorem cells175 : Tryz.prog.cellsOf 175 = 3 := by kernel_rfl
theorem bytes175 : Tryz.prog.bytesOf 175 = 32 := by kernel_rfl
theorem list_of {P : Nat → Rec → Prop} : ∀ n, (∀ i, i < n → ∃ r, P i r) → ∃ O : List Rec, O.length = n ∧ ∀ i (h : i < O.length), P i O[i]
  | 0, _ => ⟨[], rfl, fun i h => by cases h⟩
  | n + 1, h => by
    obtain ⟨O, hl, hO⟩ := list_of n fun i hi => h i (by omega)
    obtain ⟨r, hr⟩ := h n (by omega)
    refine ⟨O ++ [r], by simp [hl], fun i hi => ?_⟩
    by_cases e : i < O.length
    · rw [List.getElem_append_left e]; exact hO i e
    · have : i = n := by simp at hi; omega
      subst this
      rw [List.getElem_append_right (by omega)]
      simpa using hr
section
variable {H : Type} {enc : TypeId × Value → H} {w : World} {base : Nat} {spare : Nat → Bool} {held : Bool}
theorem open_rec {n : Nat} {cs : List Value} {y : DataW H × List MemPlace} (h : DataW.trod enc Tryz.prog w base spare held n 175 cs = some y) : ∃ r : Rec, cs = rcL r := by
  obtain ⟨xs, m, _, _, hlen, hxs, hg⟩ := DataW.trod_struct Tryz.underlying175 h
  rw [cells175] at hlen
  match cs, hlen, xs, hxs with
  | [c0, c1, c2], _, [y0, y1, y2], _ =>
    have g0 : DataW.trod enc Tryz.prog w base spare held m 22 (([c0, c1, c2].drop 0).take (Tryz.prog.cellsOf 22)) = some y0 := hg 0 _ rfl
    have g1 : DataW.trod enc Tryz.prog w base spare held m 3 (([c0, c1, c2].drop 1).take (Tryz.prog.cellsOf 3)) = some y1 := hg 1 _ rfl
    have g2 : DataW.trod enc Tryz.prog w base spare held m 9 (([c0, c1, c2].drop 2).take (Tryz.prog.cellsOf 9)) = some y2 := hg 2 _ rfl
    rw [cells22] at g0
    rw [cells3] at g1
    rw [cells9] at g2
    obtain ⟨k0, e0, _⟩ := open_u64 g0
    obtain ⟨k1, e1, _, _⟩ := DataW.trod_int Tryz.underlying3 g1
    obtain ⟨k2, e2, _, _⟩ := DataW.trod_string Tryz.underlying9 g2
    simp at e0 e1 e2
    exact ⟨(k0, k1, k2), by rw [e0, e1, e2]; rfl⟩
theorem open_recs {fuel : Nat} {c : Value} {x : DataW H × List MemPlace} (h : DataW.trod enc Tryz.prog w base spare held fuel 40 [c] = some x) :
    ∃ O : List Rec, Reads w c 3 O.length (oC O) ∧ ∀ N, (∀ k ∈ x.1.weights Tryz.prog 40, k ≤ N) → O.length * 32 ≤ N := by
  rcases DataW.trod_slice Tryz.underlying40 h with ⟨hcs, rfl⟩ | ⟨a, len, cap, elems, rest, n, _, hcs, rfl, hb, hl, hm, hlen, hel, hsp, hns⟩
  · simp only [List.cons.injEq, and_true] at hcs
    subst hcs
    exact ⟨[], ⟨rfl, .inl ⟨rfl, rfl⟩⟩, fun N _ => Nat.zero_le _⟩
  · simp only [List.cons.injEq, and_true] at hcs
    subst hcs
    obtain ⟨O, hO, hP⟩ := list_of (P := fun i r => ∀ j v, (rcL r)[j]? = some v → w.cell? ((a.add (i * 3)).add j) = some v) len fun i hi => by
      have k := hel i hi
      rw [List.getElem?_eq_getElem (by omega), Option.bind_eq_some_iff, cells175] at k
      obtain ⟨cs', h1, h2⟩ := k
      obtain ⟨r, rfl⟩ := open_rec h2
      exact ⟨r, fun j v hj => by
        have k2 := World.cells?_some h1
        exact (k2.2.2 j (by have := (List.getElem?_eq_some_iff.1 hj).1; simpa [rcL] using this)).trans hj⟩
    refine ⟨O, ⟨oC_length O, .inr ⟨a, cap, by rw [hO], by rw [hO]; exact hl, hm, fun j u hu => ?_⟩⟩, fun N hN => ?_⟩
    · have hj : j < O.length * 3 := by have := (List.getElem?_eq_some_iff.1 hu).1; rwa [oC_length] at this
      have hk : j / 3 < O.length := by omega
      have hu' : (rcL O[j / 3])[j % 3]? = some u := by rw [← oC_get O (j / 3) hk (j % 3) (by omega), show 3 * (j / 3) + j % 3 = j by omega]; exact hu
      have := hP (j / 3) hk (j % 3) u hu'
      rwa [Addr.add_add, show j / 3 * 3 + j % 3 = j by omega] at this
    · have := hN _ (by simp only [DataW.weights, Tryz.underlying40, List.mem_cons]; exact .inl rfl)
      rw [bytes175] at this
      simp at this
      omega
theorem cells36 : Tryz.prog.cellsOf 36 = 1 := by kernel_rfl
theorem cells37 : Tryz.prog.cellsOf 37 = 1 := by kernel_rfl
theorem cells40 : Tryz.prog.cellsOf 40 = 1 := by kernel_rfl
theorem cells42 : Tryz.prog.cellsOf 42 = 79 := by kernel_rfl
theorem open_ramc {fuel : Nat} {cs : List Value} {y : DataW H × List MemPlace} (h : DataW.trod enc Tryz.prog w base spare held fuel 39 cs = some y) : ∃ dv mv E D M, cs = [dv, mv, .int .u64 E] ∧ DAt w dv D ∧ MAt w mv M ∧ ∀ N, (∀ k ∈ y.1.weights Tryz.prog 39, k ≤ N) → D.length ≤ N ∧ M.length * 8 ≤ N := by
  obtain ⟨xs, m, _, hd, hlen, hxs, hg⟩ := DataW.trod_struct Tryz.underlying39 h
  rw [cells39] at hlen
  subst hd
  match cs, hlen, xs, hxs with
  | [c0, c1, c2], _, [y0, y1, y2], _ =>
    have g0 : DataW.trod enc Tryz.prog w base spare held m 36 (([c0, c1, c2].drop 0).take (Tryz.prog.cellsOf 36)) = some y0 := hg 0 _ rfl
    have g1 : DataW.trod enc Tryz.prog w base spare held m 37 (([c0, c1, c2].drop 1).take (Tryz.prog.cellsOf 37)) = some y1 := hg 1 _ rfl
    have g2 : DataW.trod enc Tryz.prog w base spare held m 22 (([c0, c1, c2].drop 2).take (Tryz.prog.cellsOf 22)) = some y2 := hg 2 _ rfl
    rw [cells36] at g0
    rw [cells37] at g1
    rw [cells22] at g2
    obtain ⟨D, hD, wD⟩ := open_d (c := c0) g0
    obtain ⟨M, hM, _, wM⟩ := open_m (c := c1) g1
    obtain ⟨E, e2, _⟩ := open_u64 g2
    simp at e2
    refine ⟨c0, c1, E, D, M, by rw [e2], hD, hM, fun N hN => ⟨wD N fun k hk => hN k ?_, wM N fun k hk => hN k ?_⟩⟩
    · simp [DataW.weights, Tryz.underlying39, DataW.weightsEach, hk]
    · simp [DataW.weights, Tryz.underlying39, DataW.weightsEach, hk]
theorem open_machine {r : Reach} {b0 : Nat} {v : Value} {d : DataW H} {p : List MemPlace} (hv : Value.okWide Tryz.prog w r b0 42 v) (h : DataW.Trod enc Tryz.prog w base spare held 42 v d p) :
    ∃ (m : Mc) (q : Pt), v = mcV m ∧ MR w m q ∧ OkB m.b ∧ (∀ s ∈ q.F, s.size ≤ maxLen) ∧ ∀ N, (∀ k ∈ d.weights Tryz.prog 42, k ≤ N) → q.F.length * 16 ≤ N ∧ q.D.length ≤ N ∧ q.M.length * 8 ≤ N ∧ q.O.length * 32 ≤ N := by
  obtain ⟨cs0, rfl, hsz⟩ := okWide_struct Tryz.underlying42 hv
  rw [cells42] at hsz
  obtain ⟨fuel, hf⟩ := h
  obtain ⟨xs, n, _, hd, _, hlen, hg⟩ := DataW.trod_struct Tryz.underlying42 hf
  obtain ⟨rfl, rfl⟩ := Prod.mk.inj hd
  have hcs : (Value.agg cs0).cells.toList = cs0.toList := rfl
  obtain ⟨cs, hc⟩ : ∃ cs, cs = cs0.toList := ⟨_, rfl⟩
  have hl : cs.length = 79 := by rw [hc]; simp [hsz]
  rw [hcs, ← hc] at hg
  match xs, hlen with
  | [y0, y1, y2, y3, y4, y5], _ =>
    have g0 : DataW.trod enc Tryz.prog w base spare held n 27 ((cs.drop 0).take (Tryz.prog.cellsOf 27)) = some y0 := hg 0 _ rfl
    have g1 : DataW.trod enc Tryz.prog w base spare held n 35 ((cs.drop 52).take (Tryz.prog.cellsOf 35)) = some y1 := hg 1 _ rfl
    have g2 : DataW.trod enc Tryz.prog w base spare held n 39 ((cs.drop 73).take (Tryz.prog.cellsOf 39)) = some y2 := hg 2 _ rfl
    have g3 : DataW.trod enc Tryz.prog w base spare held n 22 ((cs.drop 76).take (Tryz.prog.cellsOf 22)) = some y3 := hg 3 _ rfl
    have g4 : DataW.trod enc Tryz.prog w base spare held n 22 ((cs.drop 77).take (Tryz.prog.cellsOf 22)) = some y4 := hg 4 _ rfl
    have g5 : DataW.trod enc Tryz.prog w base spare held n 40 ((cs.drop 78).take (Tryz.prog.cellsOf 40)) = some y5 := hg 5 _ rfl
    obtain ⟨hh, e0, _⟩ := open_hc g0
    obtain ⟨b, F, e1, hF, hFs, okb, wF⟩ := open_bd g1
    obtain ⟨dv, mv, E, D, M, e2, hD, hM, wR⟩ := open_ramc g2
    obtain ⟨cnt, e3, _⟩ := open_u64 g3
    obtain ⟨nxt, e4, _⟩ := open_u64 g4
    have l5 : (cs.drop 78).take (Tryz.prog.cellsOf 40) = [cs[78]'(by omega)] := by
      rw [cells40, List.drop_eq_getElem_cons (show 78 < cs.length by omega)]
      rfl
    rw [l5] at g5
    obtain ⟨O, hO, wO⟩ := open_recs g5
    rw [cells27] at e0
    rw [cells35] at e1
    rw [cells39] at e2
    rw [cells22] at e3 e4
    rw [cells40] at l5
    refine ⟨⟨hh, b, dv, mv, E, cnt, nxt, cs[78]'(by omega)⟩, ⟨F, D, M, O⟩, ?_, ⟨hF, hD, hM, hO⟩, okb, hFs, fun N hN => ⟨wF N fun k hk => hN k ?_, (wR N fun k hk => hN k ?_).1, (wR N fun k hk => hN k ?_).2, wO N fun k hk => hN k ?_⟩⟩
    · have e : cs = mcL ⟨hh, b, dv, mv, E, cnt, nxt, cs[78]'(by omega)⟩ := by
        have a0 := cut_list cs 0 52
        have a1 := cut_list cs 52 21
        have a2 := cut_list cs 73 3
        have a3 := cut_list cs 76 1
        have a4 := cut_list cs 77 1
        have a5 := cut_list cs 78 1
        have z : cs.drop 79 = [] := List.drop_eq_nil_of_le (by omega)
        rw [show 78 + 1 = 79 from rfl, z, l5] at a5
        rw [show 77 + 1 = 78 from rfl, a5, e4] at a4
        rw [show 76 + 1 = 77 from rfl, a4, e3] at a3
        rw [show 73 + 3 = 76 from rfl, a3, e2] at a2
        rw [show 52 + 21 = 73 from rfl, a2, e1] at a1
        rw [show 0 + 52 = 52 from rfl, a1, e0] at a0
        exact a0
      show Value.agg cs0 = .agg (mcC _)
      unfold mcC
      rw [← e, hc]
    all_goals simp [DataW.weights, Tryz.underlying42, DataW.weightsEach, hk]
end

end Go.Proofs.YtjohcpokmdofkaaGreatDoor
