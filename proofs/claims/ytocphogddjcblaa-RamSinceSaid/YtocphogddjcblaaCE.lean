/- RamSince: the walk. -/
import Derived.Test.YtocphogddjcblaaCD
import Derived.Test.YtocphogddjcblaaBC
namespace Go.Proofs.Ytocphogddjcblaa
open Go.RowKit Go.Deep Go.Joins
structure Sp where
  t : Int
  size : Int
  x : Nat
  s : ByteArray
  t0 : 0 ≤ t
  t1 : t ≤ 18446744073709551615
  s0 : -9223372036854775808 ≤ size
  s1 : size ≤ 9223372036854775807
  x1 : x < 18446744073709551616
  sl : s.size ≤ 9223372036854775807
def spC (r : Sp) : List Value := [.int .u64 r.t, .int .i64 r.size, .int .u64 (r.x : Nat), .string r.s]
def sC (l : List Sp) : List Value := l.flatMap spC
theorem sC_length (l : List Sp) : (sC l).length = l.length * 4 := by
  induction l with
  | nil => rfl
  | cons x l ih => simp only [sC, spC, List.flatMap_cons, List.length_append, List.length_cons, List.length_nil] at *; omega
theorem sC_get (l : List Sp) (k : Nat) (h : k < l.length) : (sC l)[k * 4]? = some (.int .u64 l[k].t) ∧ (sC l)[k * 4 + 1]? = some (.int .i64 l[k].size) ∧ (sC l)[k * 4 + 2]? = some (.int .u64 (l[k].x : Nat)) ∧ (sC l)[k * 4 + 3]? = some (.string l[k].s) := by
  induction l generalizing k with
  | nil => simp at h
  | cons x l ih =>
    have e : sC (x :: l) = .int .u64 x.t :: .int .i64 x.size :: .int .u64 (x.x : Nat) :: .string x.s :: sC l := rfl
    rw [e]
    cases k with
    | zero => simp
    | succ k =>
      have := ih k (by simpa using h)
      rw [show (k + 1) * 4 = k * 4 + 1 + 1 + 1 + 1 by omega]
      simpa using this
def SAt (w : World) (v : Value) (L : List Sp) : Prop := Reads w v 4 L.length (sC L)
theorem SAt.below {w w' : World} {v : Value} {L : List Sp} (h : SAt w v L) (hb : Below w.heap.size w w') : SAt w' v L := Reads.below h hb
theorem SAt.le {w : World} {v : Value} {D : List Sp} (h : SAt w v D) : D.length ≤ 9223372036854775807 := by
  rcases h.2 with ⟨_, h⟩ | ⟨a, cap, _, h1, h2, _⟩
  · omega
  · unfold maxLen at h2; omega
theorem SAt.cell {w : World} {v : Value} {L : List Sp} (h : SAt w v L) (h0 : 0 < L.length) :
    ∃ b off cap, v = .slice (some ⟨b, off, none⟩) L.length cap ∧ b < w.heap.size ∧ ∀ j (hj : j < L.length), w.cell? ⟨b, off + j * 4, none⟩ = some (.int .u64 L[j].t) ∧ w.cell? ⟨b, off + j * 4 + 1, none⟩ = some (.int .i64 L[j].size) ∧
      w.cell? ⟨b, off + j * 4 + 2, none⟩ = some (.int .u64 (L[j].x : Nat)) ∧ w.cell? ⟨b, off + j * 4 + 3, none⟩ = some (.string L[j].s) := by
  obtain ⟨b, off, cap, h1, h2, h3, h4, h5⟩ := Reads.at h (by omega)
  exact ⟨b, off, cap, h1, h4, fun j hj => ⟨h5 _ _ (sC_get L j hj).1, h5 _ _ (sC_get L j hj).2.1, h5 _ _ (sC_get L j hj).2.2.1, h5 _ _ (sC_get L j hj).2.2.2⟩⟩
/-- The memories of the law: old (5), now (7). -/
structure Sin (w wr : World) (z5 z7 N : Nat) (d5 m5 d7 m7 : Value) (F : Int) (D : List UInt8) (M : List Int) (D' : List UInt8) (M' : List Int) : Prop where
  v5 : RamVar wr z5 d5 m5 F
  v7 : RamVar wr z7 d7 m7 F
  od : OwnD wr w.heap.size d5 D
  om : OwnM wr w.heap.size m5 M
  nd : OwnD wr N d7 D'
  nm : OwnM wr N m7 M'
  ld : ∀ g, d5.ownBlock = some g → g < N
  lm : ∀ g, m5.ownBlock = some g → g < N
  inv : RamInv D M.length F D' M'
  z5N : z5 < N
  z7N : N ≤ z7
  hw : w.heap.size ≤ z5
  below : Below w.heap.size w wr
theorem Sin.next {w wr wx : World} {z5 z7 N : Nat} {d5 m5 d7 m7 : Value} {F : Int} {D : List UInt8} {M : List Int} {D' : List UInt8} {M' : List Int} (h : Sin w wr z5 z7 N d5 m5 d7 m7 F D M D' M') (hb : Below wr.heap.size wr wx) : Sin w wx z5 z7 N d5 m5 d7 m7 F D M D' M' :=
  ⟨h.v5.below hb, h.v7.below hb, h.od.below hb, h.om.below hb, h.nd.below hb, h.nm.below hb, h.ld, h.lm, h.inv, h.z5N, h.z7N, h.hw, below_then h.below hb⟩
theorem Sin.put {w u : World} {z5 z7 N : Nat} {d5 m5 d7 m7 : Value} {F : Int} {D : List UInt8} {M : List Int} {D' : List UInt8} {M' : List Int} (h : Sin w u z5 z7 N d5 m5 d7 m7 F D M D' M') (t : Int) (s : ByteArray) (ht0 : 0 ≤ t) (ht1 : t ≤ 18446744073709551615) (hs : s.size ≤ 9223372036854775807) :
    Calls Try.prog 22 #[.pointer (some ⟨z7, 0, none⟩), .int .u64 t, .string s] u fun e u' => e = .returned (.bool (putB D'.length t s)) ∧ Sin w u' z5 z7 N d5 m5 d7 m7 F D M (putD D' t s) (putM D'.length M' F t s) := by
  refine (put_any z7 N d7 m7 F t D' M' s u h.v7 h.nd h.nm ht0 ht1 hs).mono ?_
  rintro e u' ⟨rfl, hp⟩
  have h5 := h.z5N
  have h7 := h.hw
  have hS : ∀ k, PutS d7 m7 k → N ≤ k := fun k hk => by
    rcases hk with hk | hk
    · exact (owns_lt h.nd hk.symm).1
    · exact (owns_lt h.nm hk.symm).1
  exact ⟨rfl, h.v5.touch hp.t (fun hk => by have := hS _ hk; omega), hp.var, owns_touch h.od hp.t (fun g hg hk => by have := hS _ hk; have := h.ld g hg; omega), owns_touch h.om hp.t (fun g hg hk => by have := hS _ hk; have := h.lm g hg; omega),
    hp.d, hp.m, h.ld, h.lm, h.inv.put t s, h.z5N, h.z7N, h.hw, Touch.below h.below hp.t (fun k hk => by have := hS _ hk; omega) h.below.size⟩
def Sins (w wr : World) (z5 z7 N : Nat) (d5 m5 : Value) (F : Int) (D : List UInt8) (M : List Int) : Prop := ∃ d7 m7 D' M', Sin w wr z5 z7 N d5 m5 d7 m7 F D M D' M'
theorem Sin.over {w u : World} {z5 z7 N : Nat} {d5 m5 d7 m7 d9 m9 : Value} {F : Int} {D : List UInt8} {M : List Int} {D' : List UInt8} {M' : List Int} {D9 : List UInt8} {M9 : List Int} (h : Sin w u z5 z7 N d5 m5 d7 m7 F D M D' M') (ho : OwnD u N d9 D9) (hm : OwnM u N m9 M9) (hi : RamInv D M.length F D9 M9) :
    Sin w (((u.setCell ⟨z7, 0, none⟩ d9).setCell ⟨z7, 1, none⟩ m9).setCell ⟨z7, 2, none⟩ (.int .u64 F)) z5 z7 N d5 m5 d9 m9 F D M D9 M9 := by
  have ht : Touch u (((u.setCell ⟨z7, 0, none⟩ d9).setCell ⟨z7, 1, none⟩ m9).setCell ⟨z7, 2, none⟩ (.int .u64 F)) (fun k => k = z7) :=
    (((Touch.refl u (fun k => k = z7)).setCell (.inl rfl) _).setCell (.inl rfl) _).setCell (.inl rfl) _
  have h5 := h.z5N
  have h7 := h.z7N
  have hw := h.hw
  exact ⟨h.v5.touch ht (by omega), h.v7.store _ _ _, owns_touch h.od ht (fun g hg e => not_at h.od h.v7 (by decide) (by rw [← e]; exact hg)), owns_touch h.om ht (fun g hg e => not_at h.om h.v7 (by decide) (by rw [← e]; exact hg)),
    owns_touch ho ht (fun g hg e => not_at ho h.v7 (by decide) (by rw [← e]; exact hg)), owns_touch hm ht (fun g hg e => not_at hm h.v7 (by decide) (by rw [← e]; exact hg)), h.ld, h.lm, hi, h.z5N, h.z7N, h.hw, Touch.below h.below ht (fun k hk => by omega) h.below.size⟩
def Pieced (w wx : World) (z5 z7 N : Nat) (d5 m5 d7 m7 : Value) (F : Int) (D : List UInt8) (M : List Int) (D' : List UInt8) (M' : List Int) (LP : List Pc) (s11 s12 : Value) : Prop :=
  ∃ pp cp, s11 = .slice pp LP.length cp ∧ s12 = .int .i64 0 ∧ PAt wx (.slice pp LP.length cp) LP ∧ Sin w wx z5 z7 N d5 m5 d7 m7 F D M D' M'
theorem st_ok {D D' : List UInt8} {m : Nat} {F : Int} {M' : List Int} (h : RamInv D m F D' M') (t size : Int) (x : Nat) (he : stE D'.length t size = 0) : stX D'.length F t size = F ∧ RamInv D m F (stD D' t size x) (stM D'.length M' F t size x) := by
  have hb : stB D'.length t size = true := by
    unfold stE at he
    unfold stB
    split at he
    · rename_i h1
      split at he
      · rename_i h2; rw [h1, h2]; rfl
      · omega
    · omega
  unfold stX stD stM
  rw [if_pos hb, if_pos hb, if_pos hb]
  exact ⟨rfl, h.put _ _⟩
/-- What a Store leaves beside. -/
structure StAt (w wx : World) (z5 z7 N z9 : Nat) (d5 m5 d9 m9 : Value) (X er F : Int) (D : List UInt8) (M : List Int) (D9 : List UInt8) (M9 : List Int) : Prop where
  sins : ∃ d7 m7 D' M', (∃ p n c q m c2, d7 = .slice p n c ∧ m7 = .slice q m c2) ∧ Sin w wx z5 z7 N d5 m5 d7 m7 F D M D' M'
  v9 : RamVar wx z9 d9 m9 X
  o9 : OwnD wx N d9 D9
  n9 : OwnM wx N m9 M9
  ok : er = 0 → X = F ∧ RamInv D M.length F D9 M9
  lt : z7 < z9
def Stored (w wx : World) (z5 z7 N : Nat) (d5 m5 : Value) (F : Int) (D : List UInt8) (M : List Int) (s9 s10 : Value) : Prop :=
  ∃ z9 p c q c2 X er D9 M9, s9 = .pointer (some ⟨z9, 0, none⟩) ∧ s10 = .int .i64 er ∧ StAt w wx z5 z7 N z9 d5 m5 (.slice p (List.length D9) c) (.slice q (List.length M9) c2) X er F D M D9 M9
theorem storedA {w wc u1 : World} {z5 z7 N : Nat} {d5 m5 : Value} {p7 q7 : Option Addr} {n7 c7 m7 c72 : Nat} {X er F : Int} {D : List UInt8} {M : List Int} {D' : List UInt8} {M' : List Int} {pa qa : Option Addr} {ca ca2 B : Nat} {D9 : List UInt8} {M9 : List Int}
    (h : Sin w wc z5 z7 N d5 m5 (.slice p7 n7 c7) (.slice q7 m7 c72) F D M D' M') (hb : Below wc.heap.size wc u1) (hd : OwnD u1 B (.slice pa D9.length ca) D9) (hm : OwnM u1 B (.slice qa M9.length ca2) M9) (hB : wc.heap.size ≤ B) (hok : er = 0 → X = F ∧ RamInv D M.length F D9 M9) :
    Stored w (u1.alloc (.cells #[.slice pa D9.length ca, .slice qa M9.length ca2, .int .u64 X] 26)) z5 z7 N d5 m5 F D M (.pointer (some ⟨u1.heap.size, 0, none⟩)) (.int .i64 er) := by
  have hbn := below1 u1 (.cells #[.slice pa D9.length ca, .slice qa M9.length ca2, .int .u64 X] 26)
  have h7 := h.v7.lt
  have hN := h.z7N
  have hs := hb.size
  exact ⟨_, _, _, _, _, X, er, D9, M9, rfl, rfl, ⟨_, _, _, _, ⟨_, _, _, _, _, _, rfl, rfl⟩, h.next (below_then hb hbn)⟩, heap_alloc_new _ _, owns_base (hd.below hbn) (by omega), owns_base (hm.below hbn) (by omega), hok, by omega⟩
theorem storedB {w wc u1 : World} {z5 z7 N : Nat} {d5 m5 : Value} {p7 q7 : Option Addr} {n7 c7 m7 c72 : Nat} {X er F : Int} {D : List UInt8} {M : List Int} {D' : List UInt8} {M' : List Int} {pa qa : Option Addr} {ca ca2 B : Nat} {D9 : List UInt8} {M9 : List Int} {z9 : Nat} {a b : Value} {E0 : Int}
    (h : Sin w wc z5 z7 N d5 m5 (.slice p7 n7 c7) (.slice q7 m7 c72) F D M D' M') (hb : Below wc.heap.size wc u1) (hd : OwnD u1 B (.slice pa D9.length ca) D9) (hm : OwnM u1 B (.slice qa M9.length ca2) M9) (hB : wc.heap.size ≤ B) (hok : er = 0 → X = F ∧ RamInv D M.length F D9 M9)
    (hv : RamVar u1 z9 a b E0) (hz : wc.heap.size ≤ z9) :
    Stored w (((u1.setCell ⟨z9, 0, none⟩ (.slice pa D9.length ca)).setCell ⟨z9, 1, none⟩ (.slice qa M9.length ca2)).setCell ⟨z9, 2, none⟩ (.int .u64 X)) z5 z7 N d5 m5 F D M (.pointer (some ⟨z9, 0, none⟩)) (.int .i64 er) := by
  have ht : Touch u1 (((u1.setCell ⟨z9, 0, none⟩ (.slice pa D9.length ca)).setCell ⟨z9, 1, none⟩ (.slice qa M9.length ca2)).setCell ⟨z9, 2, none⟩ (.int .u64 X)) (fun k => k = z9) :=
    (((Touch.refl u1 (fun k => k = z9)).setCell (.inl rfl) _).setCell (.inl rfl) _).setCell (.inl rfl) _
  have h7 := h.v7.lt
  have hN := h.z7N
  have hs := hb.size
  have hbx : Below wc.heap.size wc (((u1.setCell ⟨z9, 0, none⟩ (.slice pa D9.length ca)).setCell ⟨z9, 1, none⟩ (.slice qa M9.length ca2)).setCell ⟨z9, 2, none⟩ (.int .u64 X)) := Touch.below hb ht (fun k hk => by omega) hs
  exact ⟨_, _, _, _, _, X, er, D9, M9, rfl, rfl, ⟨_, _, _, _, ⟨_, _, _, _, _, _, rfl, rfl⟩, h.next hbx⟩, hv.store _ _ _, owns_base (owns_touch hd ht (fun g hg e => not_at hd hv (by decide) (by rw [← e]; exact hg))) (by omega), owns_base (owns_touch hm ht (fun g hg e => not_at hm hv (by decide) (by rw [← e]; exact hg))) (by omega), hok, by omega⟩
set_option maxRecDepth 100000 in
set_option maxHeartbeats 4000000 in
theorem since_law (dv mv sv : Value) (E : Int) (D : List UInt8) (M : List Int) (L : List Sp) (w : World) (hd : DAt w dv D) (hm : MAt w mv M) (hs : SAt w sv L) (hD : D.length ≤ 140737488351232) (hM : M.length ≤ 17592186043904) (hE0 : 0 ≤ E) (hE1 : E ≤ 18446744073709551615) :
    Calls Try.prog 6 #[.agg #[dv, mv, .int .u64 E], sv] w fun e w' => e = .returned (.bool true) ∧ Below w.heap.size w w' := by
  obtain ⟨p, cap, rfl⟩ := hd.is
  obtain ⟨q, cap2, rfl⟩ := hm.is
  obtain ⟨ps, caps, rfl⟩ := hs.is
  have hSle := hs.le
  have HD := Lib.hid hd
  have HM := Lib.hid hm
  have HS := Lib.hid hs
  have HE := Lib.hid (And.intro hE0 hE1)
  clear hd hm hs hE0 hE1
  have hbn := below1 w (.cells #[.slice p D.length cap, .slice q M.length cap2, .int .u64 E] 26)
  have HBN := Lib.hid (show RamVar (w.alloc (.cells #[.slice p D.length cap, .slice q M.length cap2, .int .u64 E] 26)) w.heap.size (.slice p D.length cap) (.slice q M.length cap2) E ∧ Below w.heap.size w (w.alloc (.cells #[.slice p D.length cap, .slice q M.length cap2, .int .u64 E] 26)) from ⟨heap_alloc_new _ _, below1 w _⟩)
  clear hbn
  go_enter Try.func6, Try.ntmps6
  go_wp2_with fail
  refine (awake_any _).mono ?_
  rintro e w0 ⟨rfl, hb0⟩
  have HB0 := Lib.hid (show RamVar w0 w.heap.size (.slice p D.length cap) (.slice q M.length cap2) E ∧ Below w.heap.size w w0 from ⟨HBN.out.1.below hb0, below_then HBN.out.2 hb0⟩)
  obtain ⟨a0, a1, a2⟩ := HB0.out.1.cells
  clear hb0 HBN
  go_wp2_with fail
  refine (check_any _ _ _ _ E M _ (HM.out.below HB0.out.2)).mono ?_
  rintro e w1 ⟨rfl, hb1⟩
  have HB1 := Lib.hid (show RamVar w1 w.heap.size (.slice p D.length cap) (.slice q M.length cap2) E ∧ Below w.heap.size w w1 from ⟨HB0.out.1.below hb1, below_then HB0.out.2 hb1⟩)
  clear a0 a1 a2 HB0 hb1
  obtain ⟨a0, a1, a2⟩ := HB1.out.1.cells
  by_cases hk : chkV D.length M E = 0
  · have hInv := RamInv.first hk
    rw [hk]
    clear hk
    go_wp2_with fail
    refine (next_any _ _ E D M _ (HD.out.below HB1.out.2) (HM.out.below HB1.out.2) hD hM HE.out.1 HE.out.2).mono ?_
    rintro e w2 ⟨dv1, mv1, rfl, hd1, hm1, hb2⟩
    obtain ⟨p1, cap1, rfl⟩ := owns_shape hd1
    obtain ⟨q1, cap11, rfl⟩ := owns_shape hm1
    generalize nextE E = F at *
    have hbn := below1 w2 (.cells #[.slice p1 D.length cap1, .slice q1 M.length cap11, .int .u64 F] 26)
    have HZ5 := Lib.hid (show RamVar (w2.alloc (.cells #[.slice p1 D.length cap1, .slice q1 M.length cap11, .int .u64 F] 26)) w2.heap.size (.slice p1 D.length cap1) (.slice q1 M.length cap11) F from heap_alloc_new _ _)
    have HB3 := Lib.hid (below_then (below_then HB1.out.2 hb2) hbn)
    have HD3 := Lib.hid (hd1.below hbn)
    have HM3 := Lib.hid (hm1.below hbn)
    have hz5 : (w2.alloc (.cells #[.slice p1 D.length cap1, .slice q1 M.length cap11, .int .u64 F] 26)).heap.size = w2.heap.size + 1 := World.size_alloc _ _
    have hw1 : w.heap.size < w1.heap.size := HB1.out.1.lt
    have hw2 := hb2.size
    have hld : ∀ g, (Value.slice p1 D.length cap1).ownBlock = some g → g < w2.heap.size + 1 := fun g hg => by have := (owns_lt hd1 hg).2; omega
    have hlm : ∀ g, (Value.slice q1 M.length cap11).ownBlock = some g → g < w2.heap.size + 1 := fun g hg => by have := (owns_lt hm1 hg).2; omega
    have HLD := Lib.hid hld
    have HLM := Lib.hid hlm
    have HI := Lib.hid hInv
    clear hb2 hd1 hm1 hbn a0 a1 a2 HB1 hld hlm hInv
    go_upto_region 6 with fail
    generalize w2.alloc (.cells #[.slice p1 D.length cap1, .slice q1 M.length cap11, .int .u64 F] 26) = w3 at *
    generalize w2.heap.size = z5 at *
    obtain ⟨z0, z1, z2⟩ := HZ5.out.cells
    go_wp2_with fail
    refine (rcopy_any _ _ F D M _ HD3.out.at HM3.out.at hD hM).mono ?_
    rintro e w4 ⟨dv2, mv2, rfl, hd4, hm4, hb4⟩
    obtain ⟨p2, cap2', rfl⟩ := owns_shape hd4
    obtain ⟨q2, cap22, rfl⟩ := owns_shape hm4
    have hbn := below1 w4 (.cells #[.slice p2 D.length cap2', .slice q2 M.length cap22, .int .u64 F] 26)
    have h7 : RamVar (w4.alloc (.cells #[.slice p2 D.length cap2', .slice q2 M.length cap22, .int .u64 F] 26)) w4.heap.size (.slice p2 D.length cap2') (.slice q2 M.length cap22) F := heap_alloc_new _ _
    have hs4 := hb4.size
    rw [hz5] at hd4 hm4 hs4
    have HSIN := Lib.hid (show Sins w (w4.alloc (.cells #[.slice p2 D.length cap2', .slice q2 M.length cap22, .int .u64 F] 26)) z5 w4.heap.size (z5 + 1) (.slice p1 D.length cap1) (.slice q1 M.length cap11) F D M from
      ⟨_, _, D, M, (HZ5.out.below hb4).below hbn, h7, owns_below (owns_below (owns_base HD3.out (by omega)) hb4) hbn, owns_below (owns_below (owns_base HM3.out (by omega)) hb4) hbn, hd4.below hbn, hm4.below hbn, HLD.out, HLM.out, HI.out, by omega, hs4, by omega, below_then (below_then HB3.out hb4) hbn⟩)
    clear hd4 hm4 hb4 hbn h7 HZ5 HD3 HM3 HB3 HLD HLM HI z0 z1 z2
    go_upto_region 7 with fail
    generalize w4.alloc (.cells #[.slice p2 D.length cap2', .slice q2 M.length cap22, .int .u64 F] 26) = w5 at *
    generalize w4.heap.size = z7 at *
    go_wp2_with fail
    go_loopw [8] (fun i wr => ∃ j : Nat, j ≤ L.length ∧ i = .int .i64 j ∧ Hid (Sins w wr z5 z7 (z5 + 1) (.slice p1 D.length cap1) (.slice q1 M.length cap11) F D M)) (fun i _ => L.length - (intOf i).toNat)
    case atStart => exact ⟨0, Nat.zero_le _, rfl, HSIN⟩
    case round =>
      obtain ⟨j, hj, rfl, hsin⟩ := hrel
      go_upto_region 8 with fail
      go_cut [34] from 27 to 70 (fun s34 wx => s34 = .bool (decide (j < L.length) && decide (j < 20)) ∧ Sins w wx z5 z7 (z5 + 1) (.slice p1 D.length cap1) (.slice q1 M.length cap11) F D M)
      case first =>
        by_cases h1 : j < L.length
        · by_cases h2 : j < 20
          · have g1 : decide ((j : Int) < 20) = true := decide_eq_true (by omega)
            have g2 : decide (j < 20) = true := decide_eq_true h2
            have g3 : decide (j < L.length) = true := decide_eq_true h1
            go_wp2_with fail
            go_meet
            exact ⟨by rw [g2, g3]; rfl, hsin.out⟩
          · have g1 : decide ((j : Int) < 20) = false := decide_eq_false (by omega)
            have g2 : decide (j < 20) = false := decide_eq_false h2
            have g3 : decide (j < L.length) = true := decide_eq_true h1
            go_wp2_with fail
            go_meet
            exact ⟨by rw [g2, g3]; rfl, hsin.out⟩
        · have g3 : decide (j < L.length) = false := decide_eq_false h1
          go_wp2_with fail
          go_meet
          exact ⟨by rw [g3]; rfl, hsin.out⟩
      case rest =>
        obtain ⟨rfl, hs8⟩ := hcut
        have H8 := Lib.hid hs8
        clear hs8 hsin
        rcases Bool.eq_false_or_eq_true (decide (j < L.length) && decide (j < 20)) with hgo | hgo
        · rw [hgo]
          have hlt : j < L.length := by simp at hgo; omega
          clear hgo
          obtain ⟨d7, m7, D', M', hsn⟩ := H8.out
          obtain ⟨p7, c7, rfl⟩ := owns_shape hsn.nd
          obtain ⟨q7, c72, rfl⟩ := owns_shape hsn.nm
          obtain ⟨b, off, _, e1, hb, hc⟩ := (HS.out.below hsn.below).cell (by omega)
          simp only [Value.slice.injEq, true_and] at e1
          obtain ⟨rfl, rfl⟩ := e1
          have c0 := (hc j hlt).1
          have c3 := (hc j hlt).2.2.2
          have HCELL : Hid (∀ u, Below w.heap.size w u → u.cell? ⟨b, off + j * 4, none⟩ = some (.int .u64 L[j].t) ∧ u.cell? ⟨b, off + j * 4 + 1, none⟩ = some (.int .i64 L[j].size) ∧ u.cell? ⟨b, off + j * 4 + 2, none⟩ = some (.int .u64 (L[j].x : Nat)) ∧ u.cell? ⟨b, off + j * 4 + 3, none⟩ = some (.string L[j].s)) := Lib.hid fun u hbu => by
            obtain ⟨b2, off2, _, e2, _, hc2⟩ := (HS.out.below hbu).cell (by omega)
            simp only [Value.slice.injEq, Option.some.injEq, Addr.mk.injEq, and_true, true_and] at e2
            obtain ⟨⟨rfl, rfl⟩, _⟩ := e2
            exact hc2 j hlt
          clear hc H8
          have HSN := Lib.hid hsn
          have HSPT := Lib.hid (And.intro L[j].t0 (And.intro L[j].t1 L[j].sl))
          clear hsn
          go_upto_region 10 with fail
          go_cut [] from 27 to 70 (fun wx => Sins w wx z5 z7 (z5 + 1) (.slice p1 D.length cap1) (.slice q1 M.length cap11) F D M)
          case first =>
            have HPUT := Lib.hid ((show Sin w wc.drew z5 z7 (z5 + 1) _ _ _ _ F D M D' M' from HSN.out.next (nb_drew (Below.refl _ _))).put L[j].t L[j].s HSPT.out.1 HSPT.out.2.1 HSPT.out.2.2)
            generalize L[j].t = T at *
            generalize L[j].s = S at *
            go_region_held3 (fun w' => w'.cell? ⟨b, off + j * 4, none⟩ = some (.int .u64 T) ∧ w'.cell? ⟨b, off + j * 4 + 3, none⟩ = some (.string S)) (first | exact ⟨c0, c3⟩ | exact ⟨(HCELL.out _ K1.below).1, (HCELL.out _ K1.below).2.2.2⟩)
              (first | (go_at_call 22; (with_reducible refine HPUT.out.mono ?_); rintro e u1 ⟨rfl, K1⟩))
            all_goals (go_wp2_with fail; go_meet)
            all_goals exact ⟨_, _, _, _, K1⟩
          case rest =>
            obtain ⟨d7', m7', D2, M2, hsn2⟩ := hcut
            obtain ⟨p8, c8, rfl⟩ := owns_shape hsn2.nd
            obtain ⟨q8, c82, rfl⟩ := owns_shape hsn2.nm
            have hd2 : D2.length = D.length := hsn2.inv.ld
            have hm2 : M2.length = M.length := hsn2.inv.lm
            have HC0 := Lib.hid (fun (x : World) (hx : Below wc.heap.size wc x) => HCELL.out x (below_then hsn2.below hx))
            have ht0 := HSPT.out.1
            have ht1 := HSPT.out.2.1
            have hx1 := L[j].x1
            generalize L[j].t = T at *
            generalize L[j].s = S at *
            generalize L[j].size = Z at *
            generalize L[j].x = X at *
            have hok := st_ok hsn2.inv T Z X
            obtain ⟨D9, hD9⟩ : ∃ D9, D9 = stD D2 T Z X := ⟨_, rfl⟩
            obtain ⟨M9, hM9⟩ : ∃ M9, M9 = stM D2.length M2 F T Z X := ⟨_, rfl⟩
            have HC := Lib.hid (fun (W : World) (hW : Below wc.heap.size wc W) => (store_all (.slice p8 D2.length c8) (.slice q8 M2.length c82) F D2 M2 T Z X W (hsn2.next hW).nd.at (hsn2.next hW).nm.at (by omega) (by omega) ht0 ht1 hx1).mono (R' := fun e u => ∃ pa ca qa ca2, e = .returned (.tuple #[.agg #[.slice pa D9.length ca, .slice qa M9.length ca2, .int .u64 (stX D2.length F T Z)], .int .i64 (stE D2.length T Z)]) ∧ OwnD u W.heap.size (.slice pa D9.length ca) D9 ∧ OwnM u W.heap.size (.slice qa M9.length ca2) M9 ∧ Below wc.heap.size wc u ∧ Below W.heap.size W u) fun e u ⟨dv, mv, he, hd, hm, hb⟩ => by
              rw [← hD9] at hd
              rw [← hM9] at hm
              obtain ⟨pa, ca, rfl⟩ := owns_shape hd
              obtain ⟨qa, ca2, rfl⟩ := owns_shape hm
              exact ⟨pa, ca, qa, ca2, he, hd, hm, below_then hW hb, hb⟩)
            rw [← hD9, ← hM9] at hok
            have HOK := Lib.hid hok
            have HSS := Lib.hid (fun (x : World) (hx : Below wc.heap.size wc x) => (show x.cell? ⟨z7, 0, none⟩ = some (.slice p8 D2.length c8) ∧ x.cell? ⟨z7, 1, none⟩ = some (.slice q8 M2.length c82) ∧ x.cell? ⟨z7, 2, none⟩ = some (.int .u64 F) ∧ x.cell? ⟨b, off + j * 4, none⟩ = some (.int .u64 T) ∧ x.cell? ⟨b, off + j * 4 + 1, none⟩ = some (.int .i64 Z) ∧ x.cell? ⟨b, off + j * 4 + 2, none⟩ = some (.int .u64 (X : Nat)) from
              ⟨(hsn2.next hx).v7.cells.1, (hsn2.next hx).v7.cells.2.1, (hsn2.next hx).v7.cells.2.2, (HC0.out x hx).1, (HC0.out x hx).2.1, (HC0.out x hx).2.2.1⟩))
            have HSN2 := Lib.hid hsn2
            have N0 : Below wc.heap.size wc wc := Below.refl _ _
            generalize stX D2.length F T Z = X9 at *
            generalize stE D2.length T Z = E9 at *
            clear hok hD9 hM9 hsn2 HCELL HC0 HSN HSPT ht0 ht1 hx1 hd2 hm2 c0 c3
            go_upto_region 11 with fail
            go_cut [9, 10] from 27 to 70 (fun s9 s10 wx => Stored w wx z5 z7 (z5 + 1) (.slice p1 D.length cap1) (.slice q1 M.length cap11) F D M s9 s10)
            case first =>
              go_region_held3 (fun x => x.cell? ⟨z7, 0, none⟩ = some (.slice p8 D2.length c8) ∧ x.cell? ⟨z7, 1, none⟩ = some (.slice q8 M2.length c82) ∧ x.cell? ⟨z7, 2, none⟩ = some (.int .u64 F) ∧ x.cell? ⟨b, off + j * 4, none⟩ = some (.int .u64 T) ∧ x.cell? ⟨b, off + j * 4 + 1, none⟩ = some (.int .i64 Z) ∧ x.cell? ⟨b, off + j * 4 + 2, none⟩ = some (.int .u64 (X : Nat)))
                ((refine HSS.out _ ?_; (repeat (first | with_reducible exact N1 | with_reducible exact N0 | with_reducible refine nb_drew ?_ | with_reducible refine nb_alloc ?_ _ | with_reducible refine nb_set (by omega) ?_ _ _))))
                (first | (go_at_call 14; (with_reducible refine (HC.out _ ?bel1).mono ?_); (case bel1 => (repeat (first | with_reducible exact N0 | with_reducible refine nb_drew ?_ | with_reducible refine nb_alloc ?_ _))); rintro e u1 ⟨pa, ca, qa, ca2, rfl, hda, hma, N1, hb1⟩; have s1 := N1.size; (first | (obtain ⟨M1, V1⟩ := back1 (w := wc) (undrew hb1); obtain ⟨k0, k1, k2⟩ := V1.cells; have k3 := V1.free 0; have k4 := V1.free 1; have k5 := V1.free 2; have kl := V1.lt) | have M1 := back0 (w := wc) (undrew hb1))))
              all_goals (go_wp2_with fail; go_meet)
              all_goals first
                | with_reducible exact storedA HSN2.out N1 hda hma (by first | exact Nat.le_refl _ | (simp; done) | (simp; omega)) HOK.out
                | with_reducible exact storedB HSN2.out N1 hda hma (by first | exact Nat.le_refl _ | (simp; done) | (simp; omega)) HOK.out V1 (by omega)
            case rest =>
              obtain ⟨z9, p9, c9, q9, c92, X9', E9', D9', M9', rfl, rfl, hst⟩ := hcut
              obtain ⟨d7x, m7x, D7, M7, ⟨p9', n9', c9', q9', m9', c92', rfl, rfl⟩, hsn3⟩ := hst.sins
              have HX := Lib.hid hst
              have HSN3 := Lib.hid hsn3
              clear hst hsn3 HOK HC HSS HSN2 N0
              by_cases her : E9' = 0
              · obtain rfl := her
                obtain ⟨rfl, hinv⟩ := HX.out.ok rfl
                have HI := Lib.hid hinv
                clear hinv
                obtain ⟨y0, y1, y2⟩ := HX.out.v9.cells
                have hv7 := HSN3.out.v7
                have x3 := hv7.free 0
                have x4 := hv7.free 1
                have x5 := hv7.free 2
                obtain ⟨x0, x1, x2⟩ := hv7.cells
                have hlt9 := HX.out.lt
                have HNX := Lib.hid (Sin.over HSN3.out HX.out.o9 HX.out.n9 HI.out)
                clear hv7
                go_wp2_with fail
                exact ⟨⟨j + 1, by omega, by go_num, Lib.hid ⟨_, _, _, _, HNX.out⟩⟩, by simp [intOf]; omega⟩
              · have her2 : (E9' == 0) = false := by rw [beq_eq_false_iff_ne]; exact her
                go_wp2_with fail
                exact ⟨⟨j + 1, by omega, by go_num, Lib.hid ⟨_, _, _, _, HSN3.out⟩⟩, by simp [intOf]; omega⟩
        · rw [hgo]
          clear hgo
          obtain ⟨d7, m7, D', M', hsn⟩ := H8.out
          obtain ⟨p7, c7, rfl⟩ := owns_shape hsn.nd
          obtain ⟨q7, c72, rfl⟩ := owns_shape hsn.nm
          have hld := hsn.inv.ld
          have hlm := hsn.inv.lm
          have hln := hsn.inv.ln
          have hm2 := hsn.inv.m2
          have hlaid := hsn.inv.laid
          have hgood := since_good hsn.inv
          have hlen := sinceTo_len M' F M'.length
          have HCHK := Lib.hid hsn.inv.chk
          have HSN := Lib.hid hsn
          have N0 : Below wc.heap.size wc wc := Below.refl _ _
          have H30 := Lib.hid (fun (W : World) (hW : Below wc.heap.size wc W) => (since_any p7 D'.length c7 (.slice q7 M'.length c72) F M' F W (HSN.out.next hW).nm.at (by omega) (by omega) (by omega)).mono (R' := fun e u => ∃ ps cs, e = .returned (.slice ps (sinceTo M' F M'.length).length cs) ∧ IAt u (.slice ps (sinceTo M' F M'.length).length cs) (sinceTo M' F M'.length) ∧ Below wc.heap.size wc u) fun e u ⟨ps, cs, he, ho, hb⟩ => ⟨ps, cs, he, ho.at, below_then hW hb⟩)
          have H29 := Lib.hid (fun (W : World) (hW : Below wc.heap.size wc W) (ps : Option Addr) (cs : Nat) (hi : IAt W (.slice ps (sinceTo M' F M'.length).length cs) (sinceTo M' F M'.length)) => (pieces_any (.slice p7 D'.length c7) (.slice q7 M'.length c72) (.slice ps (sinceTo M' F M'.length).length cs) F D' (sinceTo M' F M'.length) W (HSN.out.next hW).nd.at hi (by omega) hgood rfl ⟨_, _, _, rfl⟩).mono (R' := fun e u => ∃ pp cp, e = .returned (.tuple #[.slice pp ((sinceTo M' F M'.length).map (pieceOf D')).length cp, .int .i64 0]) ∧ PAt u (.slice pp ((sinceTo M' F M'.length).map (pieceOf D')).length cp) ((sinceTo M' F M'.length).map (pieceOf D')) ∧ Below wc.heap.size wc u) fun e u ⟨v, he, ho, hb⟩ => by
            obtain ⟨pp, cp, rfl⟩ := owns_shape ho
            exact ⟨pp, cp, he, reads_of_owns ho, below_then hW hb⟩)
          have HSS := Lib.hid (fun (x : World) (hx : Below wc.heap.size wc x) => (HSN.out.next hx).v7.cells)
          generalize (sinceTo M' F M'.length).map (pieceOf D') = LP at *
          generalize sinceTo M' F M'.length = LI at *
          have HLAID := Lib.hid hlaid
          clear hlaid hgood hlen hsn H8 hld hlm hln hm2
          go_upto_region 14 with fail
          go_cut [11, 12] (fun s11 s12 wx => Pieced w wx z5 z7 (z5 + 1) (.slice p1 D.length cap1) (.slice q1 M.length cap11) (.slice p7 D'.length c7) (.slice q7 M'.length c72) F D M D' M' LP s11 s12)
          case first =>
            go_region_held3 (fun x => x.cell? ⟨z7, 0, none⟩ = some (.slice p7 D'.length c7) ∧ x.cell? ⟨z7, 1, none⟩ = some (.slice q7 M'.length c72) ∧ x.cell? ⟨z7, 2, none⟩ = some (.int .u64 F))
              ((refine HSS.out _ ?_; (repeat (first | with_reducible exact N2 | with_reducible exact N1 | with_reducible exact N0 | with_reducible refine nb_drew ?_))))
              (first | (go_at_call 30; (with_reducible refine (H30.out _ ?bel1).mono ?_); (case bel1 => (repeat (first | with_reducible exact N0 | with_reducible refine nb_drew ?_))); rintro e u1 ⟨ps, cs, rfl, K1, N1⟩) | (go_at_call 29; (with_reducible refine (H29.out _ N1 _ _ K1).mono ?_); rintro e u2 ⟨pp, cp, rfl, K2, N2⟩))
            all_goals (go_wp2_with fail; go_meet)
            all_goals exact ⟨_, _, rfl, rfl, K2, HSN.out.next N2⟩
          case rest =>
            obtain ⟨pp, cp, rfl, rfl, hpp, hsn2⟩ := hcut
            have HPP := Lib.hid hpp
            have HSN2 := Lib.hid hsn2
            obtain ⟨y0, y1, y2⟩ := hsn2.v5.cells
            clear hpp hsn2 H30 H29 HSS N0 HSN
            go_wp2_with fail
            refine (lay_any _ _ _ F D M LP _ HSN2.out.od.at HSN2.out.om.at HPP.out hD hM).mono ?_
            rintro e w13 hlay
            unfold LayRes at hlay
            simp only [HLAID.out.1, if_true, HLAID.out.2] at hlay
            obtain ⟨dv13, mv13, rfl, hd13, hm13, hb13⟩ := hlay
            generalize layM D.length M F LP = M13 at *
            obtain ⟨p13, c13, rfl⟩ := owns_shape hd13
            obtain ⟨q13, c132, rfl⟩ := owns_shape hm13
            have hbn := below1 w13 (.cells #[.slice p13 D'.length c13, .slice q13 M13.length c132, .int .u64 F] 26)
            have HZ13 := Lib.hid (show RamVar (w13.alloc (.cells #[.slice p13 D'.length c13, .slice q13 M13.length c132, .int .u64 F] 26)) w13.heap.size (.slice p13 D'.length c13) (.slice q13 M13.length c132) F from heap_alloc_new _ _)
            have HSN3 := Lib.hid (HSN2.out.next (below_then hb13 hbn))
            have HO13 := Lib.hid (show DAt _ _ D' from (hd13.below hbn).at)
            clear hd13 hm13 hb13 hbn y0 y1 y2 HPP HSN2 HLAID
            go_upto_region 16 with fail
            generalize w13.alloc (.cells #[.slice p13 D'.length c13, .slice q13 M13.length c132, .int .u64 F] 26) = w14 at *
            generalize w13.heap.size = z13 at *
            obtain ⟨y13, _, _⟩ := HZ13.out.cells
            obtain ⟨y70, y71, y72⟩ := HSN3.out.v7.cells
            have v13 := string_of HO13.out
            have v7 := string_of HSN3.out.nd.at
            generalize (⟨D'.toArray⟩ : ByteArray) = S at v13 v7
            go_wp2_with fail
            refine (check_any _ _ _ _ F M' _ HSN3.out.nm.at).mono ?_
            rintro e w15 ⟨rfl, hb15⟩
            rw [HCHK.out]
            have HB15 := Lib.hid (below_then HSN3.out.below hb15)
            clear hb15 HCHK y13 y70 y71 y72 v13 v7
            go_wp2_with fail
            go_ret
            exact ⟨rfl, HB15.out⟩
  · have hk2 : (chkV D.length M E != 0) = true := by rw [bne_iff_ne]; exact hk
    generalize chkV D.length M E = V at *
    clear hk
    go_wp2_with fail
    go_ret
    exact ⟨rfl, HB1.out.2⟩
end Go.Proofs.Ytocphogddjcblaa
