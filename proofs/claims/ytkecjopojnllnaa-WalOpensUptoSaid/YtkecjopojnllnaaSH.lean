/- A segment after the other, from the last one on. -/
import Derived.Test.YtkecjopojnllnaaSF
import Derived.RangeFuncNested
import Derived.RangeFuncBox
import Derived.RangeFuncLeaves
import Derived.Shelf.Abstract
import Derived.OwnWalkIn
import Derived.TacticsInMore
import Derived.LoopNIn
import Derived.LoopIn
namespace Go.Proofs.Ytkecjopojnllnaa
open Go.RowKit Go.Deep Go.Joins Go.Shelf
attribute [local go_sem] Oper.semAt_some
/-- What has come when k rounds are over. -/
def bkAt (D : List Sg) (j : Nat) : Nat × Sg := (D.length - 1 - j, (D[D.length - 1 - j]?).getD ⟨0, ⟨#[]⟩, ⟨#[]⟩, none, 0, 0⟩)
def bk (D : List Sg) (k : Nat) : List (Nat × Sg) := (List.range k).map (bkAt D)
theorem bk_succ (D : List Sg) (k : Nat) : bk D (k + 1) = bk D k ++ [bkAt D k] := by simp [bk, List.range_succ]
theorem bk_length (D : List Sg) (k : Nat) : (bk D k).length = k := by simp [bk]
/-- What a round keeps: what lay below, and the box that the iterator reads. -/
def KpB (n₀ Bs : Nat) (A B : World) : Prop := Below n₀ A B ∧ B.heap[Bs]? = A.heap[Bs]?
theorem KpB.trans {n₀ Bs : Nat} {A B C : World} (h : KpB n₀ Bs A B) (h' : KpB n₀ Bs B C) : KpB n₀ Bs A C := ⟨h.1.trans h'.1, h'.2.trans h.2⟩
set_option maxRecDepth 100000 in
set_option maxHeartbeats 2000000 in
theorem back1_in (F : Fence) (n : Nat) (h7 : F.fn 74) (hro : F.round = none) (hn : 1 ≤ n) (l Bs n₀ b off cap : Nat) (D : List Sg) (hD : D.length ≤ 1000000) (hb : b < n₀) (J Jx : List (Nat × Sg) → World → Prop)
    (hY : ∀ pre x W, J pre W → pre.length < D.length → YieldAt F (n - 1) Try.prog l #[.int .i64 (x.1 : Int), x.2.val] W fun e W' =>
      (e = .returned (.bool true) ∧ J (pre ++ [x]) W' ∧ KpB n₀ Bs W W') ∨ (e = .returned (.bool false) ∧ Jx (pre ++ [x]) W'))
    (W : World) (hBs : W.cell? ⟨Bs, 0, none⟩ = some (.slice (some ⟨b, off, none⟩) D.length cap))
    (hc : ∀ j (hj : j < D.length), W.cell? ⟨b, off + j * 4, none⟩ = some (.int .i64 D[j].num) ∧ W.cell? ⟨b, off + j * 4 + 1, none⟩ = some (.string D[j].name) ∧ W.cell? ⟨b, off + j * 4 + 2, none⟩ = some (.string D[j].safe) ∧ W.cell? ⟨b, off + j * 4 + 3, none⟩ = some D[j].ov) (h0 : J [] W) :
    CallsIn F n Try.prog 74 #[.func (.yield l) #[] #[], .pointer (some ⟨Bs, 0, none⟩)] W fun e W' => (∃ v, e = .returned v) ∧
      ((∃ ys, ys = bk D D.length ∧ J ys W') ∨ (∃ pre, (∃ k, k ≤ D.length ∧ pre = bk D k) ∧ Jx pre W')) := by
  refine callsIn_of_wp Try.func74 rfl h7 ?_ hro
  simp only [Try.ntmps74, List.size_toArray, List.length_cons, List.length_nil, Nat.reduceAdd, Nat.reduceSub, Array.replicate_succ, Array.replicate_zero, List.push_toArray, List.append_toArray, List.nil_append, List.cons_append]
  gi_wp2
  gi_loopw [3] (fun i wr => ∃ k : Nat, k ≤ D.length ∧ i = .int .i64 ((D.length : Int) - 1 - k) ∧ J (bk D k) wr ∧ KpB n₀ Bs W wr)
    (fun i _ => (intOf i + 1).toNat)
  case atStart => exact ⟨0, Nat.zero_le _, by simp, h0, Below.refl _ _, rfl⟩
  case round =>
    obtain ⟨k, hk, rfl, hJs, hnx⟩ := hrel
    have hbs : wr.cell? ⟨Bs, 0, none⟩ = some (.slice (some ⟨b, off, none⟩) D.length cap) := (World.cell?_of_block (a := ⟨Bs, 0, none⟩) hnx.2).trans hBs
    by_cases hlt : k < D.length
    · obtain ⟨m, hm⟩ : ∃ m, m = D.length - 1 - k := ⟨_, rfl⟩
      have hmD : m < D.length := by omega
      have hbk : bkAt D k = (m, D[m]) := by
        unfold bkAt
        rw [← hm, List.getElem?_eq_getElem hmD]
        rfl
      have hmI : (D.length : Int) - 1 - (k : Int) = (m : Int) := by omega
      obtain ⟨x0, x1, x2, x3⟩ := hc m hmD
      have y0 := (hnx.1.cell (p := ⟨b, off + m * 4, none⟩) hb).trans x0
      have y1 := (hnx.1.cell (p := ⟨b, off + m * 4 + 1, none⟩) hb).trans x1
      have y2 := (hnx.1.cell (p := ⟨b, off + m * 4 + 2, none⟩) hb).trans x2
      have y3 := (hnx.1.cell (p := ⟨b, off + m * 4 + 3, none⟩) hb).trans x3
      obtain ⟨fn, tmps, assign, body, hy, hR⟩ := hY _ (bkAt D k) wr hJs (by rw [bk_length]; exact hlt)
      rw [hbk] at hy
      dsimp only at hy
      unfold Sg.val at hy
      have HC := Lib.hid hc
      have HBK := Lib.hid hbk
      have HM := Lib.hid hm
      have HRR := Lib.hid hR
      clear hc hbk hm x0 x1 x2 x3 hR
      gi_wp2
      refine HRR.out.mono ?_
      rintro e W3 (⟨rfl, hJ3, hk3⟩ | ⟨rfl, hJx3⟩)
      · gi_wp2
        go_roundw
        case rel => exact ⟨k + 1, by omega, by congr 1; omega, by rw [bk_succ]; exact hJ3, hnx.trans hk3⟩
        case measure => simp [intOf]; omega
      · gi_wp2
        refine bodyPost_ret (results_none rfl _ _ _) rfl ?_
        exact ⟨⟨_, rfl⟩, .inr ⟨_, ⟨k + 1, by omega, (bk_succ _ _).symm⟩, hJx3⟩⟩
    · obtain rfl : k = D.length := by omega
      have hI : (D.length : Int) - 1 - (D.length : Int) = -1 := by omega
      clear hc
      gi_wp2
      go_end0
      exact ⟨⟨_, rfl⟩, .inl ⟨_, rfl, hJs⟩⟩
set_option maxRecDepth 100000 in
set_option maxHeartbeats 1000000 in
theorem back1_nil_in (F : Fence) (n : Nat) (h7 : F.fn 74) (hro : F.round = none) (l Bs : Nat) (J : List (Nat × Sg) → World → Prop) (W : World) (hBs : W.cell? ⟨Bs, 0, none⟩ = some (.slice none 0 0)) (h0 : J [] W) :
    CallsIn F n Try.prog 74 #[.func (.yield l) #[] #[], .pointer (some ⟨Bs, 0, none⟩)] W fun e W' => (∃ v, e = .returned v) ∧ J [] W' := by
  refine callsIn_of_wp Try.func74 rfl h7 ?_ hro
  simp only [Try.ntmps74, List.size_toArray, List.length_cons, List.length_nil, Nat.reduceAdd, Nat.reduceSub, Array.replicate_succ, Array.replicate_zero, List.push_toArray, List.append_toArray, List.nil_append, List.cons_append]
  gi_wp2
  gi_loopw [3] (fun i wr => i = .int .i64 (-1) ∧ J [] wr) (fun _ _ => 0)
  case atStart => exact ⟨rfl, h0⟩
  case round =>
    obtain ⟨rfl, hJs⟩ := hrel
    gi_wp2
    go_end0
    exact ⟨⟨_, rfl⟩, hJs⟩
set_option maxHeartbeats 1000000 in
theorem back_in (F : Fence) (n : Nat) (h5 : F.fn 57) (hro : F.round = none) (a : Option Addr) (len cap : Nat) (w : World) :
    CallsIn F n Try.prog 57 #[.slice a len cap] w fun e w' => e = .returned (.func (.func 74) #[] #[.pointer (some ⟨w.heap.size, 0, none⟩)]) ∧ w' = w.alloc (.cells #[.slice a len cap] 60) := by
  refine callsIn_of_wp Try.func57 rfl h5 ?_ hro
  simp only [Try.ntmps57, List.size_toArray, List.length_cons, List.length_nil, Nat.reduceAdd, Nat.reduceSub, Array.replicate_succ, Array.replicate_zero, List.push_toArray, List.append_toArray, List.nil_append, List.cons_append]
  gi_wp2
  go_ret
  exact ⟨rfl, rfl⟩
/-- The slice value holds these segments, in a block below n₀; or it is nil and there are none. -/
def SgsIn (n₀ : Nat) (W : World) (sv : Value) (D : List Sg) : Prop :=
  (sv = .slice none 0 0 ∧ D = []) ∨ ∃ b off cap, sv = .slice (some ⟨b, off, none⟩) D.length cap ∧ b < n₀ ∧ ∀ j (hj : j < D.length), W.cell? ⟨b, off + j * 4, none⟩ = some (.int .i64 D[j].num) ∧ W.cell? ⟨b, off + j * 4 + 1, none⟩ = some (.string D[j].name) ∧ W.cell? ⟨b, off + j * 4 + 2, none⟩ = some (.string D[j].safe) ∧ W.cell? ⟨b, off + j * 4 + 3, none⟩ = some D[j].ov
theorem SgsIn.below {n₀ : Nat} {A B : World} (h : Below n₀ A B) {sv : Value} {D : List Sg} (hs : SgsIn n₀ A sv D) : SgsIn n₀ B sv D := by
  rcases hs with h1 | ⟨b, off, cap, h1, h2, h3⟩
  · exact .inl h1
  · refine .inr ⟨b, off, cap, h1, h2, fun j hj => ?_⟩
    obtain ⟨x0, x1, x2, x3⟩ := h3 j hj
    exact ⟨(h.cell (p := ⟨b, off + j * 4, none⟩) h2).trans x0, (h.cell (p := ⟨b, off + j * 4 + 1, none⟩) h2).trans x1, (h.cell (p := ⟨b, off + j * 4 + 2, none⟩) h2).trans x2, (h.cell (p := ⟨b, off + j * 4 + 3, none⟩) h2).trans x3⟩
theorem back_stops (F : Fence) (n : Nat) (h7 : F.fn 74) (hro : F.round = none) (hn : 1 ≤ n) (Bs n₀ : Nat) (sv : Value) (D : List Sg) (hD : D.length ≤ 1000000) (w : World) (hBs : Bs < w.heap.size) (hn₀ : n₀ ≤ w.heap.size)
    (hc : w.cell? ⟨Bs, 0, none⟩ = some sv) (hI : SgsIn n₀ w sv D) :
    SeqStopsK F n Try.prog 74 #[.pointer (some ⟨Bs, 0, none⟩)] (fun x : Nat × Sg => #[Value.int .i64 (x.1 : Int), x.2.val]) (KpB n₀ Bs) (fun ys => ys = bk D D.length) (fun pre => ∃ k, k ≤ D.length ∧ pre = bk D k) D.length w := fun l J Jx W hW _ _ hY h0 => by
  have hc' := (hW.cell (p := ⟨Bs, 0, none⟩) hBs).trans hc
  rcases hI.below (hW.mono hn₀) with ⟨rfl, rfl⟩ | ⟨b, off, cap, rfl, hb, hcs⟩
  · exact (back1_nil_in F n h7 hro l Bs J W hc' h0).mono fun e W' ⟨he, hj⟩ => ⟨he, .inl ⟨_, rfl, hj⟩⟩
  · exact back1_in F n h7 hro hn l Bs n₀ b off cap D hD hb J Jx hY W hc' hcs h0
end Go.Proofs.Ytkecjopojnllnaa
namespace Go.Proofs.Ytkecjopojnllnaa
open Go.RowKit Go.Deep Go.Joins Go.Shelf
attribute [local go_sem] Oper.semAt_some
/-- A segment's four cells in a block of their own. -/
def Boxed4 (W : World) (B : Nat) (s : Sg) : Prop := W.heap[B]? = some (.cells #[.int .i64 s.num, .string s.name, .string s.safe, s.ov] 84 (0, 0))
theorem Boxed4.new (W : World) (s : Sg) : Boxed4 (W.alloc (.cells #[.int .i64 s.num, .string s.name, .string s.safe, s.ov] 84)) W.heap.size s := World.alloc_heap_new W _
theorem Boxed4.lt {W : World} {B : Nat} {s : Sg} (h : Boxed4 W B s) : B < W.heap.size := (Array.getElem?_eq_some_iff.1 h).1
theorem Boxed4.c {W : World} {B : Nat} {s : Sg} (h : Boxed4 W B s) : W.cell? ⟨B, 1, none⟩ = some (.string s.name) := by simp [World.cell?, show W.heap[B]? = _ from h]
theorem boxed4_own (B : Nat) (s : Sg) : Own (fun (_ : Unit) W => Boxed4 W B s) := by
  intro _ X Y row h hg hr
  refine (hg.block B h.lt (fun e => ?_)).trans h
  obtain ⟨o, ho, hc⟩ := hr B e.symm
  rw [show X.heap[B]? = _ from h] at ho
  cases ho
  cases hc
def dropsOf (D : List Sg) : List DOp := D.reverse.map fun s => dropOp s.name
def dops (pre : List (Nat × Sg)) : List DOp := pre.map fun x => dropOp x.2.name
set_option maxRecDepth 100000 in
set_option maxHeartbeats 4000000 in
theorem drops_in (F : Fence) (n : Nat) (h3 : F.fn 34) (h4 : F.fn 57) (h5 : F.fn 74) (hro : F.round = none) (hn : 3 ≤ n) (D : List Sg) (q : Option Addr) (cap : Nat) (w : World) (hD : D.length ≤ 1000000) (hI : SgsIn w.heap.size w (.slice q D.length cap) D) :
    CallsIn F n Try.prog 34 #[.slice q D.length cap] w fun e W' => ∃ v, e = .returned v ∧ OwnP W' w.heap.size v (dops (bk D D.length)) ∧ Below w.heap.size w W' := by
  have h1 : 1 ≤ n := by omega
  obtain ⟨i0, hi, hz0, hz1, hz2⟩ := info_parts (show (Try.prog.info? 55).map (fun i => (i.zero, i.size, i.bytes)) = some (some (.agg #[.int .i64 0, .string .empty, .int .i64 0, .string .empty]), 4, 48) by kernel_rfl)
  refine callsIn_of_wp_marks Try.func34 rfl h3 ?_ hro
  simp only [Try.ntmps34, List.size_toArray, List.length_cons, List.length_nil, Nat.reduceAdd, Nat.reduceSub, Array.replicate_succ, Array.replicate_zero, List.push_toArray, List.append_toArray, List.nil_append, List.cons_append]
  gi_wp2_with (gi_at_call 57; refine (back_in F (n - 1) h4 hro _ _ _ _).mono ?_; rintro e w' ⟨rfl, rfl⟩)
  have bO := Boxed.new w 28 (.slice none 0 0)
  have bN := Boxed.new (w.alloc (.cells #[.slice none 0 0] 28)) 60 (.slice q D.length cap)
  rw [World.size_alloc] at bN
  have hB0 : Below w.heap.size w ((w.alloc (.cells #[.slice none 0 0] 28)).alloc (.cells #[.slice q D.length cap] 60)) := ((Below.refl _ w).alloc (Nat.le_refl _) _).alloc (by simp) _
  have bO' := bO.alloc (.cells #[.slice q D.length cap] 60)
  have hs0 : ((w.alloc (.cells #[.slice none 0 0] 28)).alloc (.cells #[.slice q D.length cap] 60)).heap.size = w.heap.size + 2 := by simp
  obtain ⟨W0, hW0⟩ : ∃ W0, (w.alloc (.cells #[.slice none 0 0] 28)).alloc (.cells #[.slice q D.length cap] 60) = W0 := ⟨_, rfl⟩
  rw [hW0] at bN hB0 bO' hs0 ⊢
  clear bO hW0
  refine wpIn_rangeFunc_ownH hro h1 (gf := 74) (lb := #[.pointer (some ⟨w.heap.size + 1, 0, none⟩)]) rfl h5 (enters_of Try.func74 (by kernel_rfl) rfl)
    (back_stops F (n - 1) h5 hro (by omega) (w.heap.size + 1) w.heap.size _ D hD W0 (by omega) (by omega) bN.cell (hI.below hB0)) (fun h h' => h.trans h')
    (fun W l o o' hl ho hc hk => ⟨belowK_b (w := W0) (by omega) W l o o' hl ho hc hk, ((grownBy_putObj' W l o').block (w.heap.size + 1) (by have := (Array.getElem?_eq_some_iff.1 ho).1; omega) (fun e => by have := Option.some.inj e; omega))⟩) (Below.refl _ _) (fun _ => rfl)
    (fun pre W => ((∃ v, Boxed W w.heap.size 28 v ∧ W.ownsRow w.heap.size 55 4 v (dops pre).length (dopCells (dops pre)) ∧ (v = .slice none 0 0 ↔ dops pre = [])) ∧ Boxed W (w.heap.size + 1) 60 (.slice q D.length cap)) ∧ Below w.heap.size w W)
    (fun _ _ _ => False)
    (OwnFrom.and (OwnFrom.and (Own.from (holdsRow_own w.heap.size w.heap.size 28 55 4 (fun pre => (dops pre).length) (fun pre => dopCells (dops pre)) (fun pre v => v = .slice none 0 0 ↔ dops pre = [])) _) (Own.from (boxed_own _ _ _) _)) (ownFrom_below (Nat.le_refl _) (by omega)))
    (fun _ _ _ _ _ hs _ _ => hs)
    ⟨⟨⟨_, bO', World.ownsRow_nil _ _ _ _, by simp [dops]⟩, bN⟩, hB0⟩
    (fun x a' W => ∃ Bx, w.heap.size + 1 < Bx ∧ Boxed4 W Bx x.2 ∧ a' = { tmps := #[.slice q D.length cap, undef, .slice none 0 0, .pointer (some ⟨w.heap.size, 0, none⟩), undef, .pointer (some ⟨Bx, 0, none⟩), .slice q D.length cap, .func (.func 74) #[] #[.pointer (some ⟨w.heap.size + 1, 0, none⟩)], .int .i64 (x.1 : Int), x.2.val, undef, undef, undef, undef, undef, undef, undef, undef], defers := [] })
    (fun x a' _ X Y row hs hg hr => by obtain ⟨Bx, h1, h2, h3⟩ := hs; exact ⟨Bx, h1, boxed4_own Bx x.2 () X Y row h2 hg (fun r e => (hr r e).2), h3⟩)
    ?assign ?body ?done ?stop
  case assign =>
    rintro l pre ⟨i, s⟩ W K ⟨⟨⟨v, hv, hrow, hnil⟩, hb⟩, hB⟩ hK
    dsimp only [Sg.val] at hK ⊢
    gi_wp2
    exact hK _ _ ((KeepsOthers.alloc _ _).from _) ⟨(Below.refl _ W).alloc hB.size _, (hb.alloc _).trans hb.symm⟩ ⟨⟨⟨v, hv.alloc _, hrow.alloc _, hnil⟩, hb.alloc _⟩, hB.alloc hB.size _⟩ ⟨W.heap.size, hb.lt, Boxed4.new W _, rfl⟩
  case body =>
    rintro l pre ⟨i, s⟩ a' W hl ⟨r, hr⟩ ⟨⟨⟨v, hv, hrow, hnil⟩, hb⟩, hB⟩ ⟨Bx, hBx, bX, rfl⟩ hlt
    have hc := hv.cell
    have hx := bX.c
    have hpl : (dops pre).length = pre.length := List.length_map _
    have hsn : dops (pre ++ [(i, s)]) = dops pre ++ [dropOp s.name] := by unfold dops; rw [List.map_append]; rfl
    have hcell : ∀ j u, [Value.int .i64 4, .string s.name, .int .i64 0, .string ⟨#[]⟩][j]? = some u → (W.alloc (.cells #[.int .i64 4, .string s.name, .int .i64 0, .string ⟨#[]⟩] 55)).cell? ((⟨W.heap.size, 0, none⟩ : Addr).add j) = some u := by
      intro j u hu
      rw [add_lit, Nat.zero_add, cell_of_row _ _ _ _ 55 _ (heap_alloc_new W _)]
      simpa using hu
    have hone : ∀ u ∈ [Value.int .i64 4, .string s.name, .int .i64 0, .string ⟨#[]⟩], u.oneCell' = true := by
      intro u hu
      simp at hu
      rcases hu with rfl | rfl | rfl | rfl <;> rfl
    have HSN := Lib.hid hsn
    have HPL := Lib.hid hpl
    have HCE := Lib.hid hcell
    have HON := Lib.hid hone
    have hle : pre.length + 1 ≤ 1000000 := by omega
    clear hsn hpl hcell hone
    gi_wp2_with (gi_at_builtin; refine wpListIn_append_own _ rfl _ _ 28 rfl w.heap.size 55 i0 (.agg #[.int .i64 0, .string .empty, .int .i64 0, .string .empty]) 4 48 Try.underlying28 hi hz0 hz1 hz2 rfl (by decide) _ _ _ rfl (hrow.alloc _) ⟨W.heap.size, 0, none⟩ 1 1 [.int .i64 4, .string s.name, .int .i64 0, .string ⟨#[]⟩] rfl rfl HCE.out HON.out (by rw [HPL.out]; unfold maxLen; omega) (by rw [HPL.out]; omega) (by have := hB.size; simp; omega) ?_; intro v' w1 hown' hgrow _; obtain ⟨g', cap', rfl⟩ := ownsRow_succ hown'; obtain ⟨hv1, hv2, hr2, hk2, hb2⟩ := hv.appended (by decide) hrow hB.size (Nat.le_refl _) hown' hgrow; have hc1 := hv1.cell; have hf1 := hv1.frozen)
    have own' : (w1.setCell ⟨w.heap.size, 0, none⟩ (.slice (some ⟨g', 0, none⟩) ((dops pre).length + 1) cap')).ownsRow w.heap.size 55 4 (.slice (some ⟨g', 0, none⟩) ((dops pre).length + 1) cap') (dops (pre ++ [(i, s)])).length (dopCells (dops (pre ++ [(i, s)]))) := by
      rw [HSN.out, dop_snoc, List.length_append]
      exact hr2
    have hb1 := hb.alloc (.cells #[.int .i64 4, .string s.name, .int .i64 0, .string ⟨#[]⟩] 55)
    have hb3 := hb1.kept hgrow (hb1.not_row (by decide) (hrow.alloc _))
    have hbx : Boxed (w1.setCell ⟨w.heap.size, 0, none⟩ (.slice (some ⟨g', 0, none⟩) ((dops pre).length + 1) cap')) (w.heap.size + 1) 60 (.slice q D.length cap) := Boxed.other hb3 (by omega) _
    refine ⟨hk2.from _, ⟨hb2, hbx.trans hb.symm⟩, ⟨⟨_, hv2, own', by constructor <;> intro h <;> first | cases h | (rw [HSN.out] at h; simp at h)⟩, hbx⟩, hB.trans hb2⟩
  case done =>
    rintro Dd ys W hDd rfl ⟨⟨⟨v, hv, hrow, hnil⟩, hb⟩, hB⟩ hK
    have hc := hv.cell
    gi_wp2
    refine ⟨by simp, .inl ⟨_, _, rfl, run_takeDeferred hK, ?_⟩⟩
    exact ⟨_, results_tmp rfl _ _ _, v, rfl, ⟨ownsRow_putObj hrow _ hK rfl, hnil⟩, hB.trans (belowK_b (w := w) (Nat.le_refl _) W Dd _ _ (by omega) hK rfl rfl)⟩
  case stop =>
    rintro Dd c pre W _ _ h _
    exact h.elim
end Go.Proofs.Ytkecjopojnllnaa
