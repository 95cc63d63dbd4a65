/- Renew, the program's. -/
import Derived.Test.YtkecjopojnllnaaM13
import Derived.RangeFuncNested
import Derived.RangeFuncBox
import Derived.RangeFuncLeaves
import Derived.Shelf.Abstract
import Derived.OwnWalkIn
import Derived.TacticsInMore
import Derived.LoopNIn
import Derived.LoopIn
import Derived.BigQuiet
namespace Go.Proofs.Ytkecjopojnllnaa
open Go.RowKit Go.Deep Go.Joins Go.Shelf
attribute [local go_sem] Oper.semAt_some
/-- What has come when k rounds are over. -/
def bkAt (D : List Sg) (j : Nat) : Nat × Sg := (D.length - 1 - j, (D[D.length - 1 - j]?).getD ⟨0, ⟨#[]⟩, ⟨#[]⟩, none, 0, 0⟩)
def bk (D : List Sg) (k : Nat) : List (Nat × Sg) := (List.range k).map (bkAt D)
theorem bk_succ (D : List Sg) (k : Nat) : bk D (k + 1) = bk D k ++ [bkAt D k] := by simp [bk, List.range_succ]
theorem bk_length (D : List Sg) (k : Nat) : (bk D k).length = k := by simp [bk]
/-- What a round keeps: what lay below, and the box that the iterator reads. -/
def KpB (n₀ Bs : Nat) (A B : World) : Prop := Below n₀ A B ∧ B.heap[Bs]? = A.heap[Bs]?
theorem KpB.trans {n₀ Bs : Nat} {A B C : World} (h : KpB n₀ Bs A B) (h' : KpB n₀ Bs B C) : KpB n₀ Bs A C := ⟨h.1.trans h'.1, h'.2.trans h.2⟩
set_option maxRecDepth 100000 in
set_option maxHeartbeats 2000000 in
theorem back1_in (F : Fence) (n : Nat) (h7 : F.fn 74) (hro : F.round = none) (hn : 1 ≤ n) (l Bs n₀ b off cap : Nat) (D : List Sg) (hD : D.length ≤ 1000000) (hb : b < n₀) (J Jx : List (Nat × Sg) → World → Prop)
    (hY : ∀ pre x W, J pre W → pre.length < D.length → YieldAt F (n - 1) Try.prog l #[.int .i64 (x.1 : Int), x.2.val] W fun e W' =>
      (e = .returned (.bool true) ∧ J (pre ++ [x]) W' ∧ KpB n₀ Bs W W') ∨ (e = .returned (.bool false) ∧ Jx (pre ++ [x]) W'))
    (W : World) (hBs : W.cell? ⟨Bs, 0, none⟩ = some (.slice (some ⟨b, off, none⟩) D.length cap))
    (hc : ∀ j (hj : j < D.length), W.cell? ⟨b, off + j * 4, none⟩ = some (.int .i64 D[j].num) ∧ W.cell? ⟨b, off + j * 4 + 1, none⟩ = some (.string D[j].name) ∧ W.cell? ⟨b, off + j * 4 + 2, none⟩ = some (.string D[j].safe) ∧ W.cell? ⟨b, off + j * 4 + 3, none⟩ = some D[j].ov) (h0 : J [] W) :
    CallsIn F n Try.prog 74 #[.func (.yield l) #[] #[], .pointer (some ⟨Bs, 0, none⟩)] W fun e W' => (∃ v, e = .returned v) ∧
      ((∃ ys, ys = bk D D.length ∧ J ys W') ∨ (∃ pre, (∃ k, k ≤ D.length ∧ pre = bk D k) ∧ Jx pre W')) := by
  refine callsIn_of_wp Try.func74 rfl h7 ?_ hro
  simp only [Try.ntmps74, List.size_toArray, List.length_cons, List.length_nil, Nat.reduceAdd, Nat.reduceSub, Array.replicate_succ, Array.replicate_zero, List.push_toArray, List.append_toArray, List.nil_append, List.cons_append]
  gi_wp2
  gi_loopw [3] (fun i wr => ∃ k : Nat, k ≤ D.length ∧ i = .int .i64 ((D.length : Int) - 1 - k) ∧ J (bk D k) wr ∧ KpB n₀ Bs W wr)
    (fun i _ => (intOf i + 1).toNat)
  case atStart => exact ⟨0, Nat.zero_le _, by simp, h0, Below.refl _ _, rfl⟩
  case round =>
    obtain ⟨k, hk, rfl, hJs, hnx⟩ := hrel
    have hbs : wr.cell? ⟨Bs, 0, none⟩ = some (.slice (some ⟨b, off, none⟩) D.length cap) := (World.cell?_of_block (a := ⟨Bs, 0, none⟩) hnx.2).trans hBs
    by_cases hlt : k < D.length
    · obtain ⟨m, hm⟩ : ∃ m, m = D.length - 1 - k := ⟨_, rfl⟩
      have hmD : m < D.length := by omega
      have hbk : bkAt D k = (m, D[m]) := by
        unfold bkAt
        rw [← hm, List.getElem?_eq_getElem hmD]
        rfl
      have hmI : (D.length : Int) - 1 - (k : Int) = (m : Int) := by omega
      obtain ⟨x0, x1, x2, x3⟩ := hc m hmD
      have y0 := (hnx.1.cell (p := ⟨b, off + m * 4, none⟩) hb).trans x0
      have y1 := (hnx.1.cell (p := ⟨b, off + m * 4 + 1, none⟩) hb).trans x1
      have y2 := (hnx.1.cell (p := ⟨b, off + m * 4 + 2, none⟩) hb).trans x2
      have y3 := (hnx.1.cell (p := ⟨b, off + m * 4 + 3, none⟩) hb).trans x3
      obtain ⟨fn, tmps, assign, body, hy, hR⟩ := hY _ (bkAt D k) wr hJs (by rw [bk_length]; exact hlt)
      rw [hbk] at hy
      dsimp only at hy
      unfold Sg.val at hy
      have HC := Lib.hid hc
      have HBK := Lib.hid hbk
      have HM := Lib.hid hm
      have HRR := Lib.hid hR
      clear hc hbk hm x0 x1 x2 x3 hR
      gi_wp2
      refine HRR.out.mono ?_
      rintro e W3 (⟨rfl, hJ3, hk3⟩ | ⟨rfl, hJx3⟩)
      · gi_wp2
        go_roundw
        case rel => exact ⟨k + 1, by omega, by congr 1; omega, by rw [bk_succ]; exact hJ3, hnx.trans hk3⟩
        case measure => simp [intOf]; omega
      · gi_wp2
        refine bodyPost_ret (results_none rfl _ _ _) rfl ?_
        exact ⟨⟨_, rfl⟩, .inr ⟨_, ⟨k + 1, by omega, (bk_succ _ _).symm⟩, hJx3⟩⟩
    · obtain rfl : k = D.length := by omega
      have hI : (D.length : Int) - 1 - (D.length : Int) = -1 := by omega
      clear hc
      gi_wp2
      go_end0
      exact ⟨⟨_, rfl⟩, .inl ⟨_, rfl, hJs⟩⟩
set_option maxRecDepth 100000 in
set_option maxHeartbeats 1000000 in
theorem back1_nil_in (F : Fence) (n : Nat) (h7 : F.fn 74) (hro : F.round = none) (l Bs : Nat) (J : List (Nat × Sg) → World → Prop) (W : World) (hBs : W.cell? ⟨Bs, 0, none⟩ = some (.slice none 0 0)) (h0 : J [] W) :
    CallsIn F n Try.prog 74 #[.func (.yield l) #[] #[], .pointer (some ⟨Bs, 0, none⟩)] W fun e W' => (∃ v, e = .returned v) ∧ J [] W' := by
  refine callsIn_of_wp Try.func74 rfl h7 ?_ hro
  simp only [Try.ntmps74, List.size_toArray, List.length_cons, List.length_nil, Nat.reduceAdd, Nat.reduceSub, Array.replicate_succ, Array.replicate_zero, List.push_toArray, List.append_toArray, List.nil_append, List.cons_append]
  gi_wp2
  gi_loopw [3] (fun i wr => i = .int .i64 (-1) ∧ J [] wr) (fun _ _ => 0)
  case atStart => exact ⟨rfl, h0⟩
  case round =>
    obtain ⟨rfl, hJs⟩ := hrel
    gi_wp2
    go_end0
    exact ⟨⟨_, rfl⟩, hJs⟩
set_option maxHeartbeats 1000000 in
theorem back_in (F : Fence) (n : Nat) (h5 : F.fn 57) (hro : F.round = none) (a : Option Addr) (len cap : Nat) (w : World) :
    CallsIn F n Try.prog 57 #[.slice a len cap] w fun e w' => e = .returned (.func (.func 74) #[] #[.pointer (some ⟨w.heap.size, 0, none⟩)]) ∧ w' = w.alloc (.cells #[.slice a len cap] 60) := by
  refine callsIn_of_wp Try.func57 rfl h5 ?_ hro
  simp only [Try.ntmps57, List.size_toArray, List.length_cons, List.length_nil, Nat.reduceAdd, Nat.reduceSub, Array.replicate_succ, Array.replicate_zero, List.push_toArray, List.append_toArray, List.nil_append, List.cons_append]
  gi_wp2
  go_ret
  exact ⟨rfl, rfl⟩
/-- The slice value holds these segments, in a block below n₀; or it is nil and there are none. -/
def SgsIn (n₀ : Nat) (W : World) (sv : Value) (D : List Sg) : Prop :=
  (sv = .slice none 0 0 ∧ D = []) ∨ ∃ b off cap, sv = .slice (some ⟨b, off, none⟩) D.length cap ∧ b < n₀ ∧ ∀ j (hj : j < D.length), W.cell? ⟨b, off + j * 4, none⟩ = some (.int .i64 D[j].num) ∧ W.cell? ⟨b, off + j * 4 + 1, none⟩ = some (.string D[j].name) ∧ W.cell? ⟨b, off + j * 4 + 2, none⟩ = some (.string D[j].safe) ∧ W.cell? ⟨b, off + j * 4 + 3, none⟩ = some D[j].ov
theorem SgsIn.below {n₀ : Nat} {A B : World} (h : Below n₀ A B) {sv : Value} {D : List Sg} (hs : SgsIn n₀ A sv D) : SgsIn n₀ B sv D := by
  rcases hs with h1 | ⟨b, off, cap, h1, h2, h3⟩
  · exact .inl h1
  · refine .inr ⟨b, off, cap, h1, h2, fun j hj => ?_⟩
    obtain ⟨x0, x1, x2, x3⟩ := h3 j hj
    exact ⟨(h.cell (p := ⟨b, off + j * 4, none⟩) h2).trans x0, (h.cell (p := ⟨b, off + j * 4 + 1, none⟩) h2).trans x1, (h.cell (p := ⟨b, off + j * 4 + 2, none⟩) h2).trans x2, (h.cell (p := ⟨b, off + j * 4 + 3, none⟩) h2).trans x3⟩
theorem back_stops (F : Fence) (n : Nat) (h7 : F.fn 74) (hro : F.round = none) (hn : 1 ≤ n) (Bs n₀ : Nat) (sv : Value) (D : List Sg) (hD : D.length ≤ 1000000) (w : World) (hBs : Bs < w.heap.size) (hn₀ : n₀ ≤ w.heap.size)
    (hc : w.cell? ⟨Bs, 0, none⟩ = some sv) (hI : SgsIn n₀ w sv D) :
    SeqStopsK F n Try.prog 74 #[.pointer (some ⟨Bs, 0, none⟩)] (fun x : Nat × Sg => #[Value.int .i64 (x.1 : Int), x.2.val]) (KpB n₀ Bs) (fun ys => ys = bk D D.length) (fun pre => ∃ k, k ≤ D.length ∧ pre = bk D k) D.length w := fun l J Jx W hW _ _ hY h0 => by
  have hc' := (hW.cell (p := ⟨Bs, 0, none⟩) hBs).trans hc
  rcases hI.below (hW.mono hn₀) with ⟨rfl, rfl⟩ | ⟨b, off, cap, rfl, hb, hcs⟩
  · exact (back1_nil_in F n h7 hro l Bs J W hc' h0).mono fun e W' ⟨he, hj⟩ => ⟨he, .inl ⟨_, rfl, hj⟩⟩
  · exact back1_in F n h7 hro hn l Bs n₀ b off cap D hD hb J Jx hY W hc' hcs h0
end Go.Proofs.Ytkecjopojnllnaa
namespace Go.Proofs.Ytkecjopojnllnaa
open Go.RowKit Go.Deep Go.Joins Go.Shelf
attribute [local go_sem] Oper.semAt_some
/-- A segment's four cells in a block of their own. -/
def Boxed4 (W : World) (B : Nat) (s : Sg) : Prop := W.heap[B]? = some (.cells #[.int .i64 s.num, .string s.name, .string s.safe, s.ov] 84 (0, 0))
theorem Boxed4.new (W : World) (s : Sg) : Boxed4 (W.alloc (.cells #[.int .i64 s.num, .string s.name, .string s.safe, s.ov] 84)) W.heap.size s := World.alloc_heap_new W _
theorem Boxed4.lt {W : World} {B : Nat} {s : Sg} (h : Boxed4 W B s) : B < W.heap.size := (Array.getElem?_eq_some_iff.1 h).1
theorem Boxed4.c {W : World} {B : Nat} {s : Sg} (h : Boxed4 W B s) : W.cell? ⟨B, 1, none⟩ = some (.string s.name) := by simp [World.cell?, show W.heap[B]? = _ from h]
theorem boxed4_own (B : Nat) (s : Sg) : Own (fun (_ : Unit) W => Boxed4 W B s) := by
  intro _ X Y row h hg hr
  refine (hg.block B h.lt (fun e => ?_)).trans h
  obtain ⟨o, ho, hc⟩ := hr B e.symm
  rw [show X.heap[B]? = _ from h] at ho
  cases ho
  cases hc
def dropsOf (D : List Sg) : List DOp := D.reverse.map fun s => dropOp s.name
def dops (pre : List (Nat × Sg)) : List DOp := pre.map fun x => dropOp x.2.name
set_option maxRecDepth 100000 in
set_option maxHeartbeats 4000000 in
theorem drops_in (F : Fence) (n : Nat) (h3 : F.fn 34) (h4 : F.fn 57) (h5 : F.fn 74) (hro : F.round = none) (hn : 3 ≤ n) (D : List Sg) (q : Option Addr) (cap : Nat) (w : World) (hD : D.length ≤ 1000000) (hI : SgsIn w.heap.size w (.slice q D.length cap) D) :
    CallsIn F n Try.prog 34 #[.slice q D.length cap] w fun e W' => ∃ v, e = .returned v ∧ OwnP W' w.heap.size v (dops (bk D D.length)) ∧ Below w.heap.size w W' := by
  have h1 : 1 ≤ n := by omega
  obtain ⟨i0, hi, hz0, hz1, hz2⟩ := info_parts (show (Try.prog.info? 55).map (fun i => (i.zero, i.size, i.bytes)) = some (some (.agg #[.int .i64 0, .string .empty, .int .i64 0, .string .empty]), 4, 48) by kernel_rfl)
  refine callsIn_of_wp_marks Try.func34 rfl h3 ?_ hro
  simp only [Try.ntmps34, List.size_toArray, List.length_cons, List.length_nil, Nat.reduceAdd, Nat.reduceSub, Array.replicate_succ, Array.replicate_zero, List.push_toArray, List.append_toArray, List.nil_append, List.cons_append]
  gi_wp2_with (gi_at_call 57; refine (back_in F (n - 1) h4 hro _ _ _ _).mono ?_; rintro e w' ⟨rfl, rfl⟩)
  have bO := Boxed.new w 28 (.slice none 0 0)
  have bN := Boxed.new (w.alloc (.cells #[.slice none 0 0] 28)) 60 (.slice q D.length cap)
  rw [World.size_alloc] at bN
  have hB0 : Below w.heap.size w ((w.alloc (.cells #[.slice none 0 0] 28)).alloc (.cells #[.slice q D.length cap] 60)) := ((Below.refl _ w).alloc (Nat.le_refl _) _).alloc (by simp) _
  have bO' := bO.alloc (.cells #[.slice q D.length cap] 60)
  have hs0 : ((w.alloc (.cells #[.slice none 0 0] 28)).alloc (.cells #[.slice q D.length cap] 60)).heap.size = w.heap.size + 2 := by simp
  obtain ⟨W0, hW0⟩ : ∃ W0, (w.alloc (.cells #[.slice none 0 0] 28)).alloc (.cells #[.slice q D.length cap] 60) = W0 := ⟨_, rfl⟩
  rw [hW0] at bN hB0 bO' hs0 ⊢
  clear bO hW0
  refine wpIn_rangeFunc_ownH hro h1 (gf := 74) (lb := #[.pointer (some ⟨w.heap.size + 1, 0, none⟩)]) rfl h5 (enters_of Try.func74 (by kernel_rfl) rfl)
    (back_stops F (n - 1) h5 hro (by omega) (w.heap.size + 1) w.heap.size _ D hD W0 (by omega) (by omega) bN.cell (hI.below hB0)) (fun h h' => h.trans h')
    (fun W l o o' hl ho hc hk => ⟨belowK_b (w := W0) (by omega) W l o o' hl ho hc hk, ((grownBy_putObj' W l o').block (w.heap.size + 1) (by have := (Array.getElem?_eq_some_iff.1 ho).1; omega) (fun e => by have := Option.some.inj e; omega))⟩) (Below.refl _ _) (fun _ => rfl)
    (fun pre W => ((∃ v, Boxed W w.heap.size 28 v ∧ W.ownsRow w.heap.size 55 4 v (dops pre).length (dopCells (dops pre)) ∧ (v = .slice none 0 0 ↔ dops pre = [])) ∧ Boxed W (w.heap.size + 1) 60 (.slice q D.length cap)) ∧ Below w.heap.size w W)
    (fun _ _ _ => False)
    (OwnFrom.and (OwnFrom.and (Own.from (holdsRow_own w.heap.size w.heap.size 28 55 4 (fun pre => (dops pre).length) (fun pre => dopCells (dops pre)) (fun pre v => v = .slice none 0 0 ↔ dops pre = [])) _) (Own.from (boxed_own _ _ _) _)) (ownFrom_below (Nat.le_refl _) (by omega)))
    (fun _ _ _ _ _ hs _ _ => hs)
    ⟨⟨⟨_, bO', World.ownsRow_nil _ _ _ _, by simp [dops]⟩, bN⟩, hB0⟩
    (fun x a' W => ∃ Bx, w.heap.size + 1 < Bx ∧ Boxed4 W Bx x.2 ∧ a' = { tmps := #[.slice q D.length cap, undef, .slice none 0 0, .pointer (some ⟨w.heap.size, 0, none⟩), undef, .pointer (some ⟨Bx, 0, none⟩), .slice q D.length cap, .func (.func 74) #[] #[.pointer (some ⟨w.heap.size + 1, 0, none⟩)], .int .i64 (x.1 : Int), x.2.val, undef, undef, undef, undef, undef, undef, undef, undef], defers := [] })
    (fun x a' _ X Y row hs hg hr => by obtain ⟨Bx, h1, h2, h3⟩ := hs; exact ⟨Bx, h1, boxed4_own Bx x.2 () X Y row h2 hg (fun r e => (hr r e).2), h3⟩)
    ?assign ?body ?done ?stop
  case assign =>
    rintro l pre ⟨i, s⟩ W K ⟨⟨⟨v, hv, hrow, hnil⟩, hb⟩, hB⟩ hK
    dsimp only [Sg.val] at hK ⊢
    gi_wp2
    exact hK _ _ ((KeepsOthers.alloc _ _).from _) ⟨(Below.refl _ W).alloc hB.size _, (hb.alloc _).trans hb.symm⟩ ⟨⟨⟨v, hv.alloc _, hrow.alloc _, hnil⟩, hb.alloc _⟩, hB.alloc hB.size _⟩ ⟨W.heap.size, hb.lt, Boxed4.new W _, rfl⟩
  case body =>
    rintro l pre ⟨i, s⟩ a' W hl ⟨r, hr⟩ ⟨⟨⟨v, hv, hrow, hnil⟩, hb⟩, hB⟩ ⟨Bx, hBx, bX, rfl⟩ hlt
    have hc := hv.cell
    have hx := bX.c
    have hpl : (dops pre).length = pre.length := List.length_map _
    have hsn : dops (pre ++ [(i, s)]) = dops pre ++ [dropOp s.name] := by unfold dops; rw [List.map_append]; rfl
    have hcell : ∀ j u, [Value.int .i64 4, .string s.name, .int .i64 0, .string ⟨#[]⟩][j]? = some u → (W.alloc (.cells #[.int .i64 4, .string s.name, .int .i64 0, .string ⟨#[]⟩] 55)).cell? ((⟨W.heap.size, 0, none⟩ : Addr).add j) = some u := by
      intro j u hu
      rw [add_lit, Nat.zero_add, cell_of_row _ _ _ _ 55 _ (heap_alloc_new W _)]
      simpa using hu
    have hone : ∀ u ∈ [Value.int .i64 4, .string s.name, .int .i64 0, .string ⟨#[]⟩], u.oneCell' = true := by
      intro u hu
      simp at hu
      rcases hu with rfl | rfl | rfl | rfl <;> rfl
    have HSN := Lib.hid hsn
    have HPL := Lib.hid hpl
    have HCE := Lib.hid hcell
    have HON := Lib.hid hone
    have hle : pre.length + 1 ≤ 1000000 := by omega
    clear hsn hpl hcell hone
    gi_wp2_with (gi_at_builtin; refine wpListIn_append_own _ rfl _ _ 28 rfl w.heap.size 55 i0 (.agg #[.int .i64 0, .string .empty, .int .i64 0, .string .empty]) 4 48 Try.underlying28 hi hz0 hz1 hz2 rfl (by decide) _ _ _ rfl (hrow.alloc _) ⟨W.heap.size, 0, none⟩ 1 1 [.int .i64 4, .string s.name, .int .i64 0, .string ⟨#[]⟩] rfl rfl HCE.out HON.out (by rw [HPL.out]; unfold maxLen; omega) (by rw [HPL.out]; omega) (by have := hB.size; simp; omega) ?_; intro v' w1 hown' hgrow _; obtain ⟨g', cap', rfl⟩ := ownsRow_succ hown'; obtain ⟨hv1, hv2, hr2, hk2, hb2⟩ := hv.appended (by decide) hrow hB.size (Nat.le_refl _) hown' hgrow; have hc1 := hv1.cell; have hf1 := hv1.frozen)
    have own' : (w1.setCell ⟨w.heap.size, 0, none⟩ (.slice (some ⟨g', 0, none⟩) ((dops pre).length + 1) cap')).ownsRow w.heap.size 55 4 (.slice (some ⟨g', 0, none⟩) ((dops pre).length + 1) cap') (dops (pre ++ [(i, s)])).length (dopCells (dops (pre ++ [(i, s)]))) := by
      rw [HSN.out, dop_snoc, List.length_append]
      exact hr2
    have hb1 := hb.alloc (.cells #[.int .i64 4, .string s.name, .int .i64 0, .string ⟨#[]⟩] 55)
    have hb3 := hb1.kept hgrow (hb1.not_row (by decide) (hrow.alloc _))
    have hbx : Boxed (w1.setCell ⟨w.heap.size, 0, none⟩ (.slice (some ⟨g', 0, none⟩) ((dops pre).length + 1) cap')) (w.heap.size + 1) 60 (.slice q D.length cap) := Boxed.other hb3 (by omega) _
    refine ⟨hk2.from _, ⟨hb2, hbx.trans hb.symm⟩, ⟨⟨_, hv2, own', by constructor <;> intro h <;> first | cases h | (rw [HSN.out] at h; simp at h)⟩, hbx⟩, hB.trans hb2⟩
  case done =>
    rintro Dd ys W hDd rfl ⟨⟨⟨v, hv, hrow, hnil⟩, hb⟩, hB⟩ hK
    have hc := hv.cell
    gi_wp2
    refine ⟨by simp, .inl ⟨_, _, rfl, run_takeDeferred hK, ?_⟩⟩
    exact ⟨_, results_tmp rfl _ _ _, v, rfl, ⟨ownsRow_putObj hrow _ hK rfl, hnil⟩, hB.trans (belowK_b (w := w) (Nat.le_refl _) W Dd _ _ (by omega) hK rfl rfl)⟩
  case stop =>
    rintro Dd c pre W _ _ h _
    exact h.elim
end Go.Proofs.Ytkecjopojnllnaa
namespace Go.Proofs.Ytkecjopojnllnaa
open Go.RowKit Go.Deep Go.Joins
def nextN (L : List Nat) : Nat := match L.getLast? with | none => 0 | some m => m + 2
def firstOps (p s : ByteArray) (n : Nat) : List DOp := [putOp (nameOf p n) 0 (frameB s), syncOp (nameOf p n)]
def dropNs (p : ByteArray) (L : List Nat) : List DOp := L.reverse.map fun m => dropOp (nameOf p m)
/-- What Renew tells: the plan, and the error. -/
def RnIs (p : ByteArray) (l : List Rw) (s : ByteArray) (P : List DOp) (err : Int) : Prop :=
  (131072 < s.size ∧ P = [] ∧ err = 2) ∨ (s.size ≤ 131072 ∧ ∃ L, StrictN L ∧ (∀ n, n ∈ L ↔ hasN p l n) ∧
    ((999999 < nextN L ∧ P = [] ∧ err = 4) ∨ (nextN L ≤ 999999 ∧ P = firstOps p s (nextN L) ++ dropNs p L ∧ err = 0)))
def RnPost (p : ByteArray) (l : List Rw) (s : ByteArray) (w : World) (e : Ending) (w' : World) : Prop :=
  ∃ (P : List DOp) (err : Int) (v' : Value), RnIs p l s P err ∧ e = .returned (.tuple #[v', .int .i64 err]) ∧ Reads w' v' 4 P.length (dopCells P) ∧ Below w.heap.size w w'
theorem nextN_last {L : List Nat} {k : Nat} (hk : L.length = k + 1) : nextN L = L[k] + 2 := by
  have h : L.getLast? = some L[k] := by
    rw [List.getLast?_eq_getElem?, show L.length - 1 = k by omega, List.getElem?_eq_getElem]
  unfold nextN
  rw [h]
theorem dops_bk {p : ByteArray} {l : List Rw} {L : List Nat} {D : List Sg} (h : SegsOf p l L D) : dops (bk D D.length) = dropNs p L := by
  refine List.ext_getElem (by simp [dops, dropNs, bk_length, h.1]) fun j h1 h2 => ?_
  have hj : j < D.length := by simpa [dops, bk_length] using h1
  have hl := h.1
  have hjL : D.length - 1 - j < L.length := by omega
  obtain ⟨r, hf, hd⟩ := h.2 (D.length - 1 - j) hjL
  obtain ⟨_, _, _, _, hrn, _⟩ := find_name hf
  have e1 : (dops (bk D D.length))[j] = dropOp (bkAt D j).2.name := by simp [dops, bk]
  have e2 : (bkAt D j).2.name = nameOf p L[D.length - 1 - j] := by
    unfold bkAt
    simp only [hd]
    exact hrn
  have e3 : (dropNs p L)[j] = dropOp (nameOf p L[D.length - 1 - j]) := by simp [dropNs, hl]
  rw [e1, e2, e3]
theorem sgsIn_of_owns {W : World} {B : Nat} {v : Value} {D : List Sg} (h : W.ownsRow B 84 4 v D.length (segCells D)) : SgsIn W.heap.size W v D := by
  rcases h.2 with ⟨h1, h2⟩ | ⟨g, cap, cur, h1, h2, h3, _⟩
  · exact .inl ⟨h1, List.eq_nil_of_length_eq_zero h2⟩
  · refine .inr ⟨g, 0, cap, h1, (Array.getElem?_eq_some_iff.1 h3).1, fun j hj => ?_⟩
    obtain ⟨b, off, cap2, hv, _, _, _, x0, x1, x2, x3⟩ := (reads_of_owns h).seg j hj
    rw [h1] at hv
    injection hv with e1 e2 e3
    injection e1 with e1
    injection e1 with e4 e5 e6
    subst e4 e5
    exact ⟨x0, x1, x2, x3⟩
theorem drops_any (D : List Sg) (q : Option Addr) (cap : Nat) (w : World) (hD : D.length ≤ 1000000) (hI : SgsIn w.heap.size w (.slice q D.length cap) D) :
    Calls Try.prog 34 #[.slice q D.length cap] w fun e W' => ∃ v, e = .returned v ∧ OwnP W' w.heap.size v (dops (bk D D.length)) ∧ Below w.heap.size w W' :=
  (callsIn_wide (n := 3)).1 (drops_in Fence.wide 3 trivial trivial trivial rfl (Nat.le_refl _) D q cap w hD hI)
set_option maxHeartbeats 1000000 in
theorem renew_no (p : ByteArray) (dv sv : Value) (w : World) (hp : prefB p = false) :
    Calls Try.prog 20 #[.agg #[dv], .string p, sv] w fun e w' => e = .returned (.tuple #[.slice none 0 0, .int .i64 1]) ∧ Below w.heap.size w w' := by
  go_enter Try.func20, Try.ntmps20
  go_wp2_with (go_at_call 30; (with_reducible refine (mayBe_any p _).mono ?_); rintro e w1 ⟨rfl, rfl⟩; rw [hp])
  go_ret2
  exact ⟨rfl, below1 w _⟩
theorem own_first (W : World) (B : Nat) (p s : ByteArray) (n : Nat) (hB : B ≤ W.heap.size) :
    (W.alloc (.cells #[.int .i64 1, .string (nameOf p n), .int .i64 0, .string (frameB s), .int .i64 2, .string (nameOf p n), .int .i64 0, .string ⟨#[]⟩] 55)).ownsRow B 55 4 (.slice (some ⟨W.heap.size, 0, none⟩) 2 2) 2 (dopCells (firstOps p s n)) :=
  World.ownsRow_lit W #[.int .i64 1, .string (nameOf p n), .int .i64 0, .string (frameB s), .int .i64 2, .string (nameOf p n), .int .i64 0, .string ⟨#[]⟩] 2 hB (by unfold maxLen; omega) rfl
set_option maxRecDepth 100000 in
set_option maxHeartbeats 4000000 in
theorem renew_yes (l : List Rw) (q : Option Addr) (cap : Nat) (p s : ByteArray) (w : World) (hp : prefB p = true) (hr : Reads w (.slice q l.length cap) 3 l.length (rowCells l)) (ho : Opens w l) (hm : l.length ≤ 1099511627776) (hs : s.size ≤ 1099511627776) :
    Calls Try.prog 20 #[.agg #[.slice q l.length cap], .string p, .string s] w (RnPost p l s w) := by
  obtain ⟨i0, hi, hz0, hz1, hz2⟩ := info_parts (show (Try.prog.info? 55).map (fun i => (i.zero, i.size, i.bytes)) = some (some (.agg #[.int .i64 0, .string .empty, .int .i64 0, .string .empty]), 4, 48) by kernel_rfl)
  have hp8 := pref_size hp
  obtain ⟨L, hL, hLm, hLl⟩ := nums_exist p l
  have HL := Lib.hid hL
  have HLM := Lib.hid hLm
  have HSG := Lib.hid (fun (W : World) (hb : Below w.heap.size w W) => segments_any l _ p W (hr.below hb) (fun r hr => (ho r hr).below hb) (by omega) hm)
  have HFR := Lib.hid (fun W => frame_any s W hs)
  clear hL hLm hr ho
  go_enter Try.func20, Try.ntmps20
  go_wp2_with fail
  generalize hw0 : w.alloc (Obj.cells #[.slice q l.length cap] 24) = w0
  have HB0 : Hid (Below w.heap.size w w0) := Lib.hid (hw0 ▸ below1 w _)
  have HD0 : Hid (VarAt w0 w.heap.size (.slice q l.length cap)) := Lib.hid (hw0 ▸ VarAt.new w _)
  clear hw0
  by_cases hshort : s.size ≤ 131072
  · rw [frV_short hshort] at HFR
    have HSH := Lib.hid hshort
    clear hshort
    go_upto_region 8 with (first
      | (go_at_call 30; (with_reducible refine (mayBe_any p _).mono ?_); rintro e w1 ⟨rfl, rfl⟩; rw [hp])
      | (go_at_call 46; (with_reducible refine (HFR.out _).mono ?_); rintro e w1 ⟨rfl, hb1⟩; have HB1 := Lib.hid hb1; have d1 := (HD0.out.keep hb1).c; clear hb1)
      | (go_at_call 31; (with_reducible refine (HSG.out _ (below_then HB0.out HB1.out)).mono ?_); rintro e w2 ⟨v2, D, Z, rfl, hrow, hD, hRi, hKe, hb2⟩; obtain ⟨q2, c2, rfl⟩ := owns_shape hrow; have HS := Lib.hid (segs_same hD hRi hKe HL.out HLM.out); have HROW := Lib.hid hrow; have HB2 := Lib.hid (below_then (below_then HB0.out HB1.out) hb2); clear hrow hD hRi hKe hb2)
      | fail)
    have hDl := HS.out.1
    have HDR := Lib.hid (fun (W : World) (hb : Below w2.heap.size w2 W) => drops_any D q2 c2 W (by omega) (sgsIn_of_owns (owns_below HROW.out hb)))
    rw [dops_bk HS.out] at HDR
    have HDN : Hid ((dropNs p L).length = L.length) := Lib.hid (by simp [dropNs])
    by_cases hz : D = []
    · subst hz
      have hLz : L = [] := List.eq_nil_of_length_eq_zero (show L.length = 0 from hDl.symm)
      have HN : Hid (nextN L = 0) := Lib.hid (by rw [hLz]; rfl)
      have HNM : Hid (∀ W : World, Calls Try.prog 22 #[.string p, .int .i64 0] W fun e w' => e = .returned (.string (nameOf p 0)) ∧ Below W.heap.size W w') := Lib.hid (fun W => name_any p 0 W (by omega) (by omega))
      simp only [List.length_nil] at HDR
      clear hLz hDl
      go_wp2_with (first
        | (go_at_call 22; (with_reducible refine (HNM.out _).mono ?_); rintro e w3 ⟨rfl, hb3⟩; have HB3 := Lib.hid (below_then HB2.out hb3); have HB3r := Lib.hid hb3; clear hb3)
        | (go_at_call 44; (with_reducible refine (syncOf_any _ _).mono ?_); rintro e w4 ⟨rfl, hb4⟩; have HB4 := Lib.hid (below_then HB3.out hb4); have HB4r := Lib.hid (below_then HB3r.out hb4); clear hb4; unfold syncV)
        | (go_at_call 34; (with_reducible refine (HDR.out _ (nb_alloc HB4r.out _)).mono ?_); rintro e w5 ⟨v5, rfl, hown5, hb5⟩; obtain ⟨q5, c5, rfl⟩ := owns_shape hown5.1; have HB5 := Lib.hid (below_then (nb_alloc HB4.out _) hb5); have HOWN5 := Lib.hid hown5; have HF5 := Lib.hid (owns_below (own_first w4 w.heap.size p s 0 HB4.out.size) hb5); clear hown5 hb5)
        | (at_builtin; refine wpList_append_reads rfl _ _ 28 rfl w.heap.size 55 i0 (.agg #[.int .i64 0, .string .empty, .int .i64 0, .string .empty]) 4 48 Try.underlying28 hi hz0 hz1 hz2 rfl (by decide) _ 2 (dopCells (firstOps p s 0)) rfl HF5.out _ (dropNs p L).length (dopCells (dropNs p L)) rfl HOWN5.out.reads (dop_one _) (by rw [HDN.out]; unfold maxLen; omega) (by rw [HDN.out]; omega) HB5.out.size ?_; intro q6 c6 w6 hown6 hg6; have HB6 := Lib.hid (HB5.out.grown hg6 HB5.out.size (fun j hj => by cases hj; exact HB4.out.size)); have HOWN6 := hown6; clear hown6 hg6)
        | fail)
      go_ret2
      have hP : 2 + (dropNs p L).length = (firstOps p s 0 ++ dropNs p L).length := by rw [List.length_append]; rfl
      have hown := HOWN6.out
      rw [← dopCells_append, hP] at hown
      rw [hP]
      exact ⟨firstOps p s 0 ++ dropNs p L, 0, _, Or.inr ⟨HSH.out, L, HL.out, HLM.out, Or.inr ⟨by rw [HN.out]; omega, by rw [HN.out], rfl⟩⟩, rfl, reads_of_owns hown, HB6.out⟩
    · have hpos := List.length_pos_iff.2 hz
      obtain ⟨k, hk⟩ : ∃ k, D.length = k + 1 := ⟨D.length - 1, by omega⟩
      have hkL : k < L.length := by omega
      obtain ⟨r, hf, hd⟩ := HS.out.2 k hkL
      obtain ⟨_, _, _, _, _, hn9⟩ := find_name hf
      have hdk : D[k].num = (L[k] : Int) := by
        have h1 : D[k] = sgOf L[k] r := by
          rw [List.getElem?_eq_getElem (by omega)] at hd
          exact Option.some.inj hd
        rw [h1]
        rfl
      obtain ⟨b, off, cap2, hv, _, hcm, hb, x0, x1, x2, x3⟩ := (reads_of_owns HROW.out).seg k (by omega)
      obtain ⟨rfl, rfl⟩ : q2 = some ⟨b, off, none⟩ ∧ c2 = cap2 := by
        injection hv with e1 e2 e3
        exact ⟨e1, e3⟩
      rw [hdk] at x0
      have HN : Hid (nextN L = L[k] + 2) := Lib.hid (nextN_last (by omega))
      obtain ⟨m, hmm⟩ : ∃ m, L[k] = m := ⟨_, rfl⟩
      rw [hmm] at x0 HN hn9
      have e0 : (D.length : Int) - 1 = (k : Int) := by omega
      have hkD : k < D.length := by omega
      have hD6 : D.length ≤ 1000000 := by omega
      have hne : decide ((0 : Int) < (D.length : Int)) = true := decide_eq_true (by omega)
      have HNM : Hid (∀ W : World, Calls Try.prog 22 #[.string p, .int .i64 ((m : Int) + 2)] W fun e w' => e = .returned (.string (nameOf p (m + 2))) ∧ Below W.heap.size W w') := Lib.hid (fun W => name_any p (m + 2) W (by omega) (by omega))
      clear x1 x2 x3 hv hcm hf hd hdk hmm hDl hk hz
      by_cases hbig : 999999 < m + 2
      · have t1 : decide ((999999 : Int) < (m : Int) + 2) = true := decide_eq_true (by omega)
        go_wp2_with fail
        go_ret2
        exact ⟨[], 4, _, Or.inr ⟨HSH.out, L, HL.out, HLM.out, Or.inl ⟨by rw [HN.out]; exact hbig, rfl, rfl⟩⟩, rfl, reads_nil _ _, HB2.out⟩
      · have t1 : decide ((999999 : Int) < (m : Int) + 2) = false := decide_eq_false (by omega)
        go_wp2_with (first
          | (go_at_call 22; (with_reducible refine (HNM.out _).mono ?_); rintro e w3 ⟨rfl, hb3⟩; have HB3 := Lib.hid (below_then HB2.out hb3); have HB3r := Lib.hid hb3; clear hb3)
          | (go_at_call 44; (with_reducible refine (syncOf_any _ _).mono ?_); rintro e w4 ⟨rfl, hb4⟩; have HB4 := Lib.hid (below_then HB3.out hb4); have HB4r := Lib.hid (below_then HB3r.out hb4); clear hb4; unfold syncV)
          | (go_at_call 34; (with_reducible refine (HDR.out _ (nb_alloc HB4r.out _)).mono ?_); rintro e w5 ⟨v5, rfl, hown5, hb5⟩; obtain ⟨q5, c5, rfl⟩ := owns_shape hown5.1; have HB5 := Lib.hid (below_then (nb_alloc HB4.out _) hb5); have HOWN5 := Lib.hid hown5; have HF5 := Lib.hid (owns_below (own_first w4 w.heap.size p s (m + 2) HB4.out.size) hb5); clear hown5 hb5)
          | (at_builtin; refine wpList_append_reads rfl _ _ 28 rfl w.heap.size 55 i0 (.agg #[.int .i64 0, .string .empty, .int .i64 0, .string .empty]) 4 48 Try.underlying28 hi hz0 hz1 hz2 rfl (by decide) _ 2 (dopCells (firstOps p s (m + 2))) rfl HF5.out _ (dropNs p L).length (dopCells (dropNs p L)) rfl HOWN5.out.reads (dop_one _) (by rw [HDN.out]; unfold maxLen; omega) (by rw [HDN.out]; omega) HB5.out.size ?_; intro q6 c6 w6 hown6 hg6; have HB6 := Lib.hid (HB5.out.grown hg6 HB5.out.size (fun j hj => by cases hj; exact HB4.out.size)); have HOWN6 := hown6; clear hown6 hg6)
          | fail)
        go_ret2
        have hP : 2 + (dropNs p L).length = (firstOps p s (m + 2) ++ dropNs p L).length := by rw [List.length_append]; rfl
        have hown := HOWN6.out
        rw [← dopCells_append, hP] at hown
        rw [hP]
        exact ⟨firstOps p s (m + 2) ++ dropNs p L, 0, _, Or.inr ⟨HSH.out, L, HL.out, HLM.out, Or.inr ⟨by rw [HN.out]; omega, by rw [HN.out], rfl⟩⟩, rfl, reads_of_owns hown, HB6.out⟩
  · rw [frV_long hshort] at HFR
    go_wp2_with (first
      | (go_at_call 30; (with_reducible refine (mayBe_any p _).mono ?_); rintro e w1 ⟨rfl, rfl⟩; rw [hp])
      | (go_at_call 46; (with_reducible refine (HFR.out _).mono ?_); rintro e w1 ⟨rfl, hb1⟩; have HB1 := Lib.hid hb1; clear hb1)
      | fail)
    go_ret2
    exact ⟨[], 2, _, Or.inl ⟨by omega, rfl, rfl⟩, rfl, reads_nil _ _, below_then HB0.out HB1.out⟩
end Go.Proofs.Ytkecjopojnllnaa
namespace Go.Proofs.Ytkecjopojnllnaa
open Go.RowKit Go.Deep Go.Joins
theorem RnIs.one {p : ByteArray} {l : List Rw} {s : ByteArray} {P P' : List DOp} {err err' : Int} (h : RnIs p l s P err) (h' : RnIs p l s P' err') : P = P' ∧ err = err' := by
  rcases h with ⟨h1, rfl, rfl⟩ | ⟨h1, L, h2, h3, h4⟩
  · rcases h' with ⟨_, rfl, rfl⟩ | ⟨h1', _⟩
    · exact ⟨rfl, rfl⟩
    · omega
  · rcases h' with ⟨h1', _⟩ | ⟨_, M, h2', h3', h4'⟩
    · omega
    · obtain rfl := strict_unique h2 h2' fun n => (h3 n).trans (h3' n).symm
      rcases h4 with ⟨h5, rfl, rfl⟩ | ⟨h5, rfl, rfl⟩
      · rcases h4' with ⟨_, rfl, rfl⟩ | ⟨h6, _⟩
        · exact ⟨rfl, rfl⟩
        · omega
      · rcases h4' with ⟨h6, _⟩ | ⟨_, rfl, rfl⟩
        · omega
        · exact ⟨rfl, rfl⟩
theorem plan_len (p s : ByteArray) (n : Nat) (L : List Nat) : (firstOps p s n ++ dropNs p L).length = 2 + L.length := by
  simp [firstOps, dropNs]
  omega
theorem plan_next (p s : ByteArray) (n : Nat) (L : List Nat) (k : Nat) (h : k < L.length) : firstOps p s n ++ dropNs p (L.drop k) = (firstOps p s n ++ dropNs p (L.drop (k + 1))) ++ [dropOp (nameOf p L[k])] := by
  rw [List.drop_eq_getElem_cons h]
  unfold dropNs
  rw [List.reverse_cons, List.map_append, List.append_assoc]
  rfl
set_option maxHeartbeats 1000000 in
theorem renew3_no (p : ByteArray) (dv sv : Value) (w : World) (hp : prefB p = false) :
    Calls Try.prog 21 #[.agg #[dv], .string p, sv] w fun e w' => e = .returned (.tuple #[.slice none 0 0, .int .i64 1]) ∧ Below w.heap.size w w' := by
  go_enter Try.func21, Try.ntmps21
  go_wp2_with (go_at_call 36; (with_reducible refine (prefix_any p _).mono ?_); rintro e w1 ⟨rfl, rfl⟩; rw [hp])
  go_ret2
  exact ⟨rfl, below1 w _⟩
set_option maxRecDepth 100000 in
set_option maxHeartbeats 4000000 in
theorem renew3_yes (l : List Rw) (q : Option Addr) (cap : Nat) (p s : ByteArray) (w : World) (hp : prefB p = true) (hr : Reads w (.slice q l.length cap) 3 l.length (rowCells l)) (hm : l.length ≤ 1099511627776) (hs : s.size ≤ 1099511627776) :
    Calls Try.prog 21 #[.agg #[.slice q l.length cap], .string p, .string s] w (RnPost p l s w) := by
  obtain ⟨i0, hi, hz0, hz1, hz2⟩ := info_parts (show (Try.prog.info? 55).map (fun i => (i.zero, i.size, i.bytes)) = some (some (.agg #[.int .i64 0, .string .empty, .int .i64 0, .string .empty]), 4, 48) by kernel_rfl)
  have hp8 := pref_size hp
  have HSG := Lib.hid (fun (W : World) (hb : Below w.heap.size w W) => segments2_any l _ p W (hr.below hb) (by omega) hm)
  have HFR := Lib.hid (fun W => frame3_any s W hs)
  clear hr
  go_enter Try.func21, Try.ntmps21
  go_wp2_with fail
  generalize hw0 : w.alloc (Obj.cells #[.slice q l.length cap] 24) = w0
  have HB0 : Hid (Below w.heap.size w w0) := Lib.hid (hw0 ▸ below1 w _)
  have HD0 : Hid (VarAt w0 w.heap.size (.slice q l.length cap)) := Lib.hid (hw0 ▸ VarAt.new w _)
  clear hw0
  by_cases hshort : s.size ≤ 131072
  · rw [frV_short hshort] at HFR
    have HSH := Lib.hid hshort
    clear hshort
    go_upto_region 8 with (first
      | (go_at_call 36; (with_reducible refine (prefix_any p _).mono ?_); rintro e w1 ⟨rfl, rfl⟩; rw [hp])
      | (go_at_call 45; (with_reducible refine (HFR.out _).mono ?_); rintro e w1 ⟨rfl, hb1⟩; have HB1 := Lib.hid hb1; have d1 := (HD0.out.keep hb1).c; clear hb1)
      | (go_at_call 37; (with_reducible refine (HSG.out _ (below_then HB0.out HB1.out)).mono ?_); rintro e w2 ⟨v2, L, rfl, hOL, hL, hLm, hb2⟩; obtain ⟨q2, c2, rfl⟩ := owns_shape hOL.1; have HOL := Lib.hid hOL; have HL := Lib.hid hL; have HLM := Lib.hid hLm; have HB2 := Lib.hid (below_then (below_then HB0.out HB1.out) hb2); clear hOL hL hLm hb2)
      | fail)
    have hLl : L.length ≤ 1000000 := by
      obtain ⟨M, hM, hMm, hMl⟩ := nums_exist p l
      obtain rfl := strict_unique HL.out hM fun n => (HLM.out n).trans (hMm n).symm
      exact hMl
    have hwl : IntKind.i64.wrap ((L.length : Int) - 1) = (L.length : Int) - 1 := IntWalk.i64_in _ (by omega)
    by_cases hz : L = []
    · have hl0 : L.length = 0 := by rw [hz]; rfl
      have hlt0 : decide ((0 : Int) < (L.length : Int)) = false := decide_eq_false (by omega)
      have HN : Hid (nextN L = 0) := Lib.hid (by rw [hz]; rfl)
      have HNM : Hid (∀ W : World, Calls Try.prog 23 #[.string p, .int .i64 0] W fun e w' => e = .returned (.string (nameOf p 0)) ∧ Below W.heap.size W w') := Lib.hid (fun W => name3_any p 0 W (by omega) (by omega))
      clear hz d1
      go_wp2_with (first
        | (go_at_call 23; (with_reducible refine (HNM.out _).mono ?_); rintro e w3 ⟨rfl, hb3⟩; first | (have HB4 := Lib.hid (below_then HB3.out hb3)) | (have HB3 := Lib.hid hb3); clear hb3)
        | fail)
      generalize hw5 : World.alloc w3 _ = w5
      have HB5 : Hid (Below w2.heap.size w2 w5) := Lib.hid (hw5 ▸ nb_alloc HB4.out _)
      have HP5 : Hid (OwnP w5 w2.heap.size (.slice (some ⟨w3.heap.size, 0, none⟩) 2 2) (firstOps p s 0)) := Lib.hid ⟨hw5 ▸ own_first w3 w2.heap.size p s 0 HB4.out.size, by simp [firstOps]⟩
      clear hw5
      go_loopw [12, 13] (fun u i wr => ∃ t : Nat, t ≤ L.length ∧ i = .int .i64 ((t : Int) - 1) ∧ Hid (OwnP wr w2.heap.size u (firstOps p s 0 ++ dropNs p (L.drop t))) ∧ Hid (Below w2.heap.size w2 wr)) (fun _ i _ => ((intOf i) + 1).toNat)
      case atStart =>
        refine ⟨L.length, Nat.le_refl _, by congr 1; omega, ?_, HB5⟩
        rw [List.drop_length]
        exact HP5
      case round =>
        obtain ⟨t, ht, rfl, hown, hbl⟩ := hrel
        by_cases hlt : 0 < t
        · exact absurd hlt (by omega)
        · obtain rfl : t = 0 := by omega
          go_wp2_with fail
          go_ret2
          rw [List.drop_zero] at hown
          exact ⟨firstOps p s 0 ++ dropNs p L, 0, _, Or.inr ⟨HSH.out, L, HL.out, HLM.out, Or.inr ⟨by rw [HN.out]; omega, by rw [HN.out], rfl⟩⟩, rfl, hown.out.reads, below_then HB2.out hbl.out⟩
    · have hpos := List.length_pos_iff.2 hz
      obtain ⟨g, cap2, hv2, hcc, hcm, hg, _, hcL⟩ := HOL.out.is hz
      obtain ⟨rfl, rfl⟩ : q2 = some ⟨g, 0, none⟩ ∧ c2 = cap2 := by
        injection hv2 with e1 e2 e3
        exact ⟨e1, e3⟩
      obtain ⟨k, hk⟩ : ∃ k, L.length = k + 1 := ⟨L.length - 1, by omega⟩
      have e0 : (L.length : Int) - 1 = (k : Int) := by omega
      have hkl : k < L.length := by omega
      have ck := hcL k hkl
      have HCL := Lib.hid hcL
      have hn9 := hasN_le ((HLM.out L[k]).1 (List.getElem_mem _))
      have HN : Hid (nextN L = L[k] + 2) := Lib.hid (nextN_last hk)
      obtain ⟨m, hmm⟩ : ∃ m, L[k] = m := ⟨_, rfl⟩
      rw [hmm] at ck HN hn9
      have hlt0 : decide ((0 : Int) < (L.length : Int)) = true := decide_eq_true (by omega)
      have HNM : Hid (∀ W : World, Calls Try.prog 23 #[.string p, .int .i64 ((m : Int) + 2)] W fun e w' => e = .returned (.string (nameOf p (m + 2))) ∧ Below W.heap.size W w') := Lib.hid (fun W => name3_any p (m + 2) W (by omega) (by omega))
      clear hcm hcc hcL hv2 hmm hk hz d1 hwl
      by_cases hbig : 999999 < m + 2
      · have t1 : decide ((999999 : Int) < (m : Int) + 2) = true := decide_eq_true (by omega)
        go_wp2_with fail
        go_ret2
        exact ⟨[], 4, _, Or.inr ⟨HSH.out, L, HL.out, HLM.out, Or.inl ⟨by rw [HN.out]; exact hbig, rfl, rfl⟩⟩, rfl, reads_nil _ _, HB2.out⟩
      · have t1 : decide ((999999 : Int) < (m : Int) + 2) = false := decide_eq_false (by omega)
        go_wp2_with (first
          | (go_at_call 23; (with_reducible refine (HNM.out _).mono ?_); rintro e w3 ⟨rfl, hb3⟩; first | (have HB4 := Lib.hid (below_then HB3.out hb3)) | (have HB3 := Lib.hid hb3); clear hb3)
          | fail)
        generalize hw5 : World.alloc w3 _ = w5
        have HB5 : Hid (Below w2.heap.size w2 w5) := Lib.hid (hw5 ▸ nb_alloc HB4.out _)
        have HP5 : Hid (OwnP w5 w2.heap.size (.slice (some ⟨w3.heap.size, 0, none⟩) 2 2) (firstOps p s (m + 2))) := Lib.hid ⟨hw5 ▸ own_first w3 w2.heap.size p s (m + 2) HB4.out.size, by simp [firstOps]⟩
        clear hw5
        go_loopw [12, 13] (fun u i wr => ∃ t : Nat, t ≤ L.length ∧ i = .int .i64 ((t : Int) - 1) ∧ Hid (OwnP wr w2.heap.size u (firstOps p s (m + 2) ++ dropNs p (L.drop t))) ∧ Hid (Below w2.heap.size w2 wr)) (fun _ i _ => ((intOf i) + 1).toNat)
        case atStart =>
          refine ⟨L.length, Nat.le_refl _, by congr 1; omega, ?_, HB5⟩
          rw [List.drop_length]
          exact HP5
        case round =>
          obtain ⟨t, ht, rfl, hown, hbl⟩ := hrel
          by_cases hlt : 0 < t
          · obtain ⟨j, rfl⟩ : ∃ j, t = j + 1 := ⟨t - 1, by omega⟩
            have e1 : ((j + 1 : Nat) : Int) - 1 = (j : Int) := by omega
            rw [e1]
            have hjl : j < L.length := by omega
            have cj := (hbl.out.cell (p := ⟨g, j, none⟩) hg).trans (HCL.out j hjl)
            have hj9 := hasN_le ((HLM.out L[j]).1 (List.getElem_mem _))
            have hnx := plan_next p s (m + 2) L j hjl
            have hpl := plan_len p s (m + 2) (L.drop (j + 1))
            rw [List.length_drop] at hpl
            obtain ⟨P, hP⟩ : ∃ P, firstOps p s (m + 2) ++ dropNs p (L.drop (j + 1)) = P := ⟨_, rfl⟩
            obtain ⟨m', hm'⟩ : ∃ m', L[j] = m' := ⟨_, rfl⟩
            rw [hP, hm'] at hnx
            rw [hP] at hown hpl
            rw [hm'] at cj hj9
            have HNX := Lib.hid hnx
            have HPL := Lib.hid hpl
            have c1 : (0 : Int) ≤ (j : Int) := by omega
            have w3j : IntKind.i64.wrap ((j : Int) - 1) = (j : Int) - 1 := IntWalk.i64_in _ (by omega)
            clear hnx hpl hP hm'
            go_wp2_with (first
              | (go_at_call 23; (with_reducible refine (name3_any p m' _ (by omega) (by omega)).mono ?_); rintro e w6 ⟨rfl, hb6⟩; have HB6 := Lib.hid hb6; clear hb6)
              | (at_builtin; refine wpList_append_own _ rfl _ _ 28 rfl w2.heap.size 55 i0 (.agg #[.int .i64 0, .string .empty, .int .i64 0, .string .empty]) 4 48 Try.underlying28 hi hz0 hz1 hz2 rfl (by decide) _ P.length (dopCells P) rfl ?a1 ⟨w6.heap.size, 0, none⟩ 1 1 [.int .i64 4, .string (nameOf p m'), .int .i64 0, .string ⟨#[]⟩] rfl rfl ?a2 ?a3 ?a4 ?a5 ?a6 ?_; rotate_right 1; intro v7 w7 hown7 hg7 hnil7; have HOWN7 := Lib.hid hown7; have HG7 := Lib.hid hg7; have HNIL7 := Lib.hid hnil7; clear hown7 hg7 hnil7)
              | fail)
            case a1 => exact owns_below (owns_below hown.out.1 HB6.out) (below1 _ _)
            case a2 =>
              intro j u hu
              rw [add_lit, Nat.zero_add, cell_of_row _ _ _ _ 55 _ (heap_alloc_new w6 _)]
              simpa using hu
            case a3 =>
              intro u hu
              simp at hu
              rcases hu with rfl | rfl | rfl | rfl <;> rfl
            case a4 => rw [HPL.out]; unfold maxLen; omega
            case a5 => rw [HPL.out]; omega
            case a6 => have := hbl.out.size; have := HB6.out.size; simp; omega
            have o1 := owns_below (owns_below hown.out.1 HB6.out) (below1 w6 (.cells #[.int .i64 4, .string (nameOf p m'), .int .i64 0, .string ⟨#[]⟩] 55))
            have bx1 := nb_alloc (below_then hbl.out HB6.out) (.cells #[.int .i64 4, .string (nameOf p m'), .int .i64 0, .string ⟨#[]⟩] 55)
            have bx2 := below_grown bx1 o1 HG7.out
            refine ⟨⟨j, by omega, rfl, ?_, Lib.hid bx2⟩, by simp [intOf]⟩
            refine Lib.hid ?_
            rw [HNX.out]
            exact own_more HOWN7.out (fun h => absurd (HNIL7.out.1 h) (by simp))
          · obtain rfl : t = 0 := by omega
            go_wp2_with fail
            go_ret2
            rw [List.drop_zero] at hown
            exact ⟨firstOps p s (m + 2) ++ dropNs p L, 0, _, Or.inr ⟨HSH.out, L, HL.out, HLM.out, Or.inr ⟨by rw [HN.out]; omega, by rw [HN.out], rfl⟩⟩, rfl, hown.out.reads, below_then HB2.out hbl.out⟩
  · rw [frV_long hshort] at HFR
    go_wp2_with (first
      | (go_at_call 36; (with_reducible refine (prefix_any p _).mono ?_); rintro e w1 ⟨rfl, rfl⟩; rw [hp])
      | (go_at_call 45; (with_reducible refine (HFR.out _).mono ?_); rintro e w1 ⟨rfl, hb1⟩; have HB1 := Lib.hid hb1; clear hb1)
      | fail)
    go_ret2
    exact ⟨[], 2, _, Or.inl ⟨by omega, rfl, rfl⟩, rfl, reads_nil _ _, below_then HB0.out HB1.out⟩
end Go.Proofs.Ytkecjopojnllnaa
namespace Go.Proofs.Ytkecjopojnllnaa
open Go.RowKit Go.Deep Go.Joins
set_option maxRecDepth 100000 in
set_option maxHeartbeats 1000000 in
theorem name_far (p : ByteArray) (n : Nat) (w : World) (hp : p.size ≤ 1099511627776) (hn : n ≤ 9223372036854775807) :
    Calls Try.prog 22 #[.string p, .int .i64 n] w fun e w' => e = .returned (.string (nameOf p n)) ∧ Below w.heap.size w w' := by
  have hp1 : ¬ 9223372036854775807 < p.size + 1 := by omega
  go_enter Try.func22, Try.ntmps22
  go_wp2_with fail
  go_loopw [6, 1] (fun k i wr => ∃ t m : Nat, t ≤ 6 ∧ k = .int .i64 ((t : Int) - 1) ∧ i = .int .i64 (m : Int) ∧ m ≤ n ∧ Hid (m = n / 10 ^ (6 - t)) ∧ Hid (wr.heap[w.heap.size]? = some (.cells (bcells (dgs n t)) 85 (0, 0))) ∧ Hid (Below w.heap.size w wr)) (fun k _ _ => ((intOf k) + 1).toNat)
  case atStart =>
    refine ⟨6, n, Nat.le_refl _, by go_num, rfl, Nat.le_refl _, by show _ = _; simp, ?_, below1 _ _⟩
    show _ = _
    rw [dgs_none, heap_alloc_new]
    rfl
  case round =>
    obtain ⟨t, m, ht, rfl, rfl, hmn, hm, hrow, hbl⟩ := hrel
    by_cases hlt : 0 < t
    · obtain ⟨s, rfl⟩ : ∃ s, t = s + 1 := ⟨t - 1, by omega⟩
      have e1 : ((s + 1 : Nat) : Int) - 1 = (s : Int) := by omega
      rw [e1]
      have c1 : (0 : Int) ≤ (s : Int) := by omega
      have c2 : (s : Int) < 6 := by omega
      have hcell : wr.cell? ⟨w.heap.size, s, none⟩ = some (.int .u8 ((dg n (s + 1) s).toNat : Int)) := by
        rw [cell_of_row _ _ _ _ 85 _ hrow.out]
        obtain rfl | rfl | rfl | rfl | rfl | rfl : s = 0 ∨ s = 1 ∨ s = 2 ∨ s = 3 ∨ s = 4 ∨ s = 5 := by omega
        all_goals rfl
      have hfz := frozen_of_row wr w.heap.size s _ 85 hrow.out
      have hlw := lt_of_cell hcell
      have w1 : IntKind.u8.wrap ((m : Int) % 10) = (m : Int) % 10 := IntWalk.u8_in _ (by omega)
      have w2 : IntKind.u8.wrap (48 + (m : Int) % 10) = 48 + (m : Int) % 10 := IntWalk.u8_in _ (by omega)
      have w3 : IntKind.i64.wrap ((s : Int) - 1) = (s : Int) - 1 := IntWalk.i64_in _ (by omega)
      have r1 : ((m : Int)).tmod 10 = (m : Int) % 10 := IntWalk.rem_in _ _ (by omega)
      have hset : (wr.setCell ⟨w.heap.size, s, none⟩ (.int .u8 (48 + (m : Int) % 10))).heap[w.heap.size]? = some (.cells (bcells (dgs n s)) 85 (0, 0)) := by
        rw [heap_setCell_same wr _ s _ 85 _ hrow.out, ← dg_set n s (by omega)]
        have e : (48 + (m : Int) % 10) = ((dgt n s : Nat) : Int) := by
          have := hm.out
          unfold dgt
          rw [show 6 - (s + 1) = 5 - s by omega] at this
          rw [← this]
          omega
        rw [e]
      have hb2 := nb_set (Nat.le_refl _) hbl.out s (.int .u8 (48 + (m : Int) % 10))
      have HSET := Lib.hid hset
      have HB2 := Lib.hid hb2
      clear hset hb2
      go_wp2_with fail
      case roundEnd =>
        refine ⟨⟨s, m / 10, by omega, rfl, by go_num, Nat.le_trans (Nat.div_le_self _ _) hmn, ?_, HSET.out, HB2.out⟩, ?_⟩
        · show _ = _
          have := hm.out
          rw [show 6 - (s + 1) = 5 - s by omega] at this
          rw [this]
          exact next_div n s (by omega)
        · simp [intOf]
    · obtain rfl : t = 0 := by omega
      have hcv := run_string_of_row (P := Try.prog) wr 86 9 5 w.heap.size 6 6 (dgs n 0) 85 (0, 0) Try.underlying86 Try.underlying5 Try.underlying9 hrow.out rfl
      have hsz : (ByteArray.mk (dgs n 0).toArray).size = 6 := rfl
      have hp2 : ¬ 9223372036854775807 < p.size + 1 + 6 := by omega
      have hps : (p ++ ⟨#[46]⟩).size = p.size + 1 := dotB_size p
      have hlw := (Array.getElem?_eq_some_iff.1 hrow.out).1
      go_wp2_with fail
      go_ret
      exact ⟨rfl, hbl.out⟩
set_option maxRecDepth 100000 in
set_option maxHeartbeats 1000000 in
theorem name3_far (p : ByteArray) (n : Nat) (w : World) (hp : p.size ≤ 1099511627776) (hn : n ≤ 9223372036854775807) :
    Calls Try.prog 23 #[.string p, .int .i64 n] w fun e w' => e = .returned (.string (nameOf p n)) ∧ Below w.heap.size w w' := by
  have hp1 : ¬ 9223372036854775807 < p.size + 1 := by omega
  obtain ⟨i0, hi, hz0, hz1, hz2⟩ := info_parts (show (Try.prog.info? 5).map (fun i => (i.zero, i.size, i.bytes)) = some (some (.int .u8 0), 1, 1) by kernel_rfl)
  have hmk : (Instr.makeSlice 86 (.int .i64 6) (.int .i64 6)).run Try.prog w = .ok (.slice (some ⟨w.heap.size, 0, none⟩) 6 6) (w.alloc (.cells #[.int .u8 0, .int .u8 0, .int .u8 0, .int .u8 0, .int .u8 0, .int .u8 0] 5)) := by
    have h := run_make (P := Try.prog) w 86 5 i0 (.int .u8 0) Try.underlying86 hi hz0 .i64 .i64 6 6 (by omega) (by omega) (by rw [hz2]; omega) (by omega)
    have hm : madeCells (Value.int .u8 0).cells (Int.toNat 6 * 1) = #[.int .u8 0, .int .u8 0, .int .u8 0, .int .u8 0, .int .u8 0, .int .u8 0] := by
      apply Array.ext'
      rw [show (Value.int .u8 0).cells = #[.int .u8 0] from rfl, toList_madeCells_one]
      rfl
    rw [hz1, hm] at h
    exact h
  go_enter Try.func23, Try.ntmps23
  go_wp2_with fail
  go_loopw [6, 1] (fun k i wr => ∃ t m : Nat, t ≤ 6 ∧ k = .int .i64 ((t : Int) - 1) ∧ i = .int .i64 (m : Int) ∧ m ≤ n ∧ Hid (m = n / 10 ^ (6 - t)) ∧ Hid (wr.heap[w.heap.size]? = some (.cells (bcells (dgs n t)) 5 (0, 0))) ∧ Hid (Below w.heap.size w wr)) (fun k _ _ => ((intOf k) + 1).toNat)
  case atStart =>
    refine ⟨6, n, Nat.le_refl _, by go_num, rfl, Nat.le_refl _, by show _ = _; simp, ?_, below1 _ _⟩
    show _ = _
    rw [dgs_none, heap_alloc_new]
    rfl
  case round =>
    obtain ⟨t, m, ht, rfl, rfl, hmn, hm, hrow, hbl⟩ := hrel
    by_cases hlt : 0 < t
    · obtain ⟨s, rfl⟩ : ∃ s, t = s + 1 := ⟨t - 1, by omega⟩
      have e1 : ((s + 1 : Nat) : Int) - 1 = (s : Int) := by omega
      rw [e1]
      have c1 : (0 : Int) ≤ (s : Int) := by omega
      have c2 : (s : Int) < 6 := by omega
      have hcell : wr.cell? ⟨w.heap.size, s, none⟩ = some (.int .u8 ((dg n (s + 1) s).toNat : Int)) := by
        rw [cell_of_row _ _ _ _ 5 _ hrow.out]
        obtain rfl | rfl | rfl | rfl | rfl | rfl : s = 0 ∨ s = 1 ∨ s = 2 ∨ s = 3 ∨ s = 4 ∨ s = 5 := by omega
        all_goals rfl
      have hfz := frozen_of_row wr w.heap.size s _ 5 hrow.out
      have hlw := lt_of_cell hcell
      have w1 : IntKind.u8.wrap ((m : Int) % 10) = (m : Int) % 10 := IntWalk.u8_in _ (by omega)
      have w2 : IntKind.u8.wrap (48 + (m : Int) % 10) = 48 + (m : Int) % 10 := IntWalk.u8_in _ (by omega)
      have w3 : IntKind.i64.wrap ((s : Int) - 1) = (s : Int) - 1 := IntWalk.i64_in _ (by omega)
      have r1 : ((m : Int)).tmod 10 = (m : Int) % 10 := IntWalk.rem_in _ _ (by omega)
      have hset : (wr.setCell ⟨w.heap.size, s, none⟩ (.int .u8 (48 + (m : Int) % 10))).heap[w.heap.size]? = some (.cells (bcells (dgs n s)) 5 (0, 0)) := by
        rw [heap_setCell_same wr _ s _ 5 _ hrow.out, ← dg_set n s (by omega)]
        have e : (48 + (m : Int) % 10) = ((dgt n s : Nat) : Int) := by
          have := hm.out
          unfold dgt
          rw [show 6 - (s + 1) = 5 - s by omega] at this
          rw [← this]
          omega
        rw [e]
      have hb2 := nb_set (Nat.le_refl _) hbl.out s (.int .u8 (48 + (m : Int) % 10))
      have HSET := Lib.hid hset
      have HB2 := Lib.hid hb2
      clear hset hb2
      go_wp2_with fail
      case roundEnd =>
        refine ⟨⟨s, m / 10, by omega, rfl, by go_num, Nat.le_trans (Nat.div_le_self _ _) hmn, ?_, HSET.out, HB2.out⟩, ?_⟩
        · show _ = _
          have := hm.out
          rw [show 6 - (s + 1) = 5 - s by omega] at this
          rw [this]
          exact next_div n s (by omega)
        · simp [intOf]
    · obtain rfl : t = 0 := by omega
      have hcv := run_string_of_row (P := Try.prog) wr 86 9 5 w.heap.size 6 6 (dgs n 0) 5 (0, 0) Try.underlying86 Try.underlying5 Try.underlying9 hrow.out rfl
      have hsz : (ByteArray.mk (dgs n 0).toArray).size = 6 := rfl
      have hp2 : ¬ 9223372036854775807 < p.size + 1 + 6 := by omega
      have hps : (p ++ ⟨#[46]⟩).size = p.size + 1 := dotB_size p
      have hlw := (Array.getElem?_eq_some_iff.1 hrow.out).1
      go_wp2_with fail
      go_ret
      exact ⟨rfl, hbl.out⟩
set_option maxRecDepth 100000 in
set_option maxHeartbeats 1000000 in
theorem plans_true (P : List DOp) (v v' : Value) (w : World) (hr : Reads w v 4 P.length (dopCells P)) (hr' : Reads w v' 4 P.length (dopCells P)) (hm : P.length ≤ 9223372036854775807) :
    Calls Try.prog 14 #[v, v'] w fun e w' => e = .returned (.bool true) ∧ Below w.heap.size w w' := by
  obtain ⟨q, cap, rfl⟩ := hr.is
  obtain ⟨q', cap', rfl⟩ := hr'.is
  go_enter Try.func14, Try.ntmps14
  go_wp2_with fail
  go_loopw [5] (fun i wr => ∃ k : Nat, k ≤ P.length ∧ i = .int .i64 (k : Int) ∧ Hid (Below w.heap.size w wr)) (fun i _ => P.length - (intOf i).toNat)
  case atStart => exact ⟨0, Nat.zero_le _, rfl, Lib.hid (Below.refl _ _)⟩
  case round =>
    obtain ⟨k, hk, rfl, hbl⟩ := hrel
    by_cases hlt : k < P.length
    · obtain ⟨b1, off1, cap1, hv, hb1, x0, x1, x2, x3⟩ := (hr.below hbl.out).dop k hlt
      obtain ⟨rfl, rfl⟩ : q = some ⟨b1, off1, none⟩ ∧ cap = cap1 := by simpa using hv
      obtain ⟨b2, off2, cap2, hv2, hb2, y0, y1, y2, y3⟩ := (hr'.below hbl.out).dop k hlt
      obtain ⟨rfl, rfl⟩ : q' = some ⟨b2, off2, none⟩ ∧ cap' = cap2 := by simpa using hv2
      obtain ⟨o, ho⟩ : ∃ o, P[k] = o := ⟨_, rfl⟩
      rw [ho] at x0 x1 x2 x3 y0 y1 y2 y3
      clear hv hv2 ho
      go_wp2_with fail
      go_quiet (fail)
      go_wp2_with fail
      exact ⟨⟨k + 1, by omega, by go_num, Lib.hid (hbl.out.trans ⟨rfl, rfl, rfl, Nat.le_refl _, fun _ _ => rfl⟩)⟩, by simp [intOf]; omega⟩
    · obtain rfl : k = P.length := by omega
      go_wp2_with fail
      go_ret
      exact ⟨rfl, hbl.out⟩
end Go.Proofs.Ytkecjopojnllnaa
