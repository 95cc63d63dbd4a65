/- Lines. What reads and writes tell. Own. -/
import Derived.Test.YtnedhjaphfjdmaaYPC
import Derived.StillTailTactics
namespace Go.Proofs.Ytnedhjaphfjdmaa.Pc
open Go.RowKit Go.Deep Go.Joins
def linesF (h : Pl) (s : Int) : Int := bits .or .u64 (if bestF h s 0 = 0 then 0 else 2048) (if bestF h s 1 = 0 then 0 else 512)
theorem or_none (x : Int) (h : x = 0 ∨ x = 2048) : bits .or .u64 x 0 = x := by rcases h with rfl | rfl <;> decide +kernel
theorem stepB_fst (m : Bool) (k q : Int) (x : Int × Int) (hk : 0 ≤ k ∧ k ≤ 3) (hx : 0 ≤ x.1 ∧ x.1 ≤ 3) : 0 ≤ (stepB m k q x).1 ∧ (stepB m k q x).1 ≤ 3 := by
  unfold stepB
  split
  · exact hk
  · exact hx
theorem st_range (h : Pl) (s e l : Int) : 0 ≤ (stB h s e l 4).1 ∧ (stB h s e l 4).1 ≤ 3 :=
  stepB_fst _ _ _ _ (by omega) (stepB_fst _ _ _ _ (by omega) (stepB_fst _ _ _ _ (by omega) ⟨by show (0 : Int) ≤ 0; omega, by show (0 : Int) ≤ 3; omega⟩))
theorem best_range (h : Pl) (s who : Int) : 0 ≤ bestF h s who ∧ bestF h s who ≤ 3 := by
  unfold bestF
  split
  · exact st_range h s _ _
  · split
    · exact st_range h s _ _
    · omega
set_option maxHeartbeats 1000000 in
theorem lines_11 (h : Pl) (s : Int) (n0 : bestF h s 0 = 0) (n1 : bestF h s 1 = 0) (W : World) : Calls Try.prog 20 #[plV h, .int .u32 s] W fun e W' => e = .returned (.int .u64 (linesF h s)) ∧ Below W.heap.size W W' := by
  have HE : RowKit.Hid (linesF h s = 0) := Lib.hid (by unfold linesF; rw [if_pos n0, if_pos n1] <;> decide +kernel)
  have q0 := best_any h s 0
  have q1 := best_any h s 1
  rw [n0] at q0
  rw [n1] at q1
  have Q0 := Lib.hid q0
  have Q1 := Lib.hid q1
  clear q0 q1
  go_enter Try.func20, Try.ntmps20
  go_wp2_with (first | (with_reducible refine wpList_load_by rfl rfl (Box.load ((Box.new W h).next k1)) rfl ?_) | (with_reducible refine wpList_load_by rfl rfl (Box.load (Box.new W h)) rfl ?_) | (go_at_call 44; (with_reducible refine (Q0.out _).mono ?_); rintro e w1 ⟨rfl, k1⟩) | (go_at_call 44; (with_reducible refine (Q1.out _).mono ?_); rintro e w2 ⟨rfl, k2⟩) | fail)
  go_ret
  exact ⟨ret_int HE.out.symm, below_then (below_then ((Below.refl _ _).alloc (Nat.le_refl _) _) (Nat.le_refl _) k1) (Nat.le_refl _) k2⟩
set_option maxHeartbeats 1000000 in
theorem lines_10 (h : Pl) (s : Int) (n0 : bestF h s 0 = 0) (n1 : 0 < bestF h s 1) (W : World) : Calls Try.prog 20 #[plV h, .int .u32 s] W fun e W' => e = .returned (.int .u64 (linesF h s)) ∧ Below W.heap.size W W' := by
  have HE : RowKit.Hid (linesF h s = bits .or .u64 0 512) := Lib.hid (by unfold linesF; rw [if_pos n0, if_neg (by omega)] <;> decide +kernel)
  have q0 := best_any h s 0
  have q1 := best_any h s 1
  rw [n0] at q0
  have e1 : (bestF h s 1 != 0) = true := by rw [bne_iff_ne]; omega
  generalize bestF h s 1 = x1 at *
  have Q0 := Lib.hid q0
  have Q1 := Lib.hid q1
  clear q0 q1
  go_enter Try.func20, Try.ntmps20
  go_wp2_with (first | (with_reducible refine wpList_load_by rfl rfl (Box.load ((Box.new W h).next k1)) rfl ?_) | (with_reducible refine wpList_load_by rfl rfl (Box.load (Box.new W h)) rfl ?_) | (go_at_call 44; (with_reducible refine (Q0.out _).mono ?_); rintro e w1 ⟨rfl, k1⟩) | (go_at_call 44; (with_reducible refine (Q1.out _).mono ?_); rintro e w2 ⟨rfl, k2⟩) | fail)
  go_ret
  exact ⟨ret_int HE.out.symm, below_then (below_then ((Below.refl _ _).alloc (Nat.le_refl _) _) (Nat.le_refl _) k1) (Nat.le_refl _) k2⟩
set_option maxHeartbeats 1000000 in
theorem lines_01 (h : Pl) (s : Int) (n0 : 0 < bestF h s 0) (n1 : bestF h s 1 = 0) (W : World) : Calls Try.prog 20 #[plV h, .int .u32 s] W fun e W' => e = .returned (.int .u64 (linesF h s)) ∧ Below W.heap.size W W' := by
  have HE : RowKit.Hid (linesF h s = bits .or .u64 0 2048) := Lib.hid (by unfold linesF; rw [if_neg (by omega), if_pos n1] <;> decide +kernel)
  have q0 := best_any h s 0
  have q1 := best_any h s 1
  have e0 : (bestF h s 0 != 0) = true := by rw [bne_iff_ne]; omega
  generalize bestF h s 0 = x0 at *
  rw [n1] at q1
  have Q0 := Lib.hid q0
  have Q1 := Lib.hid q1
  clear q0 q1
  go_enter Try.func20, Try.ntmps20
  go_wp2_with (first | (with_reducible refine wpList_load_by rfl rfl (Box.load ((Box.new W h).next k1)) rfl ?_) | (with_reducible refine wpList_load_by rfl rfl (Box.load (Box.new W h)) rfl ?_) | (go_at_call 44; (with_reducible refine (Q0.out _).mono ?_); rintro e w1 ⟨rfl, k1⟩) | (go_at_call 44; (with_reducible refine (Q1.out _).mono ?_); rintro e w2 ⟨rfl, k2⟩) | fail)
  go_ret
  exact ⟨ret_int HE.out.symm, below_then (below_then ((Below.refl _ _).alloc (Nat.le_refl _) _) (Nat.le_refl _) k1) (Nat.le_refl _) k2⟩
set_option maxHeartbeats 1000000 in
theorem lines_00 (h : Pl) (s : Int) (n0 : 0 < bestF h s 0) (n1 : 0 < bestF h s 1) (W : World) : Calls Try.prog 20 #[plV h, .int .u32 s] W fun e W' => e = .returned (.int .u64 (linesF h s)) ∧ Below W.heap.size W W' := by
  have HE : RowKit.Hid (linesF h s = bits .or .u64 (bits .or .u64 0 2048) 512) := Lib.hid (by unfold linesF; rw [if_neg (by omega), if_neg (by omega)] <;> decide +kernel)
  have q0 := best_any h s 0
  have q1 := best_any h s 1
  have e0 : (bestF h s 0 != 0) = true := by rw [bne_iff_ne]; omega
  generalize bestF h s 0 = x0 at *
  have e1 : (bestF h s 1 != 0) = true := by rw [bne_iff_ne]; omega
  generalize bestF h s 1 = x1 at *
  have Q0 := Lib.hid q0
  have Q1 := Lib.hid q1
  clear q0 q1
  go_enter Try.func20, Try.ntmps20
  go_wp2_with (first | (with_reducible refine wpList_load_by rfl rfl (Box.load ((Box.new W h).next k1)) rfl ?_) | (with_reducible refine wpList_load_by rfl rfl (Box.load (Box.new W h)) rfl ?_) | (go_at_call 44; (with_reducible refine (Q0.out _).mono ?_); rintro e w1 ⟨rfl, k1⟩) | (go_at_call 44; (with_reducible refine (Q1.out _).mono ?_); rintro e w2 ⟨rfl, k2⟩) | fail)
  go_ret
  exact ⟨ret_int HE.out.symm, below_then (below_then ((Below.refl _ _).alloc (Nat.le_refl _) _) (Nat.le_refl _) k1) (Nat.le_refl _) k2⟩
theorem lines_any (h : Pl) (s : Int) (W : World) : Calls Try.prog 20 #[plV h, .int .u32 s] W fun e W' => e = .returned (.int .u64 (linesF h s)) ∧ Below W.heap.size W W' := by
  have r0 := best_range h s 0
  have r1 := best_range h s 1
  by_cases n0 : bestF h s 0 = 0
  · by_cases n1 : bestF h s 1 = 0
    · exact lines_11 h s n0 n1 W
    · exact lines_10 h s n0 (by omega) W
  · by_cases n1 : bestF h s 1 = 0
    · exact lines_01 h s (by omega) n1 W
    · exact lines_00 h s (by omega) (by omega) W
end Go.Proofs.Ytnedhjaphfjdmaa.Pc
namespace Go.Proofs.Ytnedhjaphfjdmaa.Pc
open Go.RowKit Go.Deep Go.Joins
/-- What a read tells: the state behind it, the number, and whether there is something to be read so. -/
def ldF (h : Pl) (s t z : Int) : Pl × Int × Bool :=
  if t = 201326596 ∧ z = 4 then (h, IntKind.u64.wrap h.p1, true) else
  if t = 201326600 ∧ z = 4 then (h, IntKind.u64.wrap h.p2, true) else
  if t = 201326604 ∧ z = 4 then (h, IntKind.u64.wrap h.p3, true) else
  if t = 201330688 ∧ z = 4 then (h, IntKind.u64.wrap (waitV s h.c), true) else
  if t = 201334784 ∧ z = 4 then (h, IntKind.u64.wrap h.e0, true) else
  if t = 201334912 ∧ z = 4 then (h, IntKind.u64.wrap h.e1, true) else
  if t = 203423744 ∧ z = 4 then (h, IntKind.u64.wrap h.l0, true) else
  if t = 203427840 ∧ z = 4 then (h, IntKind.u64.wrap h.l1, true) else
  if t = 203423748 ∧ z = 4 then ({ h with c := bits .or .u32 h.c (wt (bestF h s 0)) }, bestF h s 0, true) else
  if t = 203427844 ∧ z = 4 then ({ h with c := bits .or .u32 h.c (wt (bestF h s 1)) }, bestF h s 1, true) else
  (zeroP, 0, false)
theorem ldF_none (h : Pl) (s t z : Int) (hn : z ≠ 4 ∨ NoPlace t) : ldF h s t z = (zeroP, 0, false) := by
  unfold ldF
  rcases hn with hn | hn
  · simp [hn]
  · simp [hn.n_p1, hn.n_p2, hn.n_p3, hn.n_wait, hn.n_e0, hn.n_e1, hn.n_l0, hn.n_l1, hn.n_b0, hn.n_b1]
theorem ldF_p1 (h : Pl) (s : Int) : ldF h s 201326596 4 = (h, IntKind.u64.wrap h.p1, true) := rfl
theorem ldF_p2 (h : Pl) (s : Int) : ldF h s 201326600 4 = (h, IntKind.u64.wrap h.p2, true) := rfl
theorem ldF_p3 (h : Pl) (s : Int) : ldF h s 201326604 4 = (h, IntKind.u64.wrap h.p3, true) := rfl
theorem ldF_wait (h : Pl) (s : Int) : ldF h s 201330688 4 = (h, IntKind.u64.wrap (waitV s h.c), true) := rfl
theorem ldF_e0 (h : Pl) (s : Int) : ldF h s 201334784 4 = (h, IntKind.u64.wrap h.e0, true) := rfl
theorem ldF_e1 (h : Pl) (s : Int) : ldF h s 201334912 4 = (h, IntKind.u64.wrap h.e1, true) := rfl
theorem ldF_l0 (h : Pl) (s : Int) : ldF h s 203423744 4 = (h, IntKind.u64.wrap h.l0, true) := rfl
theorem ldF_l1 (h : Pl) (s : Int) : ldF h s 203427840 4 = (h, IntKind.u64.wrap h.l1, true) := rfl
theorem ldF_b0 (h : Pl) (s : Int) : ldF h s 203423748 4 = ({ h with c := bits .or .u32 h.c (wt (bestF h s 0)) }, bestF h s 0, true) := rfl
theorem ldF_b1 (h : Pl) (s : Int) : ldF h s 203427844 4 = ({ h with c := bits .or .u32 h.c (wt (bestF h s 1)) }, bestF h s 1, true) := rfl
/-- What is written back. -/
def backF (h : Pl) (n e : Int) : Int := if (1 ≤ n ∧ n ≤ 3) ∧ bitT e n.toNat = true then bits .andNot .u32 h.c (wt n) else h.c
/-- What a write leaves. -/
def stF (h : Pl) (t z v : Int) : Pl × Bool :=
  if t = 201326596 ∧ z = 4 then ({ h with p1 := bits .and .u32 (IntKind.u32.wrap v) 7 }, true) else
  if t = 201326600 ∧ z = 4 then ({ h with p2 := bits .and .u32 (IntKind.u32.wrap v) 7 }, true) else
  if t = 201326604 ∧ z = 4 then ({ h with p3 := bits .and .u32 (IntKind.u32.wrap v) 7 }, true) else
  if t = 201334784 ∧ z = 4 then ({ h with e0 := bits .and .u32 (IntKind.u32.wrap v) 14 }, true) else
  if t = 201334912 ∧ z = 4 then ({ h with e1 := bits .and .u32 (IntKind.u32.wrap v) 14 }, true) else
  if t = 203423744 ∧ z = 4 then ({ h with l0 := bits .and .u32 (IntKind.u32.wrap v) 7 }, true) else
  if t = 203427840 ∧ z = 4 then ({ h with l1 := bits .and .u32 (IntKind.u32.wrap v) 7 }, true) else
  if t = 203423748 ∧ z = 4 then ({ h with c := backF h (IntKind.u32.wrap v) h.e0 }, true) else
  if t = 203427844 ∧ z = 4 then ({ h with c := backF h (IntKind.u32.wrap v) h.e1 }, true) else
  (zeroP, false)
theorem stF_none (h : Pl) (t z v : Int) (hn : z ≠ 4 ∨ NoPlace t) : stF h t z v = (zeroP, false) := by
  unfold stF
  rcases hn with hn | hn
  · simp [hn]
  · simp [hn.n_p1, hn.n_p2, hn.n_p3, hn.n_e0, hn.n_e1, hn.n_l0, hn.n_l1, hn.n_b0, hn.n_b1]
theorem stF_wait (h : Pl) (v : Int) : stF h 201330688 4 v = (zeroP, false) := rfl
theorem stF_p1 (h : Pl) (v : Int) : stF h 201326596 4 v = ({ h with p1 := bits .and .u32 (IntKind.u32.wrap v) 7 }, true) := rfl
theorem stF_p2 (h : Pl) (v : Int) : stF h 201326600 4 v = ({ h with p2 := bits .and .u32 (IntKind.u32.wrap v) 7 }, true) := rfl
theorem stF_p3 (h : Pl) (v : Int) : stF h 201326604 4 v = ({ h with p3 := bits .and .u32 (IntKind.u32.wrap v) 7 }, true) := rfl
theorem stF_e0 (h : Pl) (v : Int) : stF h 201334784 4 v = ({ h with e0 := bits .and .u32 (IntKind.u32.wrap v) 14 }, true) := rfl
theorem stF_e1 (h : Pl) (v : Int) : stF h 201334912 4 v = ({ h with e1 := bits .and .u32 (IntKind.u32.wrap v) 14 }, true) := rfl
theorem stF_l0 (h : Pl) (v : Int) : stF h 203423744 4 v = ({ h with l0 := bits .and .u32 (IntKind.u32.wrap v) 7 }, true) := rfl
theorem stF_l1 (h : Pl) (v : Int) : stF h 203427840 4 v = ({ h with l1 := bits .and .u32 (IntKind.u32.wrap v) 7 }, true) := rfl
theorem stF_b0 (h : Pl) (v : Int) : stF h 203423748 4 v = ({ h with c := backF h (IntKind.u32.wrap v) h.e0 }, true) := rfl
theorem stF_b1 (h : Pl) (v : Int) : stF h 203427844 4 v = ({ h with c := backF h (IntKind.u32.wrap v) h.e1 }, true) := rfl

end Go.Proofs.Ytnedhjaphfjdmaa.Pc
namespace Go.Proofs.Ytnedhjaphfjdmaa.Pc
open Go.RowKit Go.Deep Go.Joins
/-- A function's own state, and its result, whatever else was made since. -/
structure Own (W w : World) (h : Pl) (r : Array Value) : Prop where
  box : Box w W.heap.size h
  res : w.heap[W.heap.size + 1]? = some (.cells r 33 (0, 0))
  below : Below W.heap.size W w
theorem Own.next {W w w' : World} {h : Pl} {r : Array Value} (k : Own W w h r) (j : Below w.heap.size w w') : Own W w' h r :=
  ⟨k.box.next j, (j.block _ (Array.getElem?_eq_some_iff.1 k.res).1).trans k.res, k.below.trans (j.mono k.below.size)⟩
theorem Own.drew {W w : World} {h : Pl} {r : Array Value} (k : Own W w h r) : Own W w.drew h r := k.next (Below.refl _ _).drew
theorem Own.new (W : World) (h : Pl) : Own W ((W.alloc (plO h)).alloc zeroO) h zeroC := ⟨St.box 0 W h zeroC, St.res 0 W h zeroC, St.below 0 W h zeroC⟩
theorem size_row (w : World) (b : Nat) (cs : Array Value) : (w.setRow b cs).heap.size = w.heap.size := by simp [World.setRow]
theorem below_row {B : Nat} {w0 w : World} (k : Below B w0 w) (b : Nat) (hb : B ≤ b) (cs : Array Value) : Below B w0 (w.setRow b cs) :=
  ⟨k.os, k.tape, k.output, by rw [size_row]; exact k.size, fun i hi => (setRow_other w b i cs (by omega)).trans (k.block i hi)⟩
theorem Own.put {W w : World} {h : Pl} {r : Array Value} (k : Own W w h r) (g : Pl) : Own W (w.setRow W.heap.size (plC g)) g r :=
  ⟨Box.mine k.box g, (setRow_other w _ _ _ (by omega)).trans k.res, below_row k.below _ (Nat.le_refl _) _⟩
theorem Own.full {W w : World} {h : Pl} {r : Array Value} (k : Own W w h r) (r' : Array Value) : Own W (w.setRow (W.heap.size + 1) r') h r' :=
  ⟨k.box.over (by omega) _, setRow_heap w _ r r' 33 (0, 0) k.res, below_row k.below _ (by omega) _⟩
theorem Own.load {W w : World} {h : Pl} {r : Array Value} (k : Own W w h r) : (Instr.loadAt 33 (.pointer (some ⟨W.heap.size, 0, none⟩))).run Try.prog w = .ok (plV h) w := k.box.load
theorem Own.tell {W w : World} {h : Pl} {r : Array Value} (k : Own W w h r) (hr : r.size = 9) (g : Pl) : ∃ w', (Instr.storeAt 33 (.pointer (some ⟨W.heap.size + 1, 0, none⟩)) (plV g)).run Try.prog w = .ok () w' ∧ Own W w' h (plC g) :=
  ⟨_, store_box _ _ _ _ k.res hr, k.full _⟩
theorem Own.zero {W w : World} {h : Pl} {r : Array Value} (k : Own W w h r) (hr : r.size = 9) : ∃ w', (Instr.storeAt 33 (.pointer (some ⟨W.heap.size + 1, 0, none⟩)) (.agg zeroC)).run Try.prog w = .ok () w' ∧ Own W w' h (plC zeroP) := k.tell hr zeroP
theorem Own.result {W w : World} {h g : Pl} (k : Own W w h (plC g)) : Box w (W.heap.size + 1) g := k.res
theorem Own.store_at {W w : World} {h : Pl} {r : Array Value} (k : Own W w h r) (g : Pl) (i : Nat) {v : Value} (hi : i < 9) (h1 : v.oneCell' = true) (hc : v.cells = #[v]) (ht : plL g = (plL h).set i v) : ∃ w', (Instr.storeAt 29 (.pointer (some ⟨W.heap.size, i, none⟩)) v).run Try.prog w = .ok () w' ∧ Own W w' g r :=
  ⟨_, run_store_cell _ _ i 29 33 _ _ k.box size29 (by rw [plC_size]; omega) h1 hc, by rw [plC_set h g i v ht]; exact k.put g⟩
theorem Own.load_p0 {W w : World} {h : Pl} {r : Array Value} (k : Own W w h r) : (Instr.loadAt 29 (.pointer (some ⟨W.heap.size, 0, none⟩))).run Try.prog w = .ok (.int .u32 h.p0) w := k.box.load_p0
theorem Own.store_p0 {W w : World} {h : Pl} {r : Array Value} (k : Own W w h r) (v : Int) : ∃ w', (Instr.storeAt 29 (.pointer (some ⟨W.heap.size, 0, none⟩)) (.int .u32 v)).run Try.prog w = .ok () w' ∧ Own W w' { h with p0 := v } r := k.store_at _ 0 (by omega) rfl rfl rfl
theorem Own.load_p1 {W w : World} {h : Pl} {r : Array Value} (k : Own W w h r) : (Instr.loadAt 29 (.pointer (some ⟨W.heap.size, 1, none⟩))).run Try.prog w = .ok (.int .u32 h.p1) w := k.box.load_p1
theorem Own.store_p1 {W w : World} {h : Pl} {r : Array Value} (k : Own W w h r) (v : Int) : ∃ w', (Instr.storeAt 29 (.pointer (some ⟨W.heap.size, 1, none⟩)) (.int .u32 v)).run Try.prog w = .ok () w' ∧ Own W w' { h with p1 := v } r := k.store_at _ 1 (by omega) rfl rfl rfl
theorem Own.load_p2 {W w : World} {h : Pl} {r : Array Value} (k : Own W w h r) : (Instr.loadAt 29 (.pointer (some ⟨W.heap.size, 2, none⟩))).run Try.prog w = .ok (.int .u32 h.p2) w := k.box.load_p2
theorem Own.store_p2 {W w : World} {h : Pl} {r : Array Value} (k : Own W w h r) (v : Int) : ∃ w', (Instr.storeAt 29 (.pointer (some ⟨W.heap.size, 2, none⟩)) (.int .u32 v)).run Try.prog w = .ok () w' ∧ Own W w' { h with p2 := v } r := k.store_at _ 2 (by omega) rfl rfl rfl
theorem Own.load_p3 {W w : World} {h : Pl} {r : Array Value} (k : Own W w h r) : (Instr.loadAt 29 (.pointer (some ⟨W.heap.size, 3, none⟩))).run Try.prog w = .ok (.int .u32 h.p3) w := k.box.load_p3
theorem Own.store_p3 {W w : World} {h : Pl} {r : Array Value} (k : Own W w h r) (v : Int) : ∃ w', (Instr.storeAt 29 (.pointer (some ⟨W.heap.size, 3, none⟩)) (.int .u32 v)).run Try.prog w = .ok () w' ∧ Own W w' { h with p3 := v } r := k.store_at _ 3 (by omega) rfl rfl rfl
theorem Own.load_e0 {W w : World} {h : Pl} {r : Array Value} (k : Own W w h r) : (Instr.loadAt 29 (.pointer (some ⟨W.heap.size, 4, none⟩))).run Try.prog w = .ok (.int .u32 h.e0) w := k.box.load_e0
theorem Own.store_e0 {W w : World} {h : Pl} {r : Array Value} (k : Own W w h r) (v : Int) : ∃ w', (Instr.storeAt 29 (.pointer (some ⟨W.heap.size, 4, none⟩)) (.int .u32 v)).run Try.prog w = .ok () w' ∧ Own W w' { h with e0 := v } r := k.store_at _ 4 (by omega) rfl rfl rfl
theorem Own.load_e1 {W w : World} {h : Pl} {r : Array Value} (k : Own W w h r) : (Instr.loadAt 29 (.pointer (some ⟨W.heap.size, 5, none⟩))).run Try.prog w = .ok (.int .u32 h.e1) w := k.box.load_e1
theorem Own.store_e1 {W w : World} {h : Pl} {r : Array Value} (k : Own W w h r) (v : Int) : ∃ w', (Instr.storeAt 29 (.pointer (some ⟨W.heap.size, 5, none⟩)) (.int .u32 v)).run Try.prog w = .ok () w' ∧ Own W w' { h with e1 := v } r := k.store_at _ 5 (by omega) rfl rfl rfl
theorem Own.load_l0 {W w : World} {h : Pl} {r : Array Value} (k : Own W w h r) : (Instr.loadAt 29 (.pointer (some ⟨W.heap.size, 6, none⟩))).run Try.prog w = .ok (.int .u32 h.l0) w := k.box.load_l0
theorem Own.store_l0 {W w : World} {h : Pl} {r : Array Value} (k : Own W w h r) (v : Int) : ∃ w', (Instr.storeAt 29 (.pointer (some ⟨W.heap.size, 6, none⟩)) (.int .u32 v)).run Try.prog w = .ok () w' ∧ Own W w' { h with l0 := v } r := k.store_at _ 6 (by omega) rfl rfl rfl
theorem Own.load_l1 {W w : World} {h : Pl} {r : Array Value} (k : Own W w h r) : (Instr.loadAt 29 (.pointer (some ⟨W.heap.size, 7, none⟩))).run Try.prog w = .ok (.int .u32 h.l1) w := k.box.load_l1
theorem Own.store_l1 {W w : World} {h : Pl} {r : Array Value} (k : Own W w h r) (v : Int) : ∃ w', (Instr.storeAt 29 (.pointer (some ⟨W.heap.size, 7, none⟩)) (.int .u32 v)).run Try.prog w = .ok () w' ∧ Own W w' { h with l1 := v } r := k.store_at _ 7 (by omega) rfl rfl rfl
theorem Own.load_c {W w : World} {h : Pl} {r : Array Value} (k : Own W w h r) : (Instr.loadAt 29 (.pointer (some ⟨W.heap.size, 8, none⟩))).run Try.prog w = .ok (.int .u32 h.c) w := k.box.load_c
theorem Own.store_c {W w : World} {h : Pl} {r : Array Value} (k : Own W w h r) (v : Int) : ∃ w', (Instr.storeAt 29 (.pointer (some ⟨W.heap.size, 8, none⟩)) (.int .u32 v)).run Try.prog w = .ok () w' ∧ Own W w' { h with c := v } r := k.store_at _ 8 (by omega) rfl rfl rfl

end Go.Proofs.Ytnedhjaphfjdmaa.Pc
namespace Go
theorem wpList_store_ex {P : Program} {w : World} {ops : Array Oper} {rest : List Oper} {o : Oper} {a : Act} {Q : Exit → Act → World → Prop} {T : World → Prop} (hgd : o.guard = none) {t : TypeId} {p x : Operand} (ho : o.op = .store t p x) {v u : Value}
    (hrun : ∃ w', (Instr.storeAt t v u).run P w = .ok () w' ∧ T w') (hp : a.eval p = v) (hx : a.eval x = u) (h : ∀ w', T w' → wpList P ops Q rest (a.put o.dst undef) w') : wpList P ops Q (o :: rest) a w := by
  obtain ⟨w', hr, ht⟩ := hrun
  exact wpList_store_by hgd ho hr hp hx (h w' ht)

end Go
namespace Go.Proofs.Ytnedhjaphfjdmaa.Pc
open Go.RowKit Go.Deep Go.Joins
theorem still_load {P : Program} {ops : Array Oper} {w : World} {Q : Act → Prop} {rest : List Oper} {o : Oper} {a : Act} (hgd : o.guard = none) {t : TypeId} {p : Operand} (ho : o.op = .load t p) {v r : Value} (hrun : (Instr.loadAt t v).run P w = .ok r w) (hp : a.eval p = v) (h : wpStill P ops w Q rest (a.put o.dst r)) : wpStill P ops w Q (o :: rest) a := by
  refine wpStill_step fun K hK => ?_
  simp only [Region.wanted, hgd, if_true]
  unfold Oper.still
  rw [exec_load ho hrun hp]
  exact ⟨rfl, hK _ h⟩

end Go.Proofs.Ytnedhjaphfjdmaa.Pc
