/- DecodeRegisters, walked. -/
import Derived.Test.YtnbpadnbmbdfeaaDoorT
import Derived.Test.YtnbpadnbmbdfeaaDoorY
namespace Go.Proofs.YtnbpadnbmbdfeaaDoor
open Go.RowKit Go.Deep Go.Joins

theorem fiveF {w1 w2 : World} {a b c d e : Value} (hb : Below (w1.alloc (.cells #[a, b, c, d, e] 25)).heap.size (w1.alloc (.cells #[a, b, c, d, e] 25)) w2) : ∀ i, w2.frozen? ⟨w1.heap.size, i, none⟩ = false := by
  have hl : w1.heap.size < (w1.alloc (.cells #[a, b, c, d, e] 25)).heap.size := by simp
  exact fun i => (hb.frozen (p := ⟨w1.heap.size, i, none⟩) hl).trans (by simp)
set_option maxHeartbeats 2000000 in
theorem regs_none (w d0 : Nat)  (W : World) (hL : Laid W)  (H : Hid (∀ W, Laid W → Calls Tryd.prog 9 #[.int .u32 w] W fun e W' => e = .returned (.tuple #[.agg #[.int .i64 0, .int .i64 0, .int .i64 0, .int .i64 0, .int .i64 0], .int .i64 60]) ∧ Below W.heap.size W W')) :
    Calls Tryd.prog 6 #[.int .u32 w, .int .u32 d0] W fun e W' => e = .returned (.bool true) ∧ Below W.heap.size W W' := by
  have HL := Lib.hid hL
  clear hL
  go_enter Tryd.func6, Tryd.ntmps6
  go_wp2_with (first | (go_at_call 8; (with_reducible refine (awake_any _ HL.out).mono ?_); rintro e w1 ⟨rfl, hb1⟩; have H1 := Lib.hid hb1; clear hb1) | (go_at_call 9; (with_reducible refine (H.out _ (HL.out.below H1.out)).mono ?_); rintro e w2 ⟨rfl, hb2⟩; have H2 := Lib.hid hb2; clear hb2) | fail)
  go_ret
  have h12 := H1.out.trans (H2.out.mono H1.out.size)
  exact ⟨rfl, h12.alloc h12.size _⟩
set_option maxHeartbeats 2000000 in
theorem regs_out_5 (w d0 : Nat) (o p q r s : Int) (W : World) (hL : Laid W) (o0 : 5 ≤ o) (o1 : o ≤ 10) (H : Hid (∀ W, Laid W → Calls Tryd.prog 9 #[.int .u32 w] W fun e W' => e = .returned (.tuple #[.agg #[.int .i64 o, .int .i64 p, .int .i64 q, .int .i64 r, .int .i64 s], .int .i64 0]) ∧ Below W.heap.size W W')) :
    Calls Tryd.prog 6 #[.int .u32 w, .int .u32 d0] W fun e W' => e = .returned (.bool true) ∧ Below W.heap.size W W' := by
  have HL := Lib.hid hL
  clear hL
  go_enter Tryd.func6, Tryd.ntmps6
  go_wp2_with (first | (go_at_call 8; (with_reducible refine (awake_any _ HL.out).mono ?_); rintro e w1 ⟨rfl, hb1⟩; have H1 := Lib.hid hb1; clear hb1) | (go_at_call 9; (with_reducible refine (H.out _ (HL.out.below H1.out)).mono ?_); rintro e w2 ⟨rfl, hb2⟩; have H2 := Lib.hid hb2; clear hb2) | fail)
  go_ret
  have h12 := H1.out.trans (H2.out.mono H1.out.size)
  exact ⟨rfl, h12.alloc h12.size _⟩
set_option maxHeartbeats 2000000 in
theorem regs_out_18 (w d0 : Nat) (o p q r s : Int) (W : World) (hL : Laid W) (o0 : 18 ≤ o) (o1 : o ≤ 21) (H : Hid (∀ W, Laid W → Calls Tryd.prog 9 #[.int .u32 w] W fun e W' => e = .returned (.tuple #[.agg #[.int .i64 o, .int .i64 p, .int .i64 q, .int .i64 r, .int .i64 s], .int .i64 0]) ∧ Below W.heap.size W W')) :
    Calls Tryd.prog 6 #[.int .u32 w, .int .u32 d0] W fun e W' => e = .returned (.bool true) ∧ Below W.heap.size W W' := by
  have HL := Lib.hid hL
  clear hL
  go_enter Tryd.func6, Tryd.ntmps6
  go_wp2_with (first | (go_at_call 8; (with_reducible refine (awake_any _ HL.out).mono ?_); rintro e w1 ⟨rfl, hb1⟩; have H1 := Lib.hid hb1; clear hb1) | (go_at_call 9; (with_reducible refine (H.out _ (HL.out.below H1.out)).mono ?_); rintro e w2 ⟨rfl, hb2⟩; have H2 := Lib.hid hb2; clear hb2) | fail)
  go_ret
  have h12 := H1.out.trans (H2.out.mono H1.out.size)
  exact ⟨rfl, h12.alloc h12.size _⟩
set_option maxHeartbeats 2000000 in
theorem regs_out_50 (w d0 : Nat) (o p q r s : Int) (W : World) (hL : Laid W) (o0 : 50 ≤ o) (o1 : o ≤ 53) (H : Hid (∀ W, Laid W → Calls Tryd.prog 9 #[.int .u32 w] W fun e W' => e = .returned (.tuple #[.agg #[.int .i64 o, .int .i64 p, .int .i64 q, .int .i64 r, .int .i64 s], .int .i64 0]) ∧ Below W.heap.size W W')) :
    Calls Tryd.prog 6 #[.int .u32 w, .int .u32 d0] W fun e W' => e = .returned (.bool true) ∧ Below W.heap.size W W' := by
  have HL := Lib.hid hL
  clear hL
  go_enter Tryd.func6, Tryd.ntmps6
  go_wp2_with (first | (go_at_call 8; (with_reducible refine (awake_any _ HL.out).mono ?_); rintro e w1 ⟨rfl, hb1⟩; have H1 := Lib.hid hb1; clear hb1) | (go_at_call 9; (with_reducible refine (H.out _ (HL.out.below H1.out)).mono ?_); rintro e w2 ⟨rfl, hb2⟩; have H2 := Lib.hid hb2; clear hb2) | fail)
  go_ret
  have h12 := H1.out.trans (H2.out.mono H1.out.size)
  exact ⟨rfl, h12.alloc h12.size _⟩
set_option maxHeartbeats 2000000 in
theorem regs_out_95 (w d0 : Nat) (o p q r s : Int) (W : World) (hL : Laid W) (o0 : 95 ≤ o) (o1 : o ≤ 98) (H : Hid (∀ W, Laid W → Calls Tryd.prog 9 #[.int .u32 w] W fun e W' => e = .returned (.tuple #[.agg #[.int .i64 o, .int .i64 p, .int .i64 q, .int .i64 r, .int .i64 s], .int .i64 0]) ∧ Below W.heap.size W W')) :
    Calls Tryd.prog 6 #[.int .u32 w, .int .u32 d0] W fun e W' => e = .returned (.bool true) ∧ Below W.heap.size W W' := by
  have HL := Lib.hid hL
  clear hL
  go_enter Tryd.func6, Tryd.ntmps6
  go_wp2_with (first | (go_at_call 8; (with_reducible refine (awake_any _ HL.out).mono ?_); rintro e w1 ⟨rfl, hb1⟩; have H1 := Lib.hid hb1; clear hb1) | (go_at_call 9; (with_reducible refine (H.out _ (HL.out.below H1.out)).mono ?_); rintro e w2 ⟨rfl, hb2⟩; have H2 := Lib.hid hb2; clear hb2) | fail)
  go_ret
  have h12 := H1.out.trans (H2.out.mono H1.out.size)
  exact ⟨rfl, h12.alloc h12.size _⟩
set_option maxHeartbeats 2000000 in
theorem regs_in_1 (w d0 n d x : Nat) (o p q r s : Int) (W : World) (hL : Laid W) (o0 : 1 ≤ o) (o1 : o ≤ 4) (hd : d < 32) (EA : bits .and .u32 (d0 : Int) 31 = (d : Int)) (EN : bits .andNot .u32 (w : Int) 3968 = (n : Int)) (EO : bits .or .u32 (n : Int) ((d : Int) * 128) = (x : Int)) (H : Hid (∀ W, Laid W → Calls Tryd.prog 9 #[.int .u32 w] W fun e W' => e = .returned (.tuple #[.agg #[.int .i64 o, .int .i64 p, .int .i64 q, .int .i64 r, .int .i64 s], .int .i64 0]) ∧ Below W.heap.size W W')) (HX : Hid (∀ W, Laid W → Calls Tryd.prog 9 #[.int .u32 x] W fun e W' => e = .returned (.tuple #[.agg #[.int .i64 o, .int .i64 (d : Nat), .int .i64 q, .int .i64 r, .int .i64 s], .int .i64 0]) ∧ Below W.heap.size W W')) :
    Calls Tryd.prog 6 #[.int .u32 w, .int .u32 d0] W fun e W' => e = .returned (.bool true) ∧ Below W.heap.size W W' := by
  have HL := Lib.hid hL
  clear hL
  go_enter Tryd.func6, Tryd.ntmps6
  go_wp2_with (first | (go_at_call 8; (with_reducible refine (awake_any _ HL.out).mono ?_); rintro e w1 ⟨rfl, hb1⟩; have H1 := Lib.hid hb1; clear hb1) | (go_at_call 9; (with_reducible refine (HX.out _ ((HL.out.below H1.out).below (below_then H2.out (below1 _ _)))).mono ?_); rintro e w3 ⟨rfl, hb3⟩; obtain ⟨f0, f1, f2, f3, f4, fl⟩ := five hb3; have ff := fiveF hb3; have H3 := Lib.hid hb3; clear hb3) | (go_at_call 9; (with_reducible refine (H.out _ (HL.out.below H1.out)).mono ?_); rintro e w2 ⟨rfl, hb2⟩; have H2 := Lib.hid hb2; clear hb2) | fail)
  all_goals go_ret
  all_goals
    (have h12 := H1.out.trans (H2.out.mono H1.out.size)
     have hq := h12.alloc h12.size (.cells #[.int .i64 o, .int .i64 p, .int .i64 q, .int .i64 r, .int .i64 s] 25)
     have hr := hq.trans (H3.out.mono hq.size)
     have hs := hr.setCell (p := ⟨w2.heap.size, 1, none⟩) h12.size (.int .i64 (d : Int))
     exact ⟨rfl, hs.alloc hs.size _⟩)
set_option maxHeartbeats 2000000 in
theorem regs_in_11 (w d0 n d x : Nat) (o p q r s : Int) (W : World) (hL : Laid W) (o0 : 11 ≤ o) (o1 : o ≤ 17) (hd : d < 32) (EA : bits .and .u32 (d0 : Int) 31 = (d : Int)) (EN : bits .andNot .u32 (w : Int) 3968 = (n : Int)) (EO : bits .or .u32 (n : Int) ((d : Int) * 128) = (x : Int)) (H : Hid (∀ W, Laid W → Calls Tryd.prog 9 #[.int .u32 w] W fun e W' => e = .returned (.tuple #[.agg #[.int .i64 o, .int .i64 p, .int .i64 q, .int .i64 r, .int .i64 s], .int .i64 0]) ∧ Below W.heap.size W W')) (HX : Hid (∀ W, Laid W → Calls Tryd.prog 9 #[.int .u32 x] W fun e W' => e = .returned (.tuple #[.agg #[.int .i64 o, .int .i64 (d : Nat), .int .i64 q, .int .i64 r, .int .i64 s], .int .i64 0]) ∧ Below W.heap.size W W')) :
    Calls Tryd.prog 6 #[.int .u32 w, .int .u32 d0] W fun e W' => e = .returned (.bool true) ∧ Below W.heap.size W W' := by
  have HL := Lib.hid hL
  clear hL
  go_enter Tryd.func6, Tryd.ntmps6
  go_wp2_with (first | (go_at_call 8; (with_reducible refine (awake_any _ HL.out).mono ?_); rintro e w1 ⟨rfl, hb1⟩; have H1 := Lib.hid hb1; clear hb1) | (go_at_call 9; (with_reducible refine (HX.out _ ((HL.out.below H1.out).below (below_then H2.out (below1 _ _)))).mono ?_); rintro e w3 ⟨rfl, hb3⟩; obtain ⟨f0, f1, f2, f3, f4, fl⟩ := five hb3; have ff := fiveF hb3; have H3 := Lib.hid hb3; clear hb3) | (go_at_call 9; (with_reducible refine (H.out _ (HL.out.below H1.out)).mono ?_); rintro e w2 ⟨rfl, hb2⟩; have H2 := Lib.hid hb2; clear hb2) | fail)
  all_goals go_ret
  all_goals
    (have h12 := H1.out.trans (H2.out.mono H1.out.size)
     have hq := h12.alloc h12.size (.cells #[.int .i64 o, .int .i64 p, .int .i64 q, .int .i64 r, .int .i64 s] 25)
     have hr := hq.trans (H3.out.mono hq.size)
     have hs := hr.setCell (p := ⟨w2.heap.size, 1, none⟩) h12.size (.int .i64 (d : Int))
     exact ⟨rfl, hs.alloc hs.size _⟩)
set_option maxHeartbeats 2000000 in
theorem regs_in_22 (w d0 n d x : Nat) (o p q r s : Int) (W : World) (hL : Laid W) (o0 : 22 ≤ o) (o1 : o ≤ 49) (hd : d < 32) (EA : bits .and .u32 (d0 : Int) 31 = (d : Int)) (EN : bits .andNot .u32 (w : Int) 3968 = (n : Int)) (EO : bits .or .u32 (n : Int) ((d : Int) * 128) = (x : Int)) (H : Hid (∀ W, Laid W → Calls Tryd.prog 9 #[.int .u32 w] W fun e W' => e = .returned (.tuple #[.agg #[.int .i64 o, .int .i64 p, .int .i64 q, .int .i64 r, .int .i64 s], .int .i64 0]) ∧ Below W.heap.size W W')) (HX : Hid (∀ W, Laid W → Calls Tryd.prog 9 #[.int .u32 x] W fun e W' => e = .returned (.tuple #[.agg #[.int .i64 o, .int .i64 (d : Nat), .int .i64 q, .int .i64 r, .int .i64 s], .int .i64 0]) ∧ Below W.heap.size W W')) :
    Calls Tryd.prog 6 #[.int .u32 w, .int .u32 d0] W fun e W' => e = .returned (.bool true) ∧ Below W.heap.size W W' := by
  have HL := Lib.hid hL
  clear hL
  go_enter Tryd.func6, Tryd.ntmps6
  go_wp2_with (first | (go_at_call 8; (with_reducible refine (awake_any _ HL.out).mono ?_); rintro e w1 ⟨rfl, hb1⟩; have H1 := Lib.hid hb1; clear hb1) | (go_at_call 9; (with_reducible refine (HX.out _ ((HL.out.below H1.out).below (below_then H2.out (below1 _ _)))).mono ?_); rintro e w3 ⟨rfl, hb3⟩; obtain ⟨f0, f1, f2, f3, f4, fl⟩ := five hb3; have ff := fiveF hb3; have H3 := Lib.hid hb3; clear hb3) | (go_at_call 9; (with_reducible refine (H.out _ (HL.out.below H1.out)).mono ?_); rintro e w2 ⟨rfl, hb2⟩; have H2 := Lib.hid hb2; clear hb2) | fail)
  all_goals go_ret
  all_goals
    (have h12 := H1.out.trans (H2.out.mono H1.out.size)
     have hq := h12.alloc h12.size (.cells #[.int .i64 o, .int .i64 p, .int .i64 q, .int .i64 r, .int .i64 s] 25)
     have hr := hq.trans (H3.out.mono hq.size)
     have hs := hr.setCell (p := ⟨w2.heap.size, 1, none⟩) h12.size (.int .i64 (d : Int))
     exact ⟨rfl, hs.alloc hs.size _⟩)
set_option maxHeartbeats 2000000 in
theorem regs_in_54 (w d0 n d x : Nat) (o p q r s : Int) (W : World) (hL : Laid W) (o0 : 54 ≤ o) (o1 : o ≤ 94) (hd : d < 32) (EA : bits .and .u32 (d0 : Int) 31 = (d : Int)) (EN : bits .andNot .u32 (w : Int) 3968 = (n : Int)) (EO : bits .or .u32 (n : Int) ((d : Int) * 128) = (x : Int)) (H : Hid (∀ W, Laid W → Calls Tryd.prog 9 #[.int .u32 w] W fun e W' => e = .returned (.tuple #[.agg #[.int .i64 o, .int .i64 p, .int .i64 q, .int .i64 r, .int .i64 s], .int .i64 0]) ∧ Below W.heap.size W W')) (HX : Hid (∀ W, Laid W → Calls Tryd.prog 9 #[.int .u32 x] W fun e W' => e = .returned (.tuple #[.agg #[.int .i64 o, .int .i64 (d : Nat), .int .i64 q, .int .i64 r, .int .i64 s], .int .i64 0]) ∧ Below W.heap.size W W')) :
    Calls Tryd.prog 6 #[.int .u32 w, .int .u32 d0] W fun e W' => e = .returned (.bool true) ∧ Below W.heap.size W W' := by
  have HL := Lib.hid hL
  clear hL
  go_enter Tryd.func6, Tryd.ntmps6
  go_wp2_with (first | (go_at_call 8; (with_reducible refine (awake_any _ HL.out).mono ?_); rintro e w1 ⟨rfl, hb1⟩; have H1 := Lib.hid hb1; clear hb1) | (go_at_call 9; (with_reducible refine (HX.out _ ((HL.out.below H1.out).below (below_then H2.out (below1 _ _)))).mono ?_); rintro e w3 ⟨rfl, hb3⟩; obtain ⟨f0, f1, f2, f3, f4, fl⟩ := five hb3; have ff := fiveF hb3; have H3 := Lib.hid hb3; clear hb3) | (go_at_call 9; (with_reducible refine (H.out _ (HL.out.below H1.out)).mono ?_); rintro e w2 ⟨rfl, hb2⟩; have H2 := Lib.hid hb2; clear hb2) | fail)
  all_goals go_ret
  all_goals
    (have h12 := H1.out.trans (H2.out.mono H1.out.size)
     have hq := h12.alloc h12.size (.cells #[.int .i64 o, .int .i64 p, .int .i64 q, .int .i64 r, .int .i64 s] 25)
     have hr := hq.trans (H3.out.mono hq.size)
     have hs := hr.setCell (p := ⟨w2.heap.size, 1, none⟩) h12.size (.int .i64 (d : Int))
     exact ⟨rfl, hs.alloc hs.size _⟩)
theorem regs_any (w d0 : Nat) (W : World) (hw : w < 4294967296) (hd0 : d0 < 4294967296) (hL : Laid W) : Calls Tryd.prog 6 #[.int .u32 w, .int .u32 d0] W fun e W' => e = .returned (.bool true) ∧ Below W.heap.size W W' := by
  have H := fun W' h => word_any w W' h
  unfold wI wE at H
  by_cases h : (pIns w).op = 0
  · rw [if_pos h, if_pos h] at H
    exact regs_none w d0 W hL (Lib.hid H)
  rw [if_neg h, if_neg h] at H
  have hop : 1 ≤ (pIns w).op ∧ (pIns w).op ≤ 98 := by
    obtain ⟨a1, a2⟩ := agree w
    omega
  by_cases e1 : 5 ≤ (pIns w).op ∧ (pIns w).op ≤ 10
  · exact regs_out_5 w d0 _ _ _ _ _ W hL e1.1 e1.2 (Lib.hid H)
  by_cases e2 : 18 ≤ (pIns w).op ∧ (pIns w).op ≤ 21
  · exact regs_out_18 w d0 _ _ _ _ _ W hL e2.1 e2.2 (Lib.hid H)
  by_cases e3 : 50 ≤ (pIns w).op ∧ (pIns w).op ≤ 53
  · exact regs_out_50 w d0 _ _ _ _ _ W hL e3.1 e3.2 (Lib.hid H)
  by_cases e4 : 95 ≤ (pIns w).op
  · exact regs_out_95 w d0 _ _ _ _ _ W hL e4 hop.2 (Lib.hid H)
  obtain ⟨d, hdd⟩ : ∃ d, d = d0 % 32 := ⟨_, rfl⟩
  have hd : d < 32 := by omega
  have hR := regs w d hd h ⟨e1, e2, e3, e4⟩
  obtain ⟨x, hx⟩ : ∃ x, x = w / 4096 * 4096 + d * 128 + w % 128 := ⟨_, rfl⟩
  rw [← hx] at hR
  have HX := fun W' h => word_any x W' h
  unfold wI wE at HX
  have hox : ¬ (pIns x).op = 0 := by rw [hR]; exact h
  rw [if_neg hox, if_neg hox, hR] at HX
  obtain ⟨n, hn⟩ : ∃ n, n = w / 4096 * 4096 + w % 128 := ⟨_, rfl⟩
  have EA : bits .and .u32 (d0 : Int) 31 = (d : Int) := by
    rw [hdd, ← show d0 &&& 31 = d0 % 32 from Nat.and_two_pow_sub_one_eq_mod d0 5]
    exact u32_and_nat d0 31 hd0 (by omega)
  have EN : bits .andNot .u32 (w : Int) 3968 = (n : Int) := by
    rw [hn, ← and_regs w hw]
    exact u32_andNot_nat w 3968 hw (by omega)
  have EO : bits .or .u32 (n : Int) ((d : Int) * 128) = (x : Int) := by
    rw [hx, ← put_rd w d hd, ← hn, show (d : Int) * 128 = ((d * 128 : Nat) : Int) by omega]
    exact u32_or_nat n (d * 128) (by omega) (by omega)
  have hIN : (1 ≤ (pIns w).op ∧ (pIns w).op ≤ 4) ∨ (11 ≤ (pIns w).op ∧ (pIns w).op ≤ 17) ∨ (22 ≤ (pIns w).op ∧ (pIns w).op ≤ 49) ∨ (54 ≤ (pIns w).op ∧ (pIns w).op ≤ 94) := by omega
  clear hdd hR hx hn hop e1 e2 e3 e4
  rcases hIN with k | k | k | k
  · exact regs_in_1 w d0 n d x _ _ _ _ _ W hL k.1 k.2 hd EA EN EO (Lib.hid H) (Lib.hid HX)
  · exact regs_in_11 w d0 n d x _ _ _ _ _ W hL k.1 k.2 hd EA EN EO (Lib.hid H) (Lib.hid HX)
  · exact regs_in_22 w d0 n d x _ _ _ _ _ W hL k.1 k.2 hd EA EN EO (Lib.hid H) (Lib.hid HX)
  · exact regs_in_54 w d0 n d x _ _ _ _ _ W hL k.1 k.2 hd EA EN EO (Lib.hid H) (Lib.hid HX)

end Go.Proofs.YtnbpadnbmbdfeaaDoor
