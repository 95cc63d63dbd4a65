/- DecodeBranches, walked. -/
import Derived.Test.YtnbpadnbmbdfeaaDoorT
import Derived.Test.YtnbpadnbmbdfeaaDoorBA
namespace Go.Proofs.YtnbpadnbmbdfeaaDoor
open Go.RowKit Go.Deep Go.Joins

theorem and_even (n : Nat) (h : n < 4294967296) : n &&& 4294967294 = n / 2 * 2 := by
  rw [show n / 2 * 2 = n / 2 ^ 1 * 2 ^ 1 by rfl, show (4294967294 : Nat) = (2 ^ 31 - 1) * 2 ^ 1 by decide]
  apply Nat.eq_of_testBit_eq
  intro i
  rw [Nat.testBit_and, Nat.testBit_mul_two_pow, Nat.testBit_mul_two_pow, Nat.testBit_two_pow_sub_one, Nat.testBit_div_two_pow]
  by_cases h1 : 1 ≤ i
  · rw [show i - 1 + 1 = i by omega]
    by_cases h2 : i - 1 < 31
    · simp [h1, h2]
    · have : n.testBit i = false := Nat.testBit_lt_two_pow (Nat.lt_of_lt_of_le h (by
        have : (2 : Nat) ^ 32 ≤ 2 ^ i := Nat.pow_le_pow_right (by omega) (by omega)
        omega))
      simp [this]
  · simp [h1]
theorem even_u (z : Int) (n0 : Nat) (h : z % 4294967296 = (n0 : Int)) (hn : n0 < 4294967296) : bits .andNot .u32 (z % 4294967296) 1 = ((n0 / 2 * 2 : Nat) : Int) := by
  rw [h, ← and_even n0 hn]
  exact u32_andNot_nat n0 1 hn (by omega)
theorem msk (n q k : Nat) (hn : n < 4294967296) (hk : k ≤ 31) : bits .and .u32 ((n / q : Nat) : Int) ((2 ^ k - 1 : Nat) : Int) = ((n / q % 2 ^ k : Nat) : Int) := by
  have h2 : 2 ^ k ≤ 2 ^ 31 := Nat.pow_le_pow_right (by omega) hk
  have h1 : n / q ≤ n := Nat.div_le_self _ _
  rw [u32_and_nat _ _ (by omega) (by omega), Nat.and_two_pow_sub_one_eq_mod]
set_option maxHeartbeats 4000000 in
theorem br_yes (t u p o q r I J : Int) (f3 n a b c e f x1 x2 x3 x4 x5 m a' b' c' e' y1 y2 y3 y4 : Nat) (W : World) (hL : Laid W) (t0 : -32768 ≤ t) (t1 : t ≤ 32767) (u0 : -2147483648 ≤ u) (u1 : u ≤ 2147483647) (hf3 : f3 < 4294967296)
    (hn : n < 4294967296) (hm : m < 4294967296) (ha : a < 2) (hb : b < 64) (hc : c < 16) (he : e < 2) (hf : f < 8) (ha' : a' < 2) (hb' : b' < 1024) (hc' : c' < 2) (he' : e' < 256)
    (E0 : bits .andNot .u32 (t / 8 % 4294967296) 1 = (n : Int)) (Ea : bits .and .u32 ((n : Int) / 4096) 1 = (a : Int)) (Eb : bits .and .u32 ((n : Int) / 32) 63 = (b : Int)) (E1 : bits .or .u32 ((a : Int) * 2147483648) ((b : Int) * 33554432) = (x1 : Int)) (Ef : bits .and .u32 (f3 : Int) 7 = (f : Int)) (E2 : bits .or .u32 (x1 : Int) ((f : Int) * 4096) = (x2 : Int)) (Ec : bits .and .u32 ((n : Int) / 2) 15 = (c : Int)) (E3 : bits .or .u32 (x2 : Int) ((c : Int) * 256) = (x3 : Int)) (Ee : bits .and .u32 ((n : Int) / 2048) 1 = (e : Int)) (E4 : bits .or .u32 (x3 : Int) ((e : Int) * 128) = (x4 : Int)) (E5 : bits .or .u32 (x4 : Int) 99 = (x5 : Int))
    (F0 : bits .andNot .u32 (u / 2048 % 4294967296) 1 = (m : Int)) (Fa : bits .and .u32 ((m : Int) / 1048576) 1 = (a' : Int)) (Fb : bits .and .u32 ((m : Int) / 2) 1023 = (b' : Int)) (F1 : bits .or .u32 ((a' : Int) * 2147483648) ((b' : Int) * 2097152) = (y1 : Int)) (Fc : bits .and .u32 ((m : Int) / 2048) 1 = (c' : Int)) (F2 : bits .or .u32 (y1 : Int) ((c' : Int) * 1048576) = (y2 : Int)) (Fe : bits .and .u32 ((m : Int) / 4096) 255 = (e' : Int)) (F3 : bits .or .u32 (y2 : Int) ((e' : Int) * 4096) = (y3 : Int)) (F4 : bits .or .u32 (y3 : Int) 111 = (y4 : Int))
    (WI : wrap32 (n : Int) = I) (WJ : wrap32 (m : Int) = J) (iI : -9223372036854775808 ≤ I ∧ I ≤ 9223372036854775807) (iJ : -9223372036854775808 ≤ J ∧ J ≤ 9223372036854775807)
    (g2 : ((f : Int) != 2) = true) (g3 : ((f : Int) != 3) = true) (HI : Hid (∀ W, Laid W → Calls Tryd.prog 9 #[.int .u32 (x5 : Nat)] W fun e W' => e = .returned (.tuple #[.agg #[.int .i64 o, .int .i64 0, .int .i64 q, .int .i64 r, .int .i64 I], .int .i64 0]) ∧ Below W.heap.size W W')) (HJ : Hid (∀ W, Laid W → Calls Tryd.prog 9 #[.int .u32 (y4 : Nat)] W fun e W' => e = .returned (.tuple #[.agg #[.int .i64 3, .int .i64 p, .int .i64 0, .int .i64 0, .int .i64 J], .int .i64 0]) ∧ Below W.heap.size W W')) :
    Calls Tryd.prog 7 #[.int .i16 t, .int .i32 u, .int .u32 f3] W fun e W' => e = .returned (.bool true) ∧ Below W.heap.size W W' := by
  have HL := Lib.hid hL
  have hU := And.intro u0 (And.intro u1 (And.intro hf3 (And.intro hn (And.intro hm (And.intro WI iI)))))
  clear hL hU
  go_enter Tryd.func7, Tryd.ntmps7
  go_wp2_with (first | (go_at_call 8; (with_reducible refine (awake_any _ HL.out).mono ?_); rintro e w1 ⟨rfl, hb1⟩; have H1 := Lib.hid hb1; clear hb1) | (go_at_call 9; (with_reducible refine (HJ.out _ ((HL.out.below H1.out).below (below_then H2.out (below1 _ _)))).mono ?_); rintro e w3 ⟨rfl, hb3⟩; have H3 := Lib.hid hb3; clear hb3) | (go_at_call 9; (with_reducible refine (HI.out _ (HL.out.below H1.out)).mono ?_); rintro e w2 ⟨rfl, hb2⟩; have H2 := Lib.hid hb2; clear hb2) | fail)
  go_ret
  have h12 := H1.out.trans (H2.out.mono H1.out.size)
  have hq := h12.alloc h12.size (.cells #[.int .i64 o, .int .i64 0, .int .i64 q, .int .i64 r, .int .i64 I] 25)
  have hr := hq.trans (H3.out.mono hq.size)
  exact ⟨rfl, hr.alloc hr.size _⟩
set_option maxHeartbeats 4000000 in
theorem br_2 (t u p  I J : Int) (f3 n a b c e f x1 x2 x3 x4 x5 m a' b' c' e' y1 y2 y3 y4 : Nat) (W : World) (hL : Laid W) (t0 : -32768 ≤ t) (t1 : t ≤ 32767) (u0 : -2147483648 ≤ u) (u1 : u ≤ 2147483647) (hf3 : f3 < 4294967296)
    (hn : n < 4294967296) (hm : m < 4294967296) (ha : a < 2) (hb : b < 64) (hc : c < 16) (he : e < 2) (hf : f < 8) (ha' : a' < 2) (hb' : b' < 1024) (hc' : c' < 2) (he' : e' < 256)
    (E0 : bits .andNot .u32 (t / 8 % 4294967296) 1 = (n : Int)) (Ea : bits .and .u32 ((n : Int) / 4096) 1 = (a : Int)) (Eb : bits .and .u32 ((n : Int) / 32) 63 = (b : Int)) (E1 : bits .or .u32 ((a : Int) * 2147483648) ((b : Int) * 33554432) = (x1 : Int)) (Ef : bits .and .u32 (f3 : Int) 7 = (f : Int)) (E2 : bits .or .u32 (x1 : Int) ((f : Int) * 4096) = (x2 : Int)) (Ec : bits .and .u32 ((n : Int) / 2) 15 = (c : Int)) (E3 : bits .or .u32 (x2 : Int) ((c : Int) * 256) = (x3 : Int)) (Ee : bits .and .u32 ((n : Int) / 2048) 1 = (e : Int)) (E4 : bits .or .u32 (x3 : Int) ((e : Int) * 128) = (x4 : Int)) (E5 : bits .or .u32 (x4 : Int) 99 = (x5 : Int))
    (F0 : bits .andNot .u32 (u / 2048 % 4294967296) 1 = (m : Int)) (Fa : bits .and .u32 ((m : Int) / 1048576) 1 = (a' : Int)) (Fb : bits .and .u32 ((m : Int) / 2) 1023 = (b' : Int)) (F1 : bits .or .u32 ((a' : Int) * 2147483648) ((b' : Int) * 2097152) = (y1 : Int)) (Fc : bits .and .u32 ((m : Int) / 2048) 1 = (c' : Int)) (F2 : bits .or .u32 (y1 : Int) ((c' : Int) * 1048576) = (y2 : Int)) (Fe : bits .and .u32 ((m : Int) / 4096) 255 = (e' : Int)) (F3 : bits .or .u32 (y2 : Int) ((e' : Int) * 4096) = (y3 : Int)) (F4 : bits .or .u32 (y3 : Int) 111 = (y4 : Int))
    (WI : wrap32 (n : Int) = I) (WJ : wrap32 (m : Int) = J) (iI : -9223372036854775808 ≤ I ∧ I ≤ 9223372036854775807) (iJ : -9223372036854775808 ≤ J ∧ J ≤ 9223372036854775807)
    (g2 : ((f : Int) != 2) = false) (HI : Hid (∀ W, Laid W → Calls Tryd.prog 9 #[.int .u32 (x5 : Nat)] W fun e W' => e = .returned (.tuple #[.agg #[.int .i64 0, .int .i64 0, .int .i64 0, .int .i64 0, .int .i64 0], .int .i64 60]) ∧ Below W.heap.size W W')) (HJ : Hid (∀ W, Laid W → Calls Tryd.prog 9 #[.int .u32 (y4 : Nat)] W fun e W' => e = .returned (.tuple #[.agg #[.int .i64 3, .int .i64 p, .int .i64 0, .int .i64 0, .int .i64 J], .int .i64 0]) ∧ Below W.heap.size W W')) :
    Calls Tryd.prog 7 #[.int .i16 t, .int .i32 u, .int .u32 f3] W fun e W' => e = .returned (.bool true) ∧ Below W.heap.size W W' := by
  have HL := Lib.hid hL
  have hU := And.intro u0 (And.intro u1 (And.intro hf3 (And.intro hn (And.intro hm (And.intro WI iI)))))
  clear hL hU
  go_enter Tryd.func7, Tryd.ntmps7
  go_wp2_with (first | (go_at_call 8; (with_reducible refine (awake_any _ HL.out).mono ?_); rintro e w1 ⟨rfl, hb1⟩; have H1 := Lib.hid hb1; clear hb1) | (go_at_call 9; (with_reducible refine (HJ.out _ ((HL.out.below H1.out).below (below_then H2.out (below1 _ _)))).mono ?_); rintro e w3 ⟨rfl, hb3⟩; have H3 := Lib.hid hb3; clear hb3) | (go_at_call 9; (with_reducible refine (HI.out _ (HL.out.below H1.out)).mono ?_); rintro e w2 ⟨rfl, hb2⟩; have H2 := Lib.hid hb2; clear hb2) | fail)
  go_ret
  have h12 := H1.out.trans (H2.out.mono H1.out.size)
  have hq := h12.alloc h12.size (.cells #[.int .i64 0, .int .i64 0, .int .i64 0, .int .i64 0, .int .i64 0] 25)
  have hr := hq.trans (H3.out.mono hq.size)
  exact ⟨rfl, hr.alloc hr.size _⟩
set_option maxHeartbeats 4000000 in
theorem br_3 (t u p  I J : Int) (f3 n a b c e f x1 x2 x3 x4 x5 m a' b' c' e' y1 y2 y3 y4 : Nat) (W : World) (hL : Laid W) (t0 : -32768 ≤ t) (t1 : t ≤ 32767) (u0 : -2147483648 ≤ u) (u1 : u ≤ 2147483647) (hf3 : f3 < 4294967296)
    (hn : n < 4294967296) (hm : m < 4294967296) (ha : a < 2) (hb : b < 64) (hc : c < 16) (he : e < 2) (hf : f < 8) (ha' : a' < 2) (hb' : b' < 1024) (hc' : c' < 2) (he' : e' < 256)
    (E0 : bits .andNot .u32 (t / 8 % 4294967296) 1 = (n : Int)) (Ea : bits .and .u32 ((n : Int) / 4096) 1 = (a : Int)) (Eb : bits .and .u32 ((n : Int) / 32) 63 = (b : Int)) (E1 : bits .or .u32 ((a : Int) * 2147483648) ((b : Int) * 33554432) = (x1 : Int)) (Ef : bits .and .u32 (f3 : Int) 7 = (f : Int)) (E2 : bits .or .u32 (x1 : Int) ((f : Int) * 4096) = (x2 : Int)) (Ec : bits .and .u32 ((n : Int) / 2) 15 = (c : Int)) (E3 : bits .or .u32 (x2 : Int) ((c : Int) * 256) = (x3 : Int)) (Ee : bits .and .u32 ((n : Int) / 2048) 1 = (e : Int)) (E4 : bits .or .u32 (x3 : Int) ((e : Int) * 128) = (x4 : Int)) (E5 : bits .or .u32 (x4 : Int) 99 = (x5 : Int))
    (F0 : bits .andNot .u32 (u / 2048 % 4294967296) 1 = (m : Int)) (Fa : bits .and .u32 ((m : Int) / 1048576) 1 = (a' : Int)) (Fb : bits .and .u32 ((m : Int) / 2) 1023 = (b' : Int)) (F1 : bits .or .u32 ((a' : Int) * 2147483648) ((b' : Int) * 2097152) = (y1 : Int)) (Fc : bits .and .u32 ((m : Int) / 2048) 1 = (c' : Int)) (F2 : bits .or .u32 (y1 : Int) ((c' : Int) * 1048576) = (y2 : Int)) (Fe : bits .and .u32 ((m : Int) / 4096) 255 = (e' : Int)) (F3 : bits .or .u32 (y2 : Int) ((e' : Int) * 4096) = (y3 : Int)) (F4 : bits .or .u32 (y3 : Int) 111 = (y4 : Int))
    (WI : wrap32 (n : Int) = I) (WJ : wrap32 (m : Int) = J) (iI : -9223372036854775808 ≤ I ∧ I ≤ 9223372036854775807) (iJ : -9223372036854775808 ≤ J ∧ J ≤ 9223372036854775807)
    (g2 : ((f : Int) != 2) = true) (g3 : ((f : Int) != 3) = false) (HI : Hid (∀ W, Laid W → Calls Tryd.prog 9 #[.int .u32 (x5 : Nat)] W fun e W' => e = .returned (.tuple #[.agg #[.int .i64 0, .int .i64 0, .int .i64 0, .int .i64 0, .int .i64 0], .int .i64 60]) ∧ Below W.heap.size W W')) (HJ : Hid (∀ W, Laid W → Calls Tryd.prog 9 #[.int .u32 (y4 : Nat)] W fun e W' => e = .returned (.tuple #[.agg #[.int .i64 3, .int .i64 p, .int .i64 0, .int .i64 0, .int .i64 J], .int .i64 0]) ∧ Below W.heap.size W W')) :
    Calls Tryd.prog 7 #[.int .i16 t, .int .i32 u, .int .u32 f3] W fun e W' => e = .returned (.bool true) ∧ Below W.heap.size W W' := by
  have HL := Lib.hid hL
  have hU := And.intro u0 (And.intro u1 (And.intro hf3 (And.intro hn (And.intro hm (And.intro WI iI)))))
  clear hL hU
  go_enter Tryd.func7, Tryd.ntmps7
  go_wp2_with (first | (go_at_call 8; (with_reducible refine (awake_any _ HL.out).mono ?_); rintro e w1 ⟨rfl, hb1⟩; have H1 := Lib.hid hb1; clear hb1) | (go_at_call 9; (with_reducible refine (HJ.out _ ((HL.out.below H1.out).below (below_then H2.out (below1 _ _)))).mono ?_); rintro e w3 ⟨rfl, hb3⟩; have H3 := Lib.hid hb3; clear hb3) | (go_at_call 9; (with_reducible refine (HI.out _ (HL.out.below H1.out)).mono ?_); rintro e w2 ⟨rfl, hb2⟩; have H2 := Lib.hid hb2; clear hb2) | fail)
  go_ret
  have h12 := H1.out.trans (H2.out.mono H1.out.size)
  have hq := h12.alloc h12.size (.cells #[.int .i64 0, .int .i64 0, .int .i64 0, .int .i64 0, .int .i64 0] 25)
  have hr := hq.trans (H3.out.mono hq.size)
  exact ⟨rfl, hr.alloc hr.size _⟩
theorem branches_any (t u : Int) (f3 : Nat) (W : World) (hL : Laid W) (t0 : -32768 ≤ t) (t1 : t ≤ 32767) (u0 : -2147483648 ≤ u) (u1 : u ≤ 2147483647) (hf3 : f3 < 4294967296) :
    Calls Tryd.prog 7 #[.int .i16 t, .int .i32 u, .int .u32 f3] W fun e W' => e = .returned (.bool true) ∧ Below W.heap.size W W' := by
  obtain ⟨n0, hn0⟩ : ∃ n0 : Nat, t / 8 % 4294967296 = (n0 : Int) := ⟨(t / 8 % 4294967296).toNat, by omega⟩
  obtain ⟨m0, hm0⟩ : ∃ m0 : Nat, u / 2048 % 4294967296 = (m0 : Int) := ⟨(u / 2048 % 4294967296).toNat, by omega⟩
  have E0 := even_u (t / 8) n0 hn0 (by omega)
  have F0 := even_u (u / 2048) m0 hm0 (by omega)
  obtain ⟨n, hn⟩ : ∃ n : Nat, n = n0 / 2 * 2 := ⟨_, rfl⟩
  obtain ⟨m, hm⟩ : ∃ m : Nat, m = m0 / 2 * 2 := ⟨_, rfl⟩
  have hnr : n < 4096 ∨ 4294963200 ≤ n := by omega
  have hmr : m < 1048576 ∨ 4293918720 ≤ m := by omega
  have hn2 : n % 2 = 0 := by omega
  have hm2 : m % 2 = 0 := by omega
  have hnl : n < 4294967296 := by omega
  have hml : m < 4294967296 := by omega
  rw [← hn] at E0
  rw [← hm] at F0
  clear hn0 hm0 hn hm
  obtain ⟨f, hff⟩ : ∃ f : Nat, f = f3 % 8 := ⟨_, rfl⟩
  have hf : f < 8 := by omega
  have Ef : bits .and .u32 (f3 : Int) 7 = (f : Int) := by
    have h := msk f3 1 3 hf3 (by omega)
    rw [Nat.div_one, ← show f = f3 % 2 ^ 3 from hff] at h
    exact h
  clear hff
  have Ea : bits .and .u32 ((n : Int) / 4096) 1 = ((n / 4096 % 2 : Nat) : Int) := msk n 4096 1 hnl (by omega)
  have Eb : bits .and .u32 ((n : Int) / 32) 63 = ((n / 32 % 64 : Nat) : Int) := msk n 32 6 hnl (by omega)
  have Ec : bits .and .u32 ((n : Int) / 2) 15 = ((n / 2 % 16 : Nat) : Int) := msk n 2 4 hnl (by omega)
  have Ee : bits .and .u32 ((n : Int) / 2048) 1 = ((n / 2048 % 2 : Nat) : Int) := msk n 2048 1 hnl (by omega)
  have Fa : bits .and .u32 ((m : Int) / 1048576) 1 = ((m / 1048576 % 2 : Nat) : Int) := msk m 1048576 1 hml (by omega)
  have Fb : bits .and .u32 ((m : Int) / 2) 1023 = ((m / 2 % 1024 : Nat) : Int) := msk m 2 10 hml (by omega)
  have Fc : bits .and .u32 ((m : Int) / 2048) 1 = ((m / 2048 % 2 : Nat) : Int) := msk m 2048 1 hml (by omega)
  have Fe : bits .and .u32 ((m : Int) / 4096) 255 = ((m / 4096 % 256 : Nat) : Int) := msk m 4096 8 hml (by omega)
  obtain ⟨bw0, bw1, bw2⟩ := b_fields n f hf
  obtain ⟨jw0, jw1⟩ := j_fields m
  rw [b_imm n hnl hn2 hnr] at bw2
  rw [j_imm m hml hm2 hmr] at jw1
  have HJ := fun W' h => word_any (jWord m) W' h
  unfold wI wE at HJ
  rw [pIns_111 jw0, jw1] at HJ
  have h30 : ¬ ((3 : Int) = 0) := by decide
  rw [if_neg h30, if_neg h30] at HJ
  have HI := fun W' h => word_any (bWord n f) W' h
  unfold wI wE at HI
  rw [pIns_99 bw0, bw1, bw2] at HI
  dsimp only at HI HJ
  have iI : -9223372036854775808 ≤ wrap32 (n : Int) ∧ wrap32 (n : Int) ≤ 9223372036854775807 := by unfold wrap32; omega
  have iJ : -9223372036854775808 ≤ wrap32 (m : Int) ∧ wrap32 (m : Int) ≤ 9223372036854775807 := by unfold wrap32; omega
  unfold bWord at HI
  unfold jWord at HJ
  generalize hI : wrap32 (n : Int) = I at HI iI
  generalize hJ : wrap32 (m : Int) = J at HJ iJ
  have la : n / 4096 % 2 < 2 := by omega
  have lb : n / 32 % 64 < 64 := by omega
  have lc : n / 2 % 16 < 16 := by omega
  have le : n / 2048 % 2 < 2 := by omega
  have ka : m / 1048576 % 2 < 2 := by omega
  have kb : m / 2 % 1024 < 1024 := by omega
  have kc : m / 2048 % 2 < 2 := by omega
  have ke : m / 4096 % 256 < 256 := by omega
  generalize n / 4096 % 2 = a at Ea HI la
  generalize n / 32 % 64 = b at Eb HI lb
  generalize n / 2 % 16 = c at Ec HI lc
  generalize n / 2048 % 2 = e at Ee HI le
  generalize m / 1048576 % 2 = a' at Fa HJ ka
  generalize m / 2 % 1024 = b' at Fb HJ kb
  generalize m / 2048 % 2 = c' at Fc HJ kc
  generalize m / 4096 % 256 = e' at Fe HJ ke
  have E1 : bits .or .u32 ((a : Int) * 2147483648) ((b : Int) * 33554432) = ((a * 2147483648 + b * 33554432 : Nat) : Int) := or_u32 (a := a) (b := b * 33554432) 31 (by omega) (by omega)
  have E2 : bits .or .u32 ((a * 2147483648 + b * 33554432 : Nat) : Int) ((f : Int) * 4096) = ((a * 2147483648 + b * 33554432 + f * 4096 : Nat) : Int) := by
    have h := or_u32 (a := a * 64 + b) (b := f * 4096) 25 (by omega) (by omega)
    rw [show (a * 64 + b) * 2 ^ 25 = a * 2147483648 + b * 33554432 by omega] at h
    exact h
  have E3 : bits .or .u32 ((a * 2147483648 + b * 33554432 + f * 4096 : Nat) : Int) ((c : Int) * 256) = ((a * 2147483648 + b * 33554432 + f * 4096 + c * 256 : Nat) : Int) := by
    have h := or_u32 (a := a * 524288 + b * 8192 + f) (b := c * 256) 12 (by omega) (by omega)
    rw [show (a * 524288 + b * 8192 + f) * 2 ^ 12 = a * 2147483648 + b * 33554432 + f * 4096 by omega] at h
    exact h
  have E4 : bits .or .u32 ((a * 2147483648 + b * 33554432 + f * 4096 + c * 256 : Nat) : Int) ((e : Int) * 128) = ((a * 2147483648 + b * 33554432 + f * 4096 + c * 256 + e * 128 : Nat) : Int) := by
    have h := or_u32 (a := a * 8388608 + b * 131072 + f * 16 + c) (b := e * 128) 8 (by omega) (by omega)
    rw [show (a * 8388608 + b * 131072 + f * 16 + c) * 2 ^ 8 = a * 2147483648 + b * 33554432 + f * 4096 + c * 256 by omega] at h
    exact h
  have E5 : bits .or .u32 ((a * 2147483648 + b * 33554432 + f * 4096 + c * 256 + e * 128 : Nat) : Int) 99 = ((a * 2147483648 + b * 33554432 + f * 4096 + c * 256 + e * 128 + 99 : Nat) : Int) := by
    have h := or_u32 (a := a * 16777216 + b * 262144 + f * 32 + c * 2 + e) (b := 99) 7 (by omega) (by omega)
    rw [show (a * 16777216 + b * 262144 + f * 32 + c * 2 + e) * 2 ^ 7 = a * 2147483648 + b * 33554432 + f * 4096 + c * 256 + e * 128 by omega] at h
    exact h
  have F1 : bits .or .u32 ((a' : Int) * 2147483648) ((b' : Int) * 2097152) = ((a' * 2147483648 + b' * 2097152 : Nat) : Int) := or_u32 (a := a') (b := b' * 2097152) 31 (by omega) (by omega)
  have F2 : bits .or .u32 ((a' * 2147483648 + b' * 2097152 : Nat) : Int) ((c' : Int) * 1048576) = ((a' * 2147483648 + b' * 2097152 + c' * 1048576 : Nat) : Int) := by
    have h := or_u32 (a := a' * 1024 + b') (b := c' * 1048576) 21 (by omega) (by omega)
    rw [show (a' * 1024 + b') * 2 ^ 21 = a' * 2147483648 + b' * 2097152 by omega] at h
    exact h
  have F3 : bits .or .u32 ((a' * 2147483648 + b' * 2097152 + c' * 1048576 : Nat) : Int) ((e' : Int) * 4096) = ((a' * 2147483648 + b' * 2097152 + c' * 1048576 + e' * 4096 : Nat) : Int) := by
    have h := or_u32 (a := a' * 2048 + b' * 2 + c') (b := e' * 4096) 20 (by omega) (by omega)
    rw [show (a' * 2048 + b' * 2 + c') * 2 ^ 20 = a' * 2147483648 + b' * 2097152 + c' * 1048576 by omega] at h
    exact h
  have F4 : bits .or .u32 ((a' * 2147483648 + b' * 2097152 + c' * 1048576 + e' * 4096 : Nat) : Int) 111 = ((a' * 2147483648 + b' * 2097152 + c' * 1048576 + e' * 4096 + 111 : Nat) : Int) := by
    have h := or_u32 (a := a' * 524288 + b' * 512 + c' * 256 + e') (b := 111) 12 (by omega) (by omega)
    rw [show (a' * 524288 + b' * 512 + c' * 256 + e') * 2 ^ 12 = a' * 2147483648 + b' * 2097152 + c' * 1048576 + e' * 4096 by omega] at h
    exact h
  by_cases h2 : f = 2
  · subst h2
    rw [show row 0 2 = 0 by rfl, if_pos rfl, if_pos rfl] at HI
    exact br_2 t u _ I J f3 n a b c e 2 _ _ _ _ _ m a' b' c' e' _ _ _ _ W hL t0 t1 u0 u1 hf3 hnl hml la lb lc le hf ka kb kc ke E0 Ea Eb E1 Ef E2 Ec E3 Ee E4 E5 F0 Fa Fb F1 Fc F2 Fe F3 F4 hI hJ iI iJ (by decide) (Lib.hid HI) (Lib.hid HJ)
  by_cases h3 : f = 3
  · subst h3
    rw [show row 0 3 = 0 by rfl, if_pos rfl, if_pos rfl] at HI
    exact br_3 t u _ I J f3 n a b c e 3 _ _ _ _ _ m a' b' c' e' _ _ _ _ W hL t0 t1 u0 u1 hf3 hnl hml la lb lc le hf ka kb kc ke E0 Ea Eb E1 Ef E2 Ec E3 Ee E4 E5 F0 Fa Fb F1 Fc F2 Fe F3 F4 hI hJ iI iJ (by decide) (by decide) (Lib.hid HI) (Lib.hid HJ)
  have hne : ¬ row 0 f = 0 := (by decide : ∀ f < 8, ¬ f = 2 → ¬ f = 3 → ¬ row 0 f = 0) f hf h2 h3
  rw [if_neg hne, if_neg hne] at HI
  exact br_yes t u _ _ _ _ I J f3 n a b c e f _ _ _ _ _ m a' b' c' e' _ _ _ _ W hL t0 t1 u0 u1 hf3 hnl hml la lb lc le hf ka kb kc ke E0 Ea Eb E1 Ef E2 Ec E3 Ee E4 E5 F0 Fa Fb F1 Fc F2 Fe F3 F4 hI hJ iI iJ (nt h2) (nt h3) (Lib.hid HI) (Lib.hid HJ)

end Go.Proofs.YtnbpadnbmbdfeaaDoor
