/- The small functions of the reference. -/
import Derived.Test.YtfkkjgcglmglhaaD
namespace Go.Proofs.Ytfkkjgcglmglhaa
open Go.RowKit Go.Deep Go.Joins

def divV (x y : Int) : Int := if y = 0 then -1 else wrap64 (x.tdiv y)
def remV (x y : Int) : Int := if y = 0 then x else x.tmod y
theorem u64_hi (a b : Int) (ha : U64 a) (hb : U64 b) : U64 (a * b / 18446744073709551616) := by
  obtain ⟨a, rfl⟩ := Int.eq_ofNat_of_zero_le ha.1
  obtain ⟨b, rfl⟩ := Int.eq_ofNat_of_zero_le hb.1
  have h1 : a < 18446744073709551616 := by have := ha.2; omega
  have h2 : b < 18446744073709551616 := by have := hb.2; omega
  have h3 : a * b < 18446744073709551616 * 18446744073709551616 := Nat.mul_lt_mul'' h1 h2
  have h4 := Nat.div_lt_of_lt_mul h3
  rw [← Int.natCast_mul]
  generalize a * b = q at *
  exact ⟨by omega, by omega⟩
set_option maxHeartbeats 1000000 in
theorem rword_any (n : Int) (W : World) : Calls Try.prog 21 #[(.int .u64 n)] W fun e W' => e = .returned (.int .u64 (wordV n)) ∧ W = W' := by
  go_enter Try.func21, Try.ntmps21
  go_wp2
  go_ret
  refine ⟨ret_int ?_, rfl⟩
  simp only [wordV_eq, IntKind.wrap_u64, T_eq, S_eq]
  omega
set_option maxHeartbeats 1000000 in
theorem rWord_any (n : Int) (W : World) : Calls Try.prog 12 #[(.int .u64 n)] W fun e W' => e = .returned (.int .u64 (wordV n)) ∧ W = W' := by
  go_enter Try.func12, Try.ntmps12
  go_wp2_with (first | (go_at_call 21; (with_reducible refine (rword_any _ _).mono ?_); rintro e w' ⟨rfl, rfl⟩) | fail)
  go_ret
  exact ⟨rfl, rfl⟩
set_option maxHeartbeats 1000000 in
theorem rlow_any (n : Int) (W : World) : Calls Try.prog 35 #[(.int .u64 n)] W fun e W' => e = .returned (.int .u64 (lowV n)) ∧ W = W' := by
  go_enter Try.func35, Try.ntmps35
  go_wp2
  go_ret
  refine ⟨ret_int ?_, rfl⟩
  rw [lowV_eq]
set_option maxHeartbeats 1000000 in
theorem high_tt_yy (a b : Int) (ha : U64 a) (hb : U64 b) (h1 : decide (wrap64 a < 0) = true) (h2 : decide (wrap64 b < 0) = true) (W : World) : Calls Try.prog 25 #[(.int .u64 a), (.int .u64 b), .bool true, .bool true] W fun e W' => e = .returned (.int .u64 (uV (a * b / 18446744073709551616 - lessV a b - lessV b a))) ∧ W = W' := by
  have l1 : lessV a b = b := by unfold lessV; rw [h1]; rfl
  have p1 : (wrap64 a < 0) = True := by have := h1; simpa using this
  have l2 : lessV b a = a := by unfold lessV; rw [h2]; rfl
  have p2 : (wrap64 b < 0) = True := by have := h2; simpa using this
  have L1 := Lib.hid l1
  clear l1
  have L2 := Lib.hid l2
  clear l2
  have P1 : decide (wrap64 a < 0) = true := h1
  clear p1
  have P2 : decide (wrap64 b < 0) = true := h2
  clear p2
  go_enter Try.func25, Try.ntmps25
  go_wp2_with (first | (go_at_call 19; (with_reducible refine (mul64_any a b ha hb _).mono ?_); rintro e w' ⟨rfl, rfl⟩) | fail)
  go_ret
  refine ⟨ret_int ?_, rfl⟩
  have B := u64_hi a b ha hb
  have B1 := B.1
  have B2 := B.2
  simp only [IntKind.wrap_u64, uV_eq, L1.out, L2.out]
  omega
set_option maxHeartbeats 1000000 in
theorem high_tt_yn (a b : Int) (ha : U64 a) (hb : U64 b) (h1 : decide (wrap64 a < 0) = true) (h2 : decide (wrap64 b < 0) = false) (W : World) : Calls Try.prog 25 #[(.int .u64 a), (.int .u64 b), .bool true, .bool true] W fun e W' => e = .returned (.int .u64 (uV (a * b / 18446744073709551616 - lessV a b - lessV b a))) ∧ W = W' := by
  have l1 : lessV a b = b := by unfold lessV; rw [h1]; rfl
  have p1 : (wrap64 a < 0) = True := by have := h1; simpa using this
  have l2 : lessV b a = 0 := by unfold lessV; rw [h2]; rfl
  have p2 : (wrap64 b < 0) = False := by have := h2; simpa using this
  have L1 := Lib.hid l1
  clear l1
  have L2 := Lib.hid l2
  clear l2
  have P1 : decide (wrap64 a < 0) = true := h1
  clear p1
  have P2 : decide (wrap64 b < 0) = false := h2
  clear p2
  go_enter Try.func25, Try.ntmps25
  go_wp2_with (first | (go_at_call 19; (with_reducible refine (mul64_any a b ha hb _).mono ?_); rintro e w' ⟨rfl, rfl⟩) | fail)
  go_ret
  refine ⟨ret_int ?_, rfl⟩
  have B := u64_hi a b ha hb
  have B1 := B.1
  have B2 := B.2
  simp only [IntKind.wrap_u64, uV_eq, L1.out, L2.out]
  omega
set_option maxHeartbeats 1000000 in
theorem high_tt_ny (a b : Int) (ha : U64 a) (hb : U64 b) (h1 : decide (wrap64 a < 0) = false) (h2 : decide (wrap64 b < 0) = true) (W : World) : Calls Try.prog 25 #[(.int .u64 a), (.int .u64 b), .bool true, .bool true] W fun e W' => e = .returned (.int .u64 (uV (a * b / 18446744073709551616 - lessV a b - lessV b a))) ∧ W = W' := by
  have l1 : lessV a b = 0 := by unfold lessV; rw [h1]; rfl
  have p1 : (wrap64 a < 0) = False := by have := h1; simpa using this
  have l2 : lessV b a = a := by unfold lessV; rw [h2]; rfl
  have p2 : (wrap64 b < 0) = True := by have := h2; simpa using this
  have L1 := Lib.hid l1
  clear l1
  have L2 := Lib.hid l2
  clear l2
  have P1 : decide (wrap64 a < 0) = false := h1
  clear p1
  have P2 : decide (wrap64 b < 0) = true := h2
  clear p2
  go_enter Try.func25, Try.ntmps25
  go_wp2_with (first | (go_at_call 19; (with_reducible refine (mul64_any a b ha hb _).mono ?_); rintro e w' ⟨rfl, rfl⟩) | fail)
  go_ret
  refine ⟨ret_int ?_, rfl⟩
  have B := u64_hi a b ha hb
  have B1 := B.1
  have B2 := B.2
  simp only [IntKind.wrap_u64, uV_eq, L1.out, L2.out]
  omega
set_option maxHeartbeats 1000000 in
theorem high_tt_nn (a b : Int) (ha : U64 a) (hb : U64 b) (h1 : decide (wrap64 a < 0) = false) (h2 : decide (wrap64 b < 0) = false) (W : World) : Calls Try.prog 25 #[(.int .u64 a), (.int .u64 b), .bool true, .bool true] W fun e W' => e = .returned (.int .u64 (uV (a * b / 18446744073709551616 - lessV a b - lessV b a))) ∧ W = W' := by
  have l1 : lessV a b = 0 := by unfold lessV; rw [h1]; rfl
  have p1 : (wrap64 a < 0) = False := by have := h1; simpa using this
  have l2 : lessV b a = 0 := by unfold lessV; rw [h2]; rfl
  have p2 : (wrap64 b < 0) = False := by have := h2; simpa using this
  have L1 := Lib.hid l1
  clear l1
  have L2 := Lib.hid l2
  clear l2
  have P1 : decide (wrap64 a < 0) = false := h1
  clear p1
  have P2 : decide (wrap64 b < 0) = false := h2
  clear p2
  go_enter Try.func25, Try.ntmps25
  go_wp2_with (first | (go_at_call 19; (with_reducible refine (mul64_any a b ha hb _).mono ?_); rintro e w' ⟨rfl, rfl⟩) | fail)
  go_ret
  refine ⟨ret_int ?_, rfl⟩
  have B := u64_hi a b ha hb
  have B1 := B.1
  have B2 := B.2
  simp only [uV_eq, L1.out, L2.out]
  omega
theorem high_tt_any (a b : Int) (ha : U64 a) (hb : U64 b) (W : World) : Calls Try.prog 25 #[(.int .u64 a), (.int .u64 b), .bool true, .bool true] W fun e W' => e = .returned (.int .u64 (uV (a * b / 18446744073709551616 - lessV a b - lessV b a))) ∧ W = W' := by
  cases h1 : decide (wrap64 a < 0) <;> cases h2 : decide (wrap64 b < 0)
  · exact high_tt_nn a b ha hb h1 h2 W
  · exact high_tt_ny a b ha hb h1 h2 W
  · exact high_tt_yn a b ha hb h1 h2 W
  · exact high_tt_yy a b ha hb h1 h2 W
set_option maxHeartbeats 1000000 in
theorem high_tf_yo (a b : Int) (ha : U64 a) (hb : U64 b) (h1 : decide (wrap64 a < 0) = true) (W : World) : Calls Try.prog 25 #[(.int .u64 a), (.int .u64 b), .bool true, .bool false] W fun e W' => e = .returned (.int .u64 (uV (a * b / 18446744073709551616 - lessV a b))) ∧ W = W' := by
  have l1 : lessV a b = b := by unfold lessV; rw [h1]; rfl
  have p1 : (wrap64 a < 0) = True := by have := h1; simpa using this
  have L1 := Lib.hid l1
  clear l1
  have P1 : decide (wrap64 a < 0) = true := h1
  clear p1
  go_enter Try.func25, Try.ntmps25
  go_wp2_with (first | (go_at_call 19; (with_reducible refine (mul64_any a b ha hb _).mono ?_); rintro e w' ⟨rfl, rfl⟩) | fail)
  go_ret
  refine ⟨ret_int ?_, rfl⟩
  have B := u64_hi a b ha hb
  have B1 := B.1
  have B2 := B.2
  simp only [IntKind.wrap_u64, uV_eq, L1.out]
set_option maxHeartbeats 1000000 in
theorem high_tf_no (a b : Int) (ha : U64 a) (hb : U64 b) (h1 : decide (wrap64 a < 0) = false) (W : World) : Calls Try.prog 25 #[(.int .u64 a), (.int .u64 b), .bool true, .bool false] W fun e W' => e = .returned (.int .u64 (uV (a * b / 18446744073709551616 - lessV a b))) ∧ W = W' := by
  have l1 : lessV a b = 0 := by unfold lessV; rw [h1]; rfl
  have p1 : (wrap64 a < 0) = False := by have := h1; simpa using this
  have L1 := Lib.hid l1
  clear l1
  have P1 : decide (wrap64 a < 0) = false := h1
  clear p1
  go_enter Try.func25, Try.ntmps25
  go_wp2_with (first | (go_at_call 19; (with_reducible refine (mul64_any a b ha hb _).mono ?_); rintro e w' ⟨rfl, rfl⟩) | fail)
  go_ret
  refine ⟨ret_int ?_, rfl⟩
  have B := u64_hi a b ha hb
  have B1 := B.1
  have B2 := B.2
  simp only [uV_eq, L1.out]
  omega
theorem high_tf_any (a b : Int) (ha : U64 a) (hb : U64 b) (W : World) : Calls Try.prog 25 #[(.int .u64 a), (.int .u64 b), .bool true, .bool false] W fun e W' => e = .returned (.int .u64 (uV (a * b / 18446744073709551616 - lessV a b))) ∧ W = W' := by
  cases h1 : decide (wrap64 a < 0)
  · exact high_tf_no a b ha hb h1 W
  · exact high_tf_yo a b ha hb h1 W
set_option maxHeartbeats 1000000 in
theorem high_ff_oo (a b : Int) (ha : U64 a) (hb : U64 b) (W : World) : Calls Try.prog 25 #[(.int .u64 a), (.int .u64 b), .bool false, .bool false] W fun e W' => e = .returned (.int .u64 (a * b / 18446744073709551616)) ∧ W = W' := by
  go_enter Try.func25, Try.ntmps25
  go_wp2_with (first | (go_at_call 19; (with_reducible refine (mul64_any a b ha hb _).mono ?_); rintro e w' ⟨rfl, rfl⟩) | fail)
  go_ret
  exact ⟨rfl, rfl⟩
set_option maxHeartbeats 1000000 in
theorem rdiv_z (x : Int) (W : World) : Calls Try.prog 26 #[.int .i64 x, .int .i64 0] W fun e W' => e = .returned (.int .i64 (-1)) ∧ W = W' := by
  go_enter Try.func26, Try.ntmps26
  go_wp2
  go_ret
  exact ⟨rfl, rfl⟩
set_option maxHeartbeats 1000000 in
theorem rdiv_m (x : Int) (W : World) : Calls Try.prog 26 #[.int .i64 x, .int .i64 (-1)] W fun e W' => e = .returned (.int .i64 (wrap64 (x.tdiv (-1)))) ∧ W = W' := by
  go_enter Try.func26, Try.ntmps26
  go_wp2
  go_ret
  refine ⟨ret_int ?_, rfl⟩
  rw [Int.tdiv_neg, Int.tdiv_one]
set_option maxHeartbeats 1000000 in
theorem rdiv_n (x y : Int) (h : y ≠ 0) (h1 : y ≠ -1) (W : World) : Calls Try.prog 26 #[.int .i64 x, .int .i64 y] W fun e W' => e = .returned (.int .i64 (wrap64 (x.tdiv y))) ∧ W = W' := by
  have p : (y == 0) = false := by rw [beq_eq_false_iff_ne]; exact h
  have p1 : (y == -1) = false := by rw [beq_eq_false_iff_ne]; exact h1
  go_enter Try.func26, Try.ntmps26
  go_wp2
  go_ret
  exact ⟨rfl, rfl⟩
theorem rdiv_any (x y : Int) (W : World) : Calls Try.prog 26 #[.int .i64 x, .int .i64 y] W fun e W' => e = .returned (.int .i64 (divV x y)) ∧ W = W' := by
  unfold divV
  by_cases h : y = 0
  · rw [if_pos h]; subst h; exact rdiv_z x W
  · rw [if_neg h]
    by_cases h1 : y = -1
    · subst h1; exact rdiv_m x W
    · exact rdiv_n x y h h1 W
set_option maxHeartbeats 1000000 in
theorem rrem_z (x : Int) (W : World) : Calls Try.prog 28 #[.int .i64 x, .int .i64 0] W fun e W' => e = .returned (.int .i64 x) ∧ W = W' := by
  go_enter Try.func28, Try.ntmps28
  go_wp2
  go_ret
  exact ⟨rfl, rfl⟩
set_option maxHeartbeats 1000000 in
theorem rrem_m (x : Int) (W : World) : Calls Try.prog 28 #[.int .i64 x, .int .i64 (-1)] W fun e W' => e = .returned (.int .i64 (x.tmod (-1))) ∧ W = W' := by
  go_enter Try.func28, Try.ntmps28
  go_wp2
  go_ret
  refine ⟨ret_int ?_, rfl⟩
  rw [Int.tmod_neg, Int.tmod_one]
set_option maxHeartbeats 1000000 in
theorem rrem_n (x y : Int) (h : y ≠ 0) (h1 : y ≠ -1) (W : World) : Calls Try.prog 28 #[.int .i64 x, .int .i64 y] W fun e W' => e = .returned (.int .i64 (x.tmod y)) ∧ W = W' := by
  have p : (y == 0) = false := by rw [beq_eq_false_iff_ne]; exact h
  have p1 : (y == -1) = false := by rw [beq_eq_false_iff_ne]; exact h1
  go_enter Try.func28, Try.ntmps28
  go_wp2
  go_ret
  exact ⟨rfl, rfl⟩
theorem rrem_any (x y : Int) (W : World) : Calls Try.prog 28 #[.int .i64 x, .int .i64 y] W fun e W' => e = .returned (.int .i64 (remV x y)) ∧ W = W' := by
  unfold remV
  by_cases h : y = 0
  · rw [if_pos h]; subst h; exact rrem_z x W
  · rw [if_neg h]
    by_cases h1 : y = -1
    · subst h1; exact rrem_m x W
    · exact rrem_n x y h h1 W
set_option maxHeartbeats 1000000 in
theorem rdivu_z (a b : Int) (h : b = 0) (W : World) : Calls Try.prog 27 #[(.int .u64 a), (.int .u64 b)] W fun e W' => e = .returned (.int .u64 18446744073709551615) ∧ W = W' := by
  subst h
  go_enter Try.func27, Try.ntmps27
  go_wp2
  go_ret
  exact ⟨rfl, rfl⟩
set_option maxHeartbeats 1000000 in
theorem rdivu_n (a b : Int) (ha : U64 a) (hb : U64 b) (h : b ≠ 0) (W : World) : Calls Try.prog 27 #[(.int .u64 a), (.int .u64 b)] W fun e W' => e = .returned (.int .u64 (a / b)) ∧ W = W' := by
  have p : (b == 0) = false := by rw [beq_eq_false_iff_ne]; exact h
  go_enter Try.func27, Try.ntmps27
  go_wp2
  go_ret
  refine ⟨ret_int ?_, rfl⟩
  have E := tdiv_u64 a b ha hb h
  rw [← E.2, E.1]
  rfl
theorem rdivu_any (a b : Int) (ha : U64 a) (hb : U64 b) (W : World) : Calls Try.prog 27 #[(.int .u64 a), (.int .u64 b)] W fun e W' => e = .returned (.int .u64 (quV a b)) ∧ W = W' := by
  unfold quV
  by_cases h : b = 0
  · rw [if_pos h]; exact rdivu_z a b h W
  · rw [if_neg h]; exact rdivu_n a b ha hb h W
set_option maxHeartbeats 1000000 in
theorem rremu_z (a b : Int) (h : b = 0) (W : World) : Calls Try.prog 29 #[(.int .u64 a), (.int .u64 b)] W fun e W' => e = .returned (.int .u64 a) ∧ W = W' := by
  subst h
  go_enter Try.func29, Try.ntmps29
  go_wp2
  go_ret
  exact ⟨rfl, rfl⟩
set_option maxHeartbeats 1000000 in
theorem rremu_n (a b : Int) (ha : U64 a) (hb : U64 b) (h : b ≠ 0) (W : World) : Calls Try.prog 29 #[(.int .u64 a), (.int .u64 b)] W fun e W' => e = .returned (.int .u64 (a % b)) ∧ W = W' := by
  have p : (b == 0) = false := by rw [beq_eq_false_iff_ne]; exact h
  go_enter Try.func29, Try.ntmps29
  go_wp2
  go_ret
  refine ⟨ret_int ?_, rfl⟩
  have E := tmod_u64 a b ha hb h
  rw [← E.2, E.1]
  exact E.2.symm
theorem rremu_any (a b : Int) (ha : U64 a) (hb : U64 b) (W : World) : Calls Try.prog 29 #[(.int .u64 a), (.int .u64 b)] W fun e W' => e = .returned (.int .u64 (reV a b)) ∧ W = W' := by
  unfold reV
  by_cases h : b = 0
  · rw [if_pos h]; exact rremu_z a b h W
  · rw [if_neg h]; exact rremu_n a b ha hb h W

end Go.Proofs.Ytfkkjgcglmglhaa
