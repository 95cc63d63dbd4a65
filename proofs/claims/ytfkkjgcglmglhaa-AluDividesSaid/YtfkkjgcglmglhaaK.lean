/- The laws as calls. -/
import Derived.Test.YtfkkjgcglmglhaaI
import Derived.Test.YtfkkjgcglmglhaaJ
namespace Go.Proofs.Ytfkkjgcglmglhaa
open Go.RowKit Go.Deep Go.Joins
set_option maxHeartbeats 1000000 in
theorem do20 (op a b x : Int) (p : Bool) (h : RowKit.Hid (∀ W, Calls Try.prog 13 #[.int .i64 op, (.int .u64 a), (.int .u64 b)] W fun e W' => e = .returned (.tuple #[.int .u64 x, .bool p]) ∧ W = W')) (W : World) : Calls Try.prog 20 #[.int .i64 op, (.int .u64 a), (.int .u64 b)] W fun e W' => e = .returned (.int .u64 x) ∧ W = W' := by
  go_enter Try.func20, Try.ntmps20
  go_wp2_with (first | (go_at_call 13; (with_reducible refine (h.out _).mono ?_); rintro e w' ⟨rfl, rfl⟩) | fail)
  go_ret
  exact ⟨rfl, rfl⟩

theorem hid_do {op a b x y : Int} {p : Bool} (h : ∀ W, Calls Try.prog 13 #[.int .i64 op, (.int .u64 a), (.int .u64 b)] W fun e W' => e = .returned (.tuple #[.int .u64 x, .bool p]) ∧ W = W') (e : x = y) : RowKit.Hid (∀ W, Calls Try.prog 13 #[.int .i64 op, (.int .u64 a), (.int .u64 b)] W fun e W' => e = .returned (.tuple #[.int .u64 y, .bool p]) ∧ W = W') := Lib.hid fun W => by rw [← e]; exact h W
theorem hid_do20 {op a b x y : Int} {p : Bool} (h : ∀ W, Calls Try.prog 13 #[.int .i64 op, (.int .u64 a), (.int .u64 b)] W fun e W' => e = .returned (.tuple #[.int .u64 x, .bool p]) ∧ W = W') (e : x = y) : RowKit.Hid (∀ W, Calls Try.prog 20 #[.int .i64 op, (.int .u64 a), (.int .u64 b)] W fun e W' => e = .returned (.int .u64 y) ∧ W = W') := Lib.hid fun W => by rw [← e]; exact do20 op a b x p (Lib.hid h) W
theorem hid_amo {op a b x y : Int} {p : Bool} (h : ∀ W, Calls Try.prog 17 #[.int .i64 op, (.int .u64 a), (.int .u64 b)] W fun e W' => e = .returned (.tuple #[.int .u64 x, .bool p]) ∧ W = W') (e : x = y) : RowKit.Hid (∀ W, Calls Try.prog 17 #[.int .i64 op, (.int .u64 a), (.int .u64 b)] W fun e W' => e = .returned (.tuple #[.int .u64 y, .bool p]) ∧ W = W') := Lib.hid fun W => by rw [← e]; exact h W
theorem hid_branch {op a b : Int} {p q r : Bool} (h : ∀ W, Calls Try.prog 15 #[.int .i64 op, (.int .u64 a), (.int .u64 b)] W fun e W' => e = .returned (.tuple #[.bool p, .bool r]) ∧ W = W') (e : p = q) : RowKit.Hid (∀ W, Calls Try.prog 15 #[.int .i64 op, (.int .u64 a), (.int .u64 b)] W fun e W' => e = .returned (.tuple #[.bool q, .bool r]) ∧ W = W') := Lib.hid fun W => by rw [← e]; exact h W
theorem sides_any (a b : Int) (ha : U64 a) (hb : U64 b) (W : World) : Calls Try.prog 8 #[(.int .u64 a), (.int .u64 b)] W fun e W' => e = .returned (.bool true) ∧ W = W' := by
  by_cases e : a = b
  · subst e
    have hP : decide (wrap64 a < wrap64 a) = false := decide_eq_false (by omega)
    have hQ : decide (a < a) = false := decide_eq_false (by omega)
    have hQ2 : decide (a ≤ a) = true := decide_eq_true (by omega)
    have h1 : minS a a = a := by unfold minS; split <;> rfl
    have h2 : maxU a a = a := by unfold maxU; split <;> rfl
    exact sides_001 a (hid_branch (branch_7 a a) hP) (hid_branch (branch_8 a a) (by rw [hP]; rfl)) (hid_branch (branch_9 a a) hQ) (hid_branch (branch_10 a a) hQ2) (hid_do (do_34 a a ha ha) (by rw [hP]; rfl)) (hid_do (do_35 a a ha ha) (by rw [hQ]; rfl)) (hid_amo (amo_91 a a ha ha) h1) (hid_amo (amo_94 a a ha ha) h2) W
  · by_cases p : wrap64 a < wrap64 b <;> by_cases q : a < b
    · have hP : decide (wrap64 a < wrap64 b) = true := decide_eq_true p
      have hQ : decide (a < b) = true := decide_eq_true q
      have hQ2 : decide (b ≤ a) = false := decide_eq_false (by omega)
      have h1 : minS a b = a := if_pos p
      have h2 : maxU a b = b := if_neg (by omega)
      exact sides_110 a b (hid_branch (branch_7 a b) hP) (hid_branch (branch_8 a b) (by rw [hP]; rfl)) (hid_branch (branch_9 a b) hQ) (hid_branch (branch_10 a b) hQ2) (hid_do (do_34 a b ha hb) (by rw [hP]; rfl)) (hid_do (do_35 a b ha hb) (by rw [hQ]; rfl)) (hid_amo (amo_91 a b ha hb) h1) (hid_amo (amo_94 a b ha hb) h2) (beq_eq_false_iff_ne.mpr e) (beq_eq_false_iff_ne.mpr (Ne.symm e)) W
    · have hP : decide (wrap64 a < wrap64 b) = true := decide_eq_true p
      have hQ : decide (a < b) = false := decide_eq_false q
      have hQ2 : decide (b ≤ a) = true := decide_eq_true (by omega)
      have h1 : minS a b = a := if_pos p
      have h2 : maxU a b = a := if_pos (by omega)
      exact sides_100 a b (hid_branch (branch_7 a b) hP) (hid_branch (branch_8 a b) (by rw [hP]; rfl)) (hid_branch (branch_9 a b) hQ) (hid_branch (branch_10 a b) hQ2) (hid_do (do_34 a b ha hb) (by rw [hP]; rfl)) (hid_do (do_35 a b ha hb) (by rw [hQ]; rfl)) (hid_amo (amo_91 a b ha hb) h1) (hid_amo (amo_94 a b ha hb) h2) W
    · have hP : decide (wrap64 a < wrap64 b) = false := decide_eq_false p
      have hQ : decide (a < b) = true := decide_eq_true q
      have hQ2 : decide (b ≤ a) = false := decide_eq_false (by omega)
      have h1 : minS a b = b := if_neg p
      have h2 : maxU a b = b := if_neg (by omega)
      exact sides_010 a b (hid_branch (branch_7 a b) hP) (hid_branch (branch_8 a b) (by rw [hP]; rfl)) (hid_branch (branch_9 a b) hQ) (hid_branch (branch_10 a b) hQ2) (hid_do (do_34 a b ha hb) (by rw [hP]; rfl)) (hid_do (do_35 a b ha hb) (by rw [hQ]; rfl)) (hid_amo (amo_91 a b ha hb) h1) (hid_amo (amo_94 a b ha hb) h2) (beq_eq_false_iff_ne.mpr e) (beq_eq_false_iff_ne.mpr (Ne.symm e)) W
    · have hP : decide (wrap64 a < wrap64 b) = false := decide_eq_false p
      have hQ : decide (a < b) = false := decide_eq_false q
      have hQ2 : decide (b ≤ a) = true := decide_eq_true (by omega)
      have h1 : minS a b = b := if_neg p
      have h2 : maxU a b = a := if_pos (by omega)
      exact sides_000 a b (hid_branch (branch_7 a b) hP) (hid_branch (branch_8 a b) (by rw [hP]; rfl)) (hid_branch (branch_9 a b) hQ) (hid_branch (branch_10 a b) hQ2) (hid_do (do_34 a b ha hb) (by rw [hP]; rfl)) (hid_do (do_35 a b ha hb) (by rw [hQ]; rfl)) (hid_amo (amo_91 a b ha hb) h1) (hid_amo (amo_94 a b ha hb) h2) (beq_eq_false_iff_ne.mpr e) (beq_eq_false_iff_ne.mpr (Ne.symm e)) W
theorem upper_law (a b : Int) (ha : U64 a) (hb : U64 b) (W : World) : Calls Try.prog 6 #[(.int .u64 a), (.int .u64 b)] W fun e W' => e = .returned (.bool true) ∧ W = W' := by
  have hB := u64_hi a b ha hb
  have hu : uV (a * b / 18446744073709551616 - 0) = a * b / 18446744073709551616 := by
    rw [uV_eq]; have := hB.1; have := hB.2; omega
  cases pa : decide (wrap64 a < 0)
  · have la : lessV a b = 0 := by unfold lessV; rw [pa]; rfl
    cases pb : decide (wrap64 b < 0)
    · have lb : lessV b a = 0 := by unfold lessV; rw [pb]; rfl
      have hm : uV ((a * b / 18446744073709551616) - lessV a b) = (a * b / 18446744073709551616) := by rw [la]; exact hu
      have hs : uV ((a * b / 18446744073709551616) - lessV a b - lessV b a) = (a * b / 18446744073709551616) := by rw [la, lb]; rw [Int.sub_zero]; exact hu
      exact upper_00 a b (a * b / 18446744073709551616) (uV (a * b)) (Lib.hid (mul64_any a b ha hb)) (hid_do (do_63 a b ha hb) rfl) (hid_do (do_61 a b ha hb) hs) (hid_do (do_62 a b ha hb) hm) (hid_do (do_60 a b ha hb) rfl) (pa) (pb) W
    · have lb : lessV b a = a := by unfold lessV; rw [pb]; rfl
      have hm : uV ((a * b / 18446744073709551616) - lessV a b) = (a * b / 18446744073709551616) := by rw [la]; exact hu
      have hs : uV ((a * b / 18446744073709551616) - lessV a b - lessV b a) = (uV ((a * b / 18446744073709551616) - a)) := by rw [la, lb]; rw [Int.sub_zero]
      exact upper_01 a b (a * b / 18446744073709551616) (uV (a * b)) (uV ((a * b / 18446744073709551616) - a)) (Lib.hid (mul64_any a b ha hb)) (hid_do (do_63 a b ha hb) rfl) (hid_do (do_61 a b ha hb) hs) (hid_do (do_62 a b ha hb) hm) (hid_do (do_60 a b ha hb) rfl) (pa) (pb) (rfl) W
  · have la : lessV a b = b := by unfold lessV; rw [pa]; rfl
    cases pb : decide (wrap64 b < 0)
    · have lb : lessV b a = 0 := by unfold lessV; rw [pb]; rfl
      have hm : uV ((a * b / 18446744073709551616) - lessV a b) = (uV ((a * b / 18446744073709551616) - b)) := by rw [la]
      have hs : uV ((a * b / 18446744073709551616) - lessV a b - lessV b a) = (uV ((a * b / 18446744073709551616) - b)) := by rw [la, lb]; rw [Int.sub_zero]
      exact upper_10 a b (a * b / 18446744073709551616) (uV (a * b)) (uV ((a * b / 18446744073709551616) - b)) (Lib.hid (mul64_any a b ha hb)) (hid_do (do_63 a b ha hb) rfl) (hid_do (do_61 a b ha hb) hs) (hid_do (do_62 a b ha hb) hm) (hid_do (do_60 a b ha hb) rfl) (pa) (pb) (rfl) W
    · have lb : lessV b a = a := by unfold lessV; rw [pb]; rfl
      have hm : uV ((a * b / 18446744073709551616) - lessV a b) = (uV ((a * b / 18446744073709551616) - b)) := by rw [la]
      have hs : uV ((a * b / 18446744073709551616) - lessV a b - lessV b a) = (uV ((uV ((a * b / 18446744073709551616) - b)) - a)) := by rw [la, lb]; simp only [uV_eq]; omega
      exact upper_11 a b (a * b / 18446744073709551616) (uV (a * b)) (uV ((a * b / 18446744073709551616) - b)) (uV ((uV ((a * b / 18446744073709551616) - b)) - a)) (Lib.hid (mul64_any a b ha hb)) (hid_do (do_63 a b ha hb) rfl) (hid_do (do_61 a b ha hb) hs) (hid_do (do_62 a b ha hb) hm) (hid_do (do_60 a b ha hb) rfl) (pa) (pb) (rfl) (rfl) W
theorem divides_any (a b : Int) (ha : U64 a) (hb : U64 b) (W : World) : Calls Try.prog 5 #[(.int .u64 a), (.int .u64 b)] W fun e W' => e = .returned (.bool true) ∧ W = W' := by
  by_cases h : b = 0
  · subst h
    exact divides_z a (hid_do (do_65 a 0 ha hb) (if_pos rfl)) (hid_do (do_66 a 0 ha hb) (if_pos rfl)) W
  · have hl : reV a b < b := by
      unfold reV; rw [if_neg h]
      exact Int.emod_lt_of_pos a (by have := hb.1; omega)
    rcases rest_sign a b h with e | ⟨e, f⟩
    · exact divides_10 a b _ _ _ _ (hid_do (do_64 a b ha hb) rfl) (hid_do (do_66 a b ha hb) rfl) (hid_do (do_65 a b ha hb) rfl) (hid_do (do_67 a b ha hb) rfl) (beq_eq_false_iff_ne.mpr h) (divided a b ha hb h) (divided_u a b ha h) (decide_eq_true hl) (beq_iff_eq.mpr e) W
    · cases g : decide (wrap64 a < 0)
      · exact divides_00 a b _ _ _ _ (hid_do (do_64 a b ha hb) rfl) (hid_do (do_66 a b ha hb) rfl) (hid_do (do_65 a b ha hb) rfl) (hid_do (do_67 a b ha hb) rfl) (beq_eq_false_iff_ne.mpr h) (divided a b ha hb h) (divided_u a b ha h) (decide_eq_true hl) (beq_eq_false_iff_ne.mpr e) (f.trans g) (g) W
      · exact divides_01 a b _ _ _ _ (hid_do (do_64 a b ha hb) rfl) (hid_do (do_66 a b ha hb) rfl) (hid_do (do_65 a b ha hb) rfl) (hid_do (do_67 a b ha hb) rfl) (beq_eq_false_iff_ne.mpr h) (divided a b ha hb h) (divided_u a b ha h) (decide_eq_true hl) (beq_eq_false_iff_ne.mpr e) (f.trans g) (g) W
theorem reckons_any (a b : Int) (ha : U64 a) (hb : U64 b) (W : World) : Calls Try.prog 9 #[(.int .u64 a), (.int .u64 b)] W fun e W' => e = .returned (.bool true) ∧ W = W' := by
  have hk := (and63 b hb).choose_spec
  have hk : bits .and .u64 b 63 = b % 64 := by rw [hk.1, hk.2.2.2]
  have hp : U64 (a / 2 ^ (b % 64).toNat) := by
    obtain ⟨n, rfl⟩ := Int.eq_ofNat_of_zero_le ha.1
    have h1 := Nat.div_le_self n (2 ^ (b % 64).toNat)
    have h2 := ha.2
    rw [show ((n : Int) / 2 ^ (b % 64).toNat) = ((n / 2 ^ (b % 64).toNat : Nat) : Int) by rw [Int.natCast_ediv, Int.natCast_pow]; rfl]
    generalize n / 2 ^ (b % 64).toNat = q at *
    exact ⟨by omega, by omega⟩
  exact reckons a b (uV (a + b)) (bits .and .u64 a b) (bits .or .u64 a b) (bits .xor .u64 a b) (uV (a * 2 ^ (b % 64).toNat)) (uV (a * 2 ^ (b % 64).toNat) / 2 ^ (b % 64).toNat) (a / 2 ^ (b % 64).toNat) (uV (a / 2 ^ (b % 64).toNat * 2 ^ (b % 64).toNat)) (uV (a * b)) (b % 64) (hid_do20 (do_31 a b ha hb) (rfl)) (hid_do20 (do_32 (uV (a + b)) b (u64_uV _) hb) (add_back a b ha)) (hid_do20 (do_40 a b ha hb) (rfl)) (hid_do20 (do_39 a b ha hb) (rfl)) (hid_do20 (do_36 a b ha hb) (rfl)) (hid_do20 (do_33 a b ha hb) (rfl)) (hid_do20 (do_37 (uV (a * 2 ^ (b % 64).toNat)) b (u64_uV _) hb) (rfl)) (hid_do20 (do_37 a b ha hb) (rfl)) (hid_do20 (do_33 (a / 2 ^ (b % 64).toNat) b hp hb) (rfl)) (hid_do20 (do_60 a b ha hb) (rfl)) (hid_do20 (do_60 b a hb ha) (by rw [Int.mul_comm])) (hk) (by omega) (by omega) ((and_or a b ha hb).1) ((and_or a b ha hb).2) (rfl) (rfl) (rfl) (rfl) W

end Go.Proofs.Ytfkkjgcglmglhaa
