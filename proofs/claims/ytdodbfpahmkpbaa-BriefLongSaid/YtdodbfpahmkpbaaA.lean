/- Bits of a word. -/
import Derived.Test.YtdodbfpahmkpbaaRows
import Derived.Below
import Derived.Deep.Draws
import Derived.Deep.Slices
import Derived.BigQuiet
import Derived.Carry
import Derived.ChangeMaps
import Derived.Deep.DeepCutAuto
import Derived.Deep.RegionHeld3
import Derived.Deep.RegionWith
import Derived.IntWalk
import Derived.Laws.BitsAllLaws
import Derived.Lib.Hide
import Derived.Lib.SmallJoins
import Derived.OpenShut
import Derived.ProofKit
import Derived.SizedLaws
import Derived.WalkKit
import Derived.WalkLawsBesides
namespace Go.Proofs.Ytdodbfpahmkpbaa
open Go.RowKit Go.Deep Go.Joins

theorem ret_bool {a b : Bool} (h : a = b) : Ending.returned (.bool a) = .returned (.bool b) := by rw [h]
theorem ret_int {k : IntKind} {a b : Int} (h : a = b) : Ending.returned (.int k a) = .returned (.int k b) := by rw [h]
/-- So many bits of a word, from one on. -/
def cutN (w l k : Nat) : Nat := w / 2 ^ l % 2 ^ k
def plN (w l k t : Nat) : Nat := cutN w l k * 2 ^ t % 4294967296
def orN (a b : Nat) : Nat := (a ||| b) % 4294967296
theorem cutN_lt (w l k : Nat) : cutN w l k < 2 ^ k := Nat.mod_lt _ (Nat.two_pow_pos k)
theorem cut_bits (w h l : Nat) (hl : l ≤ h) (hh : h ≤ 31) : w * 2 ^ (31 - h) % 4294967296 / 2 ^ (31 - h + l) = cutN w l (h + 1 - l) := by
  unfold cutN
  have e : (4294967296 : Nat) = 2 ^ (h + 1) * 2 ^ (31 - h) := by
    rw [← Nat.pow_add, show h + 1 + (31 - h) = 32 by omega]
  rw [e, Nat.mul_mod_mul_right, Nat.pow_add 2 (31 - h) l, ← Nat.div_div_eq_div_mul, Nat.mul_div_cancel _ (Nat.two_pow_pos _)]
  rw [show (2 : Nat) ^ (h + 1) = 2 ^ l * 2 ^ (h + 1 - l) by rw [← Nat.pow_add, show l + (h + 1 - l) = h + 1 by omega]]
  rw [Nat.mod_mul_right_div_self]
theorem bits_or_nat (a b : Nat) : bits .or .u32 (a : Int) (b : Int) = ((orN a b : Nat) : Int) := by
  show IntKind.u32.wrap ((BitVec.ofInt 32 (a : Int) ||| BitVec.ofInt 32 (b : Int)).toNat : Int) = _
  rw [BitVec.ofInt_natCast, BitVec.ofInt_natCast, BitVec.toNat_or, BitVec.toNat_ofNat, BitVec.toNat_ofNat, ← Nat.or_mod_two_pow, IntKind.wrap_u32]
  unfold orN
  omega
theorem bits_and_nat (a k : Nat) (hk : k < 32) : bits .and .u32 (a : Int) ((2 ^ k - 1 : Nat) : Int) = ((a % 2 ^ k : Nat) : Int) := by
  show IntKind.u32.wrap ((BitVec.ofInt 32 (a : Int) &&& BitVec.ofInt 32 ((2 ^ k - 1 : Nat) : Int)).toNat : Int) = _
  have h1 : (2 : Nat) ^ k ≤ 2 ^ 31 := Nat.pow_le_pow_right (by omega) (by omega)
  have h0 : (0 : Nat) < 2 ^ k := Nat.two_pow_pos k
  rw [BitVec.ofInt_natCast, BitVec.ofInt_natCast, BitVec.toNat_and, BitVec.toNat_ofNat, BitVec.toNat_ofNat, Nat.mod_eq_of_lt (a := 2 ^ k - 1) (by omega), Nat.and_two_pow_sub_one_eq_mod, IntKind.wrap_u32]
  rw [Nat.mod_mod_of_dvd _ (Nat.pow_dvd_pow 2 (by omega))]
  have := Nat.mod_lt a h0
  omega
theorem and12_nat (a : Nat) : bits .and .u32 (a : Int) 4095 = ((a % 4096 : Nat) : Int) := bits_and_nat a 12 (by omega)
set_option maxHeartbeats 400000 in
theorem bits_gen (w h l : Nat) (W : World) (hh : h ≤ 31) (hl : l ≤ h) :
    Calls Try.prog 29 #[.int .u32 w, .int .u64 h, .int .u64 l] W fun e W' => e = .returned (.int .u32 (cutN w l (h + 1 - l) : Nat)) ∧ W = W' := by
  have E := Lib.hid (cut_bits w h l hl hh)
  have e1 : (31 - (h : Int)).toNat = 31 - h := by omega
  have e2 : (31 - (h : Int) + (l : Int)).toNat = 31 - h + l := by omega
  go_enter Try.func29, Try.ntmps29
  go_wp2
  go_ret
  refine ⟨ret_int ?_, rfl⟩
  rw [← E.out]
  simp only [Int.natCast_ediv, Int.natCast_emod, Int.natCast_mul, Int.natCast_pow, Int.cast_ofNat_Int]
set_option maxHeartbeats 400000 in
theorem place_gen (w h l t : Nat) (W : World) (hh : h ≤ 31) (hl : l ≤ h) (ht : t ≤ 31) :
    Calls Try.prog 66 #[.int .u32 w, .int .u64 h, .int .u64 l, .int .u64 t] W fun e W' => e = .returned (.int .u32 (plN w l (h + 1 - l) t : Nat)) ∧ W = W' := by
  go_enter Try.func66, Try.ntmps66
  go_wp2_with (first | (go_at_call 29; (with_reducible refine (bits_gen w h l _ hh hl).mono ?_); rintro e w' ⟨rfl, rfl⟩) | fail)
  go_ret
  refine ⟨ret_int ?_, rfl⟩
  unfold plN
  simp only [Int.natCast_emod, Int.natCast_mul, Int.natCast_pow, Int.cast_ofNat_Int]
set_option maxHeartbeats 400000 in
theorem cut_gen (w l k : Nat) (W : World) (hl : l ≤ 31) (hk : k < 32) :
    Calls Try.prog 13 #[.int .u32 w, .int .u64 l, .int .u64 k] W fun e W' => e = .returned (.int .u32 (cutN w l k : Nat)) ∧ W = W' := by
  have E := Lib.hid (bits_and_nat (w / 2 ^ l) k hk)
  have h2 : (2 : Nat) ^ k ≤ 2 ^ 31 := Nat.pow_le_pow_right (by omega) (by omega)
  have h0 : (0 : Nat) < 2 ^ k := Nat.two_pow_pos k
  have HH := Lib.hid (And.intro h2 h0)
  clear h2 h0
  go_enter Try.func13, Try.ntmps13
  go_wp2
  go_ret
  refine ⟨ret_int ?_, rfl⟩
  show _ = ((w / 2 ^ l % 2 ^ k : Nat) : Int)
  rw [← E.out]
  obtain ⟨h2, h0⟩ := HH.out
  have e : ((2 : Int) ^ k - 1) % 4294967296 = ((2 ^ k - 1 : Nat) : Int) := by
    have : ((2 ^ k : Nat) : Int) = (2 : Int) ^ k := by simp only [Int.natCast_pow, Int.cast_ofNat_Int]
    rw [← this]
    omega
  rw [e]
  simp only [Int.natCast_ediv, Int.natCast_pow, Int.cast_ofNat_Int]
set_option maxHeartbeats 400000 in
theorem at_gen (w b t : Nat) (W : World) (hl : b ≤ 31) (ht : t ≤ 31) :
    Calls Try.prog 33 #[.int .u32 w, .int .u64 b, .int .u64 t] W fun e W' => e = .returned (.int .u32 (plN w b 1 t : Nat)) ∧ W = W' := by
  have c : ∀ W, Calls Try.prog 13 #[.int .u32 w, .int .u64 b, .int .u64 1] W fun e W' => e = .returned (.int .u32 (cutN w b 1 : Nat)) ∧ W = W' := fun W => cut_gen w b 1 W hl (by omega)
  go_enter Try.func33, Try.ntmps33
  go_wp2_with (first | (go_at_call 13; (with_reducible refine (c _).mono ?_); rintro e w' ⟨rfl, rfl⟩) | fail)
  go_ret
  refine ⟨ret_int ?_, rfl⟩
  unfold plN
  simp only [Int.natCast_emod, Int.natCast_mul, Int.natCast_pow, Int.cast_ofNat_Int]
theorem sh7 (a : Nat) : (a : Int) * 128 % 4294967296 = ((a * 128 % 4294967296 : Nat) : Int) := by omega
theorem sh12 (a : Nat) : (a : Int) * 4096 % 4294967296 = ((a * 4096 % 4294967296 : Nat) : Int) := by omega
theorem sh15 (a : Nat) : (a : Int) * 32768 % 4294967296 = ((a * 32768 % 4294967296 : Nat) : Int) := by omega
theorem sh20 (a : Nat) : (a : Int) * 1048576 % 4294967296 = ((a * 1048576 % 4294967296 : Nat) : Int) := by omega
theorem sh21 (a : Nat) : (a : Int) * 2097152 % 4294967296 = ((a * 2097152 % 4294967296 : Nat) : Int) := by omega
theorem sh25 (a : Nat) : (a : Int) * 33554432 % 4294967296 = ((a * 33554432 % 4294967296 : Nat) : Int) := by omega
theorem sh31 (a : Nat) : (a : Int) * 2147483648 % 4294967296 = ((a * 2147483648 % 4294967296 : Nat) : Int) := by omega
theorem sh16 (a : Nat) : (a : Int) * 65536 % 4294967296 = ((a * 65536 % 4294967296 : Nat) : Int) := by omega
theorem sh3 (a : Nat) : (a : Int) * 8 % 4294967296 = ((a * 8 % 4294967296 : Nat) : Int) := by omega
theorem sh4 (a : Nat) : (a : Int) * 16 % 4294967296 = ((a * 16 % 4294967296 : Nat) : Int) := by omega
theorem sh6 (a : Nat) : (a : Int) * 64 % 4294967296 = ((a * 64 % 4294967296 : Nat) : Int) := by omega
theorem sh1 (a : Nat) : (a : Int) * 2 % 4294967296 = ((a * 2 % 4294967296 : Nat) : Int) := by omega
theorem sh2 (a : Nat) : (a : Int) * 4 % 4294967296 = ((a * 4 % 4294967296 : Nat) : Int) := by omega
theorem sh8 (a : Nat) : (a : Int) * 256 % 4294967296 = ((a * 256 % 4294967296 : Nat) : Int) := by omega
theorem beqF {x k : Nat} (h : x ≠ k) : Nat.beq x k = false := by rw [Bool.eq_false_iff]; intro e; exact h (Nat.eq_of_beq_eq_true e)
theorem beqT {x k : Nat} (h : x = k) : Nat.beq x k = true := by rw [h]; exact Nat.beq_refl k
theorem add8 (a : Nat) : (8 + (a : Int)) % 4294967296 = (((8 + a) % 4294967296 : Nat) : Int) := by omega
theorem add1024 (a : Nat) : ((a : Int) + 1024) % 4294967296 = (((a + 1024) % 4294967296 : Nat) : Int) := by omega
theorem or1024 (a : Nat) : bits .or .u32 (a : Int) 1024 = ((orN a 1024 : Nat) : Int) := bits_or_nat a 1024
def sgn6N (n : Nat) : Nat := orN n ((4294967296 - cutN n 5 1) * 64 % 4294967296)
set_option maxHeartbeats 400000 in
theorem signed6_any (n : Nat) (W : World) :
    Calls Try.prog 67 #[.int .u32 n, .int .u64 6] W fun e W' => e = .returned (.int .u32 (sgn6N n : Nat)) ∧ W = W' := by
  have c : ∀ W, Calls Try.prog 29 #[.int .u32 n, .int .u64 5, .int .u64 5] W fun e W' => e = .returned (.int .u32 (cutN n 5 1 : Nat)) ∧ W = W' := fun W => bits_gen n 5 5 W (by omega) (by omega)
  go_enter Try.func67, Try.ntmps67
  go_wp2_with (first | (go_at_call 29; (with_reducible refine (c _).mono ?_); rintro e w' ⟨rfl, rfl⟩) | fail)
  go_ret
  refine ⟨ret_int ?_, rfl⟩
  have h := cutN_lt n 5 1
  have e : (-((cutN n 5 1 : Nat) : Int)) % 4294967296 * 64 % 4294967296 = (((4294967296 - cutN n 5 1) * 64 % 4294967296 : Nat) : Int) := by omega
  rw [e, bits_or_nat]
  rfl
def spr6N (n : Nat) : Nat := bif Nat.blt (n % 64) 32 then n % 64 else n % 64 + 4294967232
set_option maxHeartbeats 400000 in
theorem spread6_any (n : Nat) (W : World) :
    Calls Try.prog 37 #[.int .u32 n, .int .u64 6] W fun e W' => e = .returned (.int .u32 (spr6N n : Nat)) ∧ W = W' := by
  go_enter Try.func37, Try.ntmps37
  go_wp2
  go_ret
  refine ⟨ret_int ?_, rfl⟩
  unfold spr6N wrap32
  by_cases h : n % 64 < 32
  · rw [show Nat.blt (n % 64) 32 = true by simp [Nat.blt]; omega]
    show _ = ((n % 64 : Nat) : Int)
    omega
  · rw [show Nat.blt (n % 64) 32 = false by rw [Bool.eq_false_iff]; intro h2; simp [Nat.blt] at h2; omega]
    show _ = ((n % 64 + 4294967232 : Nat) : Int)
    omega
def sgn9N (n : Nat) : Nat := orN n ((4294967296 - cutN n 8 1) * 512 % 4294967296)
set_option maxHeartbeats 400000 in
theorem signed9_any (n : Nat) (W : World) :
    Calls Try.prog 67 #[.int .u32 n, .int .u64 9] W fun e W' => e = .returned (.int .u32 (sgn9N n : Nat)) ∧ W = W' := by
  have c : ∀ W, Calls Try.prog 29 #[.int .u32 n, .int .u64 8, .int .u64 8] W fun e W' => e = .returned (.int .u32 (cutN n 8 1 : Nat)) ∧ W = W' := fun W => bits_gen n 8 8 W (by omega) (by omega)
  go_enter Try.func67, Try.ntmps67
  go_wp2_with (first | (go_at_call 29; (with_reducible refine (c _).mono ?_); rintro e w' ⟨rfl, rfl⟩) | fail)
  go_ret
  refine ⟨ret_int ?_, rfl⟩
  have h := cutN_lt n 8 1
  have e : (-((cutN n 8 1 : Nat) : Int)) % 4294967296 * 512 % 4294967296 = (((4294967296 - cutN n 8 1) * 512 % 4294967296 : Nat) : Int) := by omega
  rw [e, bits_or_nat]
  rfl
def spr9N (n : Nat) : Nat := bif Nat.blt (n % 512) 256 then n % 512 else n % 512 + 4294966784
set_option maxHeartbeats 400000 in
theorem spread9_any (n : Nat) (W : World) :
    Calls Try.prog 37 #[.int .u32 n, .int .u64 9] W fun e W' => e = .returned (.int .u32 (spr9N n : Nat)) ∧ W = W' := by
  go_enter Try.func37, Try.ntmps37
  go_wp2
  go_ret
  refine ⟨ret_int ?_, rfl⟩
  unfold spr9N wrap32
  by_cases h : n % 512 < 256
  · rw [show Nat.blt (n % 512) 256 = true by simp [Nat.blt]; omega]
    show _ = ((n % 512 : Nat) : Int)
    omega
  · rw [show Nat.blt (n % 512) 256 = false by rw [Bool.eq_false_iff]; intro h2; simp [Nat.blt] at h2; omega]
    show _ = ((n % 512 + 4294966784 : Nat) : Int)
    omega
def sgn10N (n : Nat) : Nat := orN n ((4294967296 - cutN n 9 1) * 1024 % 4294967296)
set_option maxHeartbeats 400000 in
theorem signed10_any (n : Nat) (W : World) :
    Calls Try.prog 67 #[.int .u32 n, .int .u64 10] W fun e W' => e = .returned (.int .u32 (sgn10N n : Nat)) ∧ W = W' := by
  have c : ∀ W, Calls Try.prog 29 #[.int .u32 n, .int .u64 9, .int .u64 9] W fun e W' => e = .returned (.int .u32 (cutN n 9 1 : Nat)) ∧ W = W' := fun W => bits_gen n 9 9 W (by omega) (by omega)
  go_enter Try.func67, Try.ntmps67
  go_wp2_with (first | (go_at_call 29; (with_reducible refine (c _).mono ?_); rintro e w' ⟨rfl, rfl⟩) | fail)
  go_ret
  refine ⟨ret_int ?_, rfl⟩
  have h := cutN_lt n 9 1
  have e : (-((cutN n 9 1 : Nat) : Int)) % 4294967296 * 1024 % 4294967296 = (((4294967296 - cutN n 9 1) * 1024 % 4294967296 : Nat) : Int) := by omega
  rw [e, bits_or_nat]
  rfl
def spr10N (n : Nat) : Nat := bif Nat.blt (n % 1024) 512 then n % 1024 else n % 1024 + 4294966272
set_option maxHeartbeats 400000 in
theorem spread10_any (n : Nat) (W : World) :
    Calls Try.prog 37 #[.int .u32 n, .int .u64 10] W fun e W' => e = .returned (.int .u32 (spr10N n : Nat)) ∧ W = W' := by
  go_enter Try.func37, Try.ntmps37
  go_wp2
  go_ret
  refine ⟨ret_int ?_, rfl⟩
  unfold spr10N wrap32
  by_cases h : n % 1024 < 512
  · rw [show Nat.blt (n % 1024) 512 = true by simp [Nat.blt]; omega]
    show _ = ((n % 1024 : Nat) : Int)
    omega
  · rw [show Nat.blt (n % 1024) 512 = false by rw [Bool.eq_false_iff]; intro h2; simp [Nat.blt] at h2; omega]
    show _ = ((n % 1024 + 4294966272 : Nat) : Int)
    omega
def sgn12N (n : Nat) : Nat := orN n ((4294967296 - cutN n 11 1) * 4096 % 4294967296)
set_option maxHeartbeats 400000 in
theorem signed12_any (n : Nat) (W : World) :
    Calls Try.prog 67 #[.int .u32 n, .int .u64 12] W fun e W' => e = .returned (.int .u32 (sgn12N n : Nat)) ∧ W = W' := by
  have c : ∀ W, Calls Try.prog 29 #[.int .u32 n, .int .u64 11, .int .u64 11] W fun e W' => e = .returned (.int .u32 (cutN n 11 1 : Nat)) ∧ W = W' := fun W => bits_gen n 11 11 W (by omega) (by omega)
  go_enter Try.func67, Try.ntmps67
  go_wp2_with (first | (go_at_call 29; (with_reducible refine (c _).mono ?_); rintro e w' ⟨rfl, rfl⟩) | fail)
  go_ret
  refine ⟨ret_int ?_, rfl⟩
  have h := cutN_lt n 11 1
  have e : (-((cutN n 11 1 : Nat) : Int)) % 4294967296 * 4096 % 4294967296 = (((4294967296 - cutN n 11 1) * 4096 % 4294967296 : Nat) : Int) := by omega
  rw [e, bits_or_nat]
  rfl
def spr12N (n : Nat) : Nat := bif Nat.blt (n % 4096) 2048 then n % 4096 else n % 4096 + 4294963200
set_option maxHeartbeats 400000 in
theorem spread12_any (n : Nat) (W : World) :
    Calls Try.prog 37 #[.int .u32 n, .int .u64 12] W fun e W' => e = .returned (.int .u32 (spr12N n : Nat)) ∧ W = W' := by
  go_enter Try.func37, Try.ntmps37
  go_wp2
  go_ret
  refine ⟨ret_int ?_, rfl⟩
  unfold spr12N wrap32
  by_cases h : n % 4096 < 2048
  · rw [show Nat.blt (n % 4096) 2048 = true by simp [Nat.blt]; omega]
    show _ = ((n % 4096 : Nat) : Int)
    omega
  · rw [show Nat.blt (n % 4096) 2048 = false by rw [Bool.eq_false_iff]; intro h2; simp [Nat.blt] at h2; omega]
    show _ = ((n % 4096 + 4294963200 : Nat) : Int)
    omega
theorem nats : (∀ a : Nat, (a : Int) * 2 % 4294967296 = ((a * 2 % 4294967296 : Nat) : Int)) ∧ (∀ a : Nat, (a : Int) * 4 % 4294967296 = ((a * 4 % 4294967296 : Nat) : Int)) ∧ (∀ a : Nat, (a : Int) * 8 % 4294967296 = ((a * 8 % 4294967296 : Nat) : Int)) ∧ (∀ a : Nat, (a : Int) * 16 % 4294967296 = ((a * 16 % 4294967296 : Nat) : Int)) ∧ (∀ a : Nat, (a : Int) * 64 % 4294967296 = ((a * 64 % 4294967296 : Nat) : Int)) ∧ (∀ a : Nat, (a : Int) * 128 % 4294967296 = ((a * 128 % 4294967296 : Nat) : Int)) ∧ (∀ a : Nat, (a : Int) * 256 % 4294967296 = ((a * 256 % 4294967296 : Nat) : Int)) ∧ (∀ a : Nat, (a : Int) * 4096 % 4294967296 = ((a * 4096 % 4294967296 : Nat) : Int)) ∧ (∀ a : Nat, (a : Int) * 32768 % 4294967296 = ((a * 32768 % 4294967296 : Nat) : Int)) ∧ (∀ a : Nat, (a : Int) * 65536 % 4294967296 = ((a * 65536 % 4294967296 : Nat) : Int)) ∧ (∀ a : Nat, (a : Int) * 1048576 % 4294967296 = ((a * 1048576 % 4294967296 : Nat) : Int)) ∧ (∀ a : Nat, (a : Int) * 2097152 % 4294967296 = ((a * 2097152 % 4294967296 : Nat) : Int)) ∧ (∀ a : Nat, (a : Int) * 33554432 % 4294967296 = ((a * 33554432 % 4294967296 : Nat) : Int)) ∧ (∀ a : Nat, (a : Int) * 2147483648 % 4294967296 = ((a * 2147483648 % 4294967296 : Nat) : Int)) ∧ (∀ a : Nat, (8 + (a : Int)) % 4294967296 = (((8 + a) % 4294967296 : Nat) : Int)) ∧ (∀ a : Nat, ((a : Int) + 1024) % 4294967296 = (((a + 1024) % 4294967296 : Nat) : Int)) ∧ (∀ a : Nat, bits .or .u32 (a : Int) 1024 = ((orN a 1024 : Nat) : Int)) ∧ (∀ a : Nat, bits .or .u32 (a : Int) 99 = ((orN a 99 : Nat) : Int)) ∧ (∀ a : Nat, bits .or .u32 (a : Int) 55 = ((orN a 55 : Nat) : Int)) ∧ (∀ a : Nat, bits .or .u32 (a : Int) 111 = ((orN a 111 : Nat) : Int)) ∧ (∀ a : Nat, bits .and .u32 (a : Int) 4095 = ((a % 4096 : Nat) : Int)) ∧ (∀ a b : Nat, bits .or .u32 (a : Int) (b : Int) = ((orN a b : Nat) : Int)) :=
  ⟨sh1, sh2, sh3, sh4, sh6, sh7, sh8, sh12, sh15, sh16, sh20, sh21, sh25, sh31, add8, add1024, or1024, fun a => bits_or_nat a 99, fun a => bits_or_nat a 55, fun a => bits_or_nat a 111, and12_nat, bits_or_nat⟩

end Go.Proofs.Ytdodbfpahmkpbaa
