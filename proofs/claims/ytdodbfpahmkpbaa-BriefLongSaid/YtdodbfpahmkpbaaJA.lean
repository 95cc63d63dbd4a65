/- The reference's instruction of a word (my own, from the seat of package decode), JA. -/
import Derived.Test.YtdodbfpahmkpbaaG
import Derived.Below
import Derived.Deep.Draws
import Derived.Deep.Slices
import Derived.BigQuiet
import Derived.Carry
import Derived.ChangeMaps
import Derived.Deep.DeepCutAuto
import Derived.Deep.RegionHeld3
import Derived.Deep.RegionWith
import Derived.IntWalk
import Derived.Laws.BitsAllLaws
import Derived.Lib.Hide
import Derived.Lib.SmallJoins
import Derived.OpenShut
import Derived.ProofKit
import Derived.SizedLaws
import Derived.WalkKit
import Derived.WalkLawsBesides
import Derived.Handy
import Derived.StillTailTactics
namespace Go.Proofs.Ytdodbfpahmkpbaa
open Go.RowKit Go.Deep Go.Joins
theorem below1 (w : World) (a : Obj) : Below w.heap.size w (w.alloc a) := (Below.refl _ _).alloc (Nat.le_refl _) _
theorem mask_cut (w l k : Nat) (hw : w < 4294967296) (hk : k < 32) : bits .and .u32 ((w / 2 ^ l : Nat) : Int) ((2 ^ k - 1 : Nat) : Int) = (cutN w l k : Nat) := by
  have h1 : w / 2 ^ l ≤ w := Nat.div_le_self _ _
  have h2 : 2 ^ k ≤ 2 ^ 31 := Nat.pow_le_pow_right (by omega) (by omega)
  rw [u32_and_nat _ _ (by omega) (by omega), Nat.and_two_pow_sub_one_eq_mod]
  rfl
set_option maxHeartbeats 400000 in
theorem cut_gen06 (w l k : Nat) (W : World) (hw : w < 4294967296) (hl : l ≤ 31) (hk : k < 32) :
    Calls Try.prog 17 #[.int .u32 w, .int .u64 l, .int .u64 k] W fun e W' => e = .returned (.int .u32 (cutN w l k : Nat)) ∧ W = W' := by
  have E := Lib.hid (mask_cut w l k hw hk)
  have h2 : (2 : Nat) ^ k ≤ 2 ^ 31 := Nat.pow_le_pow_right (by omega) (by omega)
  have h0 : (0 : Nat) < 2 ^ k := Nat.two_pow_pos k
  have HH := Lib.hid (And.intro h2 h0)
  clear h2 h0
  go_enter Try.func17, Try.ntmps17
  go_wp2
  go_ret
  refine ⟨ret_int ?_, rfl⟩
  rw [← E.out]
  obtain ⟨h2, h0⟩ := HH.out
  have e : ((2 : Int) ^ k - 1) % 4294967296 = ((2 ^ k - 1 : Nat) : Int) := by
    have : ((2 ^ k : Nat) : Int) = (2 : Int) ^ k := by simp only [Int.natCast_pow, Int.cast_ofNat_Int]
    rw [← this]
    omega
  rw [e]
  simp only [Int.natCast_ediv, Int.natCast_pow, Int.cast_ofNat_Int]
def wideI (n k : Nat) : Int := if n < 2 ^ (k - 1) then n else (n : Int) - 2 ^ k
set_option maxHeartbeats 400000 in
theorem wide12 (n : Nat) (W : World) (hn : n < 4096) :
    Calls Try.prog 20 #[.int .u32 n, .int .u64 12] W fun e W' => e = .returned (.int .i64 (wideI n 12)) ∧ W = W' := by
  go_enter Try.func20, Try.ntmps20
  go_wp2
  go_ret
  refine ⟨ret_int ?_, rfl⟩
  unfold wideI wrap64 wrap32
  split <;> simp at * <;> omega
set_option maxHeartbeats 400000 in
theorem wide13 (n : Nat) (W : World) (hn : n < 8192) :
    Calls Try.prog 20 #[.int .u32 n, .int .u64 13] W fun e W' => e = .returned (.int .i64 (wideI n 13)) ∧ W = W' := by
  go_enter Try.func20, Try.ntmps20
  go_wp2
  go_ret
  refine ⟨ret_int ?_, rfl⟩
  unfold wideI wrap64 wrap32
  split <;> simp at * <;> omega
set_option maxHeartbeats 400000 in
theorem wide21 (n : Nat) (W : World) (hn : n < 2097152) :
    Calls Try.prog 20 #[.int .u32 n, .int .u64 21] W fun e W' => e = .returned (.int .i64 (wideI n 21)) ∧ W = W' := by
  go_enter Try.func20, Try.ntmps20
  go_wp2
  go_ret
  refine ⟨ret_int ?_, rfl⟩
  unfold wideI wrap64 wrap32
  split <;> simp at * <;> omega
theorem orN06 {a b i : Nat} (h : b < 2 ^ i) : a * 2 ^ i ||| b = a * 2 ^ i + b := by
  rw [Nat.mul_comm, ← Nat.two_pow_add_eq_or_of_lt h]
theorem or_u32 {a b : Nat} (i : Nat) (h : b < 2 ^ i) (h1 : a * 2 ^ i + b < 4294967296) : bits .or .u32 ((a * 2 ^ i : Nat) : Int) (b : Int) = ((a * 2 ^ i + b : Nat) : Int) := by
  rw [u32_or_nat _ _ (by omega) (by omega), orN06 h]
theorem cut_12_3 (w : Nat) (W : World) (hw : w < 4294967296) : Calls Try.prog 17 #[.int .u32 w, .int .u64 12, .int .u64 3] W fun e W' => e = .returned (.int .u32 (cutN w 12 3 : Nat)) ∧ W = W' := cut_gen06 w 12 3 W hw (by omega) (by omega)
theorem cut_7_5 (w : Nat) (W : World) (hw : w < 4294967296) : Calls Try.prog 17 #[.int .u32 w, .int .u64 7, .int .u64 5] W fun e W' => e = .returned (.int .u32 (cutN w 7 5 : Nat)) ∧ W = W' := cut_gen06 w 7 5 W hw (by omega) (by omega)
theorem cut_15_5 (w : Nat) (W : World) (hw : w < 4294967296) : Calls Try.prog 17 #[.int .u32 w, .int .u64 15, .int .u64 5] W fun e W' => e = .returned (.int .u32 (cutN w 15 5 : Nat)) ∧ W = W' := cut_gen06 w 15 5 W hw (by omega) (by omega)
theorem cut_20_5 (w : Nat) (W : World) (hw : w < 4294967296) : Calls Try.prog 17 #[.int .u32 w, .int .u64 20, .int .u64 5] W fun e W' => e = .returned (.int .u32 (cutN w 20 5 : Nat)) ∧ W = W' := cut_gen06 w 20 5 W hw (by omega) (by omega)
theorem cut_0_7 (w : Nat) (W : World) (hw : w < 4294967296) : Calls Try.prog 17 #[.int .u32 w, .int .u64 0, .int .u64 7] W fun e W' => e = .returned (.int .u32 (cutN w 0 7 : Nat)) ∧ W = W' := cut_gen06 w 0 7 W hw (by omega) (by omega)
theorem cut_26_6 (w : Nat) (W : World) (hw : w < 4294967296) : Calls Try.prog 17 #[.int .u32 w, .int .u64 26, .int .u64 6] W fun e W' => e = .returned (.int .u32 (cutN w 26 6 : Nat)) ∧ W = W' := cut_gen06 w 26 6 W hw (by omega) (by omega)
theorem cut_20_6 (w : Nat) (W : World) (hw : w < 4294967296) : Calls Try.prog 17 #[.int .u32 w, .int .u64 20, .int .u64 6] W fun e W' => e = .returned (.int .u32 (cutN w 20 6 : Nat)) ∧ W = W' := cut_gen06 w 20 6 W hw (by omega) (by omega)
theorem cut_25_7 (w : Nat) (W : World) (hw : w < 4294967296) : Calls Try.prog 17 #[.int .u32 w, .int .u64 25, .int .u64 7] W fun e W' => e = .returned (.int .u32 (cutN w 25 7 : Nat)) ∧ W = W' := cut_gen06 w 25 7 W hw (by omega) (by omega)
theorem cut_20_12 (w : Nat) (W : World) (hw : w < 4294967296) : Calls Try.prog 17 #[.int .u32 w, .int .u64 20, .int .u64 12] W fun e W' => e = .returned (.int .u32 (cutN w 20 12 : Nat)) ∧ W = W' := cut_gen06 w 20 12 W hw (by omega) (by omega)
theorem cut_27_5 (w : Nat) (W : World) (hw : w < 4294967296) : Calls Try.prog 17 #[.int .u32 w, .int .u64 27, .int .u64 5] W fun e W' => e = .returned (.int .u32 (cutN w 27 5 : Nat)) ∧ W = W' := cut_gen06 w 27 5 W hw (by omega) (by omega)
theorem cut_31_1 (w : Nat) (W : World) (hw : w < 4294967296) : Calls Try.prog 17 #[.int .u32 w, .int .u64 31, .int .u64 1] W fun e W' => e = .returned (.int .u32 (cutN w 31 1 : Nat)) ∧ W = W' := cut_gen06 w 31 1 W hw (by omega) (by omega)
theorem cut_7_1 (w : Nat) (W : World) (hw : w < 4294967296) : Calls Try.prog 17 #[.int .u32 w, .int .u64 7, .int .u64 1] W fun e W' => e = .returned (.int .u32 (cutN w 7 1 : Nat)) ∧ W = W' := cut_gen06 w 7 1 W hw (by omega) (by omega)
theorem cut_25_6 (w : Nat) (W : World) (hw : w < 4294967296) : Calls Try.prog 17 #[.int .u32 w, .int .u64 25, .int .u64 6] W fun e W' => e = .returned (.int .u32 (cutN w 25 6 : Nat)) ∧ W = W' := cut_gen06 w 25 6 W hw (by omega) (by omega)
theorem cut_8_4 (w : Nat) (W : World) (hw : w < 4294967296) : Calls Try.prog 17 #[.int .u32 w, .int .u64 8, .int .u64 4] W fun e W' => e = .returned (.int .u32 (cutN w 8 4 : Nat)) ∧ W = W' := cut_gen06 w 8 4 W hw (by omega) (by omega)
theorem cut_12_8 (w : Nat) (W : World) (hw : w < 4294967296) : Calls Try.prog 17 #[.int .u32 w, .int .u64 12, .int .u64 8] W fun e W' => e = .returned (.int .u32 (cutN w 12 8 : Nat)) ∧ W = W' := cut_gen06 w 12 8 W hw (by omega) (by omega)
theorem cut_20_1 (w : Nat) (W : World) (hw : w < 4294967296) : Calls Try.prog 17 #[.int .u32 w, .int .u64 20, .int .u64 1] W fun e W' => e = .returned (.int .u32 (cutN w 20 1 : Nat)) ∧ W = W' := cut_gen06 w 20 1 W hw (by omega) (by omega)
theorem cut_21_10 (w : Nat) (W : World) (hw : w < 4294967296) : Calls Try.prog 17 #[.int .u32 w, .int .u64 21, .int .u64 10] W fun e W' => e = .returned (.int .u32 (cutN w 21 10 : Nat)) ∧ W = W' := cut_gen06 w 21 10 W hw (by omega) (by omega)
theorem lt_0_7 (w : Nat) : cutN w 0 7 < 128 := cutN_lt w 0 7
theorem lt_7_1 (w : Nat) : cutN w 7 1 < 2 := cutN_lt w 7 1
theorem lt_7_5 (w : Nat) : cutN w 7 5 < 32 := cutN_lt w 7 5
theorem lt_8_4 (w : Nat) : cutN w 8 4 < 16 := cutN_lt w 8 4
theorem lt_12_3 (w : Nat) : cutN w 12 3 < 8 := cutN_lt w 12 3
theorem lt_12_8 (w : Nat) : cutN w 12 8 < 256 := cutN_lt w 12 8
theorem lt_12_20 (w : Nat) : cutN w 12 20 < 1048576 := cutN_lt w 12 20
theorem lt_15_5 (w : Nat) : cutN w 15 5 < 32 := cutN_lt w 15 5
theorem lt_20_1 (w : Nat) : cutN w 20 1 < 2 := cutN_lt w 20 1
theorem lt_20_5 (w : Nat) : cutN w 20 5 < 32 := cutN_lt w 20 5
theorem lt_20_6 (w : Nat) : cutN w 20 6 < 64 := cutN_lt w 20 6
theorem lt_20_12 (w : Nat) : cutN w 20 12 < 4096 := cutN_lt w 20 12
theorem lt_21_10 (w : Nat) : cutN w 21 10 < 1024 := cutN_lt w 21 10
theorem lt_25_6 (w : Nat) : cutN w 25 6 < 64 := cutN_lt w 25 6
theorem lt_25_7 (w : Nat) : cutN w 25 7 < 128 := cutN_lt w 25 7
theorem lt_26_6 (w : Nat) : cutN w 26 6 < 64 := cutN_lt w 26 6
theorem lt_27_5 (w : Nat) : cutN w 27 5 < 32 := cutN_lt w 27 5
theorem lt_31_1 (w : Nat) : cutN w 31 1 < 2 := cutN_lt w 31 1
def immI (w : Nat) : Int := (cutN w 20 12 : Nat) - 4096 * (cutN w 31 1 : Nat)
def immS (w : Nat) : Int := (cutN w 25 7 * 32 + cutN w 7 5 : Nat) - 4096 * (cutN w 31 1 : Nat)
def immB (w : Nat) : Int := (cutN w 7 1 * 2048 + cutN w 25 6 * 32 + cutN w 8 4 * 2 : Nat) - 4096 * (cutN w 31 1 : Nat)
def immU (w : Nat) : Int := (cutN w 12 20 * 4096 : Nat) - 4294967296 * (cutN w 31 1 : Nat)
def immJ (w : Nat) : Int := (cutN w 12 8 * 4096 + cutN w 20 1 * 2048 + cutN w 21 10 * 2 : Nat) - 1048576 * (cutN w 31 1 : Nat)
/-- What the program's rows of operations hold. -/
def tab : Nat → List Int
  | 0 => [5, 6, 0, 0, 7, 8, 9, 10]
  | 1 => [11, 12, 13, 14, 15, 16, 17, 0]
  | 2 => [18, 19, 20, 21, 0, 0, 0, 0]
  | 3 => [50, 51, 0, 0, 0, 0, 0, 0]
  | 4 => [22, 0, 23, 24, 25, 0, 26, 27]
  | 5 => [31, 33, 34, 35, 36, 37, 39, 40]
  | 6 => [60, 61, 62, 63, 64, 65, 66, 67]
  | 7 => [32, 0, 0, 0, 0, 38, 0, 0]
  | 8 => [45, 47, 0, 0, 0, 48, 0, 0]
  | 9 => [68, 0, 0, 0, 69, 70, 71, 72]
  | 10 => [46, 0, 0, 0, 0, 49, 0, 0]
  | 11 => [0, 54, 55, 56, 0, 57, 58, 59]
  | _ => []
def row (g j : Nat) : Int := (tab g).getD j 0
def op33 (f3 f7 : Nat) : Int := if f7 = 0 then row 5 f3 else if f7 = 1 then row 6 f3 else if f7 = 32 then row 7 f3 else 0
def op3b (f3 f7 : Nat) : Int := if f7 = 0 then row 8 f3 else if f7 = 1 then row 9 f3 else if f7 = 32 then row 10 f3 else 0
def aW (c : Nat) : Int := if c = 0 then 76 else if c = 1 then 75 else if c = 2 then 73 else if c = 3 then 74 else if c = 4 then 77 else if c = 8 then 79 else if c = 12 then 78 else if c = 16 then 80 else if c = 20 then 81 else if c = 24 then 82 else if c = 28 then 83 else 0
def aD (c : Nat) : Int := if c = 0 then 87 else if c = 1 then 86 else if c = 2 then 84 else if c = 3 then 85 else if c = 4 then 88 else if c = 8 then 90 else if c = 12 then 89 else if c = 16 then 91 else if c = 20 then 92 else if c = 24 then 93 else if c = 28 then 94 else 0
/-- An instruction. -/
structure In where
  op : Int
  rd : Int
  rs1 : Int
  rs2 : Int
  imm : Int
def opA (f3 c : Nat) : Int := if f3 = 2 then aW c else if f3 = 3 then aD c else 0
/-- A world in which the result's cells have been made. -/
structure Fresh (W w2 : World) : Prop where
  b : Below W.heap.size W w2
  lt : W.heap.size < w2.heap.size
  c0 : w2.cell? ⟨W.heap.size, 0, none⟩ = some (.int .i64 0)
  c1 : w2.cell? ⟨W.heap.size, 1, none⟩ = some (.int .i64 0)
  c2 : w2.cell? ⟨W.heap.size, 2, none⟩ = some (.int .i64 0)
  c3 : w2.cell? ⟨W.heap.size, 3, none⟩ = some (.int .i64 0)
  c4 : w2.cell? ⟨W.heap.size, 4, none⟩ = some (.int .i64 0)
  f : ∀ i, w2.frozen? ⟨W.heap.size, i, none⟩ = false
theorem fresh_alloc (W : World) : Fresh W (W.alloc (.cells #[.int .i64 0, .int .i64 0, .int .i64 0, .int .i64 0, .int .i64 0] 30)) := by
  refine ⟨below1 W _, by simp, ?_, ?_, ?_, ?_, ?_, ?_⟩
  all_goals first | (intro i; simp; done) | (simp; done)
theorem Fresh.after {W w0 w1 : World} (h : Fresh W w0) (hb : Below w0.heap.size w0 w1) : Fresh W w1 :=
  ⟨h.b.trans (hb.mono (Nat.le_of_lt h.lt)), Nat.lt_of_lt_of_le h.lt hb.size, (hb.cell h.lt).trans h.c0, (hb.cell h.lt).trans h.c1, (hb.cell h.lt).trans h.c2, (hb.cell h.lt).trans h.c3, (hb.cell h.lt).trans h.c4, fun i => (hb.frozen h.lt).trans (h.f i)⟩
theorem Fresh.alloc {W w1 : World} (h : Fresh W w1) (o : Obj) : Fresh W (w1.alloc o) := h.after (below1 w1 o)
theorem fin6 {W w1 : World} (h : Fresh W w1) (a b c d e : Value) :
    Below W.heap.size W (((((w1.setCell ⟨W.heap.size, 0, none⟩ a).setCell ⟨W.heap.size, 1, none⟩ b).setCell ⟨W.heap.size, 2, none⟩ c).setCell ⟨W.heap.size, 3, none⟩ d).setCell ⟨W.heap.size, 4, none⟩ e) :=
  ((((h.b.setCell (Nat.le_refl _) _).setCell (Nat.le_refl _) _).setCell (Nat.le_refl _) _).setCell (Nat.le_refl _) _).setCell (Nat.le_refl _) _
set_option maxHeartbeats 400000 in
theorem pick_in (i g n : Nat) (v : Int) (w : World) (hi : i < n) (hn : n ≤ 8) (hc : w.cell? ⟨g, i, none⟩ = some (.int .i64 v)) :
    Calls Try.prog 19 #[.int .u32 i, .slice (some ⟨g, 0, none⟩) n n] w fun e w' => e = .returned (.int .i64 v) ∧ w = w' := by
  have hd : decide ((n : Int) ≤ (i : Int)) = false := decide_eq_false (by omega)
  go_enter Try.func19, Try.ntmps19
  go_wp2
  go_ret
  exact ⟨rfl, rfl⟩
set_option maxHeartbeats 400000 in
theorem pick_out (i g n : Nat) (w : World) (hi : n ≤ i) (h8 : i < 8) :
    Calls Try.prog 19 #[.int .u32 i, .slice (some ⟨g, 0, none⟩) n n] w fun e w' => e = .returned (.int .i64 0) ∧ w = w' := by
  go_enter Try.func19, Try.ntmps19
  go_wp2
  go_ret
  exact ⟨rfl, rfl⟩
theorem new_row (w : World) (L : List Int) (t : TypeId) (j : Nat) (v : Int) (h : L[j]? = some v) : (w.alloc (.cells (L.map fun x => Value.int .i64 x).toArray t)).cell? ⟨w.heap.size, j, none⟩ = some (.int .i64 v) := by
  rw [cell_of_row _ _ _ _ _ (0, 0) (heap_alloc_new w _)]
  simp [h]
def r4 (i : Nat) : Int := if i = 0 then 4 else 0
theorem pick_0 (i : Nat) (h8 : i < 8) (W : World) :
    Calls Try.prog 19 #[.int .u32 i, .slice (some ⟨W.heap.size, 0, none⟩) 8 8] (W.alloc (.cells #[.int .i64 5, .int .i64 6, .int .i64 0, .int .i64 0, .int .i64 7, .int .i64 8, .int .i64 9, .int .i64 10] 3)) fun e w' => e = .returned (.int .i64 (row 0 i)) ∧ W.alloc (.cells #[.int .i64 5, .int .i64 6, .int .i64 0, .int .i64 0, .int .i64 7, .int .i64 8, .int .i64 9, .int .i64 10] 3) = w' := by
  rcases Nat.lt_or_ge i 8 with h | h
  · exact pick_in i _ 8 _ _ h (by omega) (new_row W [5, 6, 0, 0, 7, 8, 9, 10] 3 i _ (by unfold row tab; exact (by decide : ∀ i < 8, [(5 : Int), (6 : Int), (0 : Int), (0 : Int), (7 : Int), (8 : Int), (9 : Int), (10 : Int)][i]? = some (List.getD [5, 6, 0, 0, 7, 8, 9, 10] i (0 : Int))) i h))
  · have e : row 0 i = 0 := by unfold row tab; exact (by decide : ∀ i < 8, 8 ≤ i → List.getD [5, 6, 0, 0, 7, 8, 9, 10] i (0 : Int) = 0) i h8 h
    rw [e]
    exact pick_out i _ 8 _ h h8
theorem pick_1 (i : Nat) (h8 : i < 8) (W : World) :
    Calls Try.prog 19 #[.int .u32 i, .slice (some ⟨W.heap.size, 0, none⟩) 7 7] (W.alloc (.cells #[.int .i64 11, .int .i64 12, .int .i64 13, .int .i64 14, .int .i64 15, .int .i64 16, .int .i64 17] 3)) fun e w' => e = .returned (.int .i64 (row 1 i)) ∧ W.alloc (.cells #[.int .i64 11, .int .i64 12, .int .i64 13, .int .i64 14, .int .i64 15, .int .i64 16, .int .i64 17] 3) = w' := by
  rcases Nat.lt_or_ge i 7 with h | h
  · exact pick_in i _ 7 _ _ h (by omega) (new_row W [11, 12, 13, 14, 15, 16, 17] 3 i _ (by unfold row tab; exact (by decide : ∀ i < 7, [(11 : Int), (12 : Int), (13 : Int), (14 : Int), (15 : Int), (16 : Int), (17 : Int)][i]? = some (List.getD [11, 12, 13, 14, 15, 16, 17, 0] i (0 : Int))) i h))
  · have e : row 1 i = 0 := by unfold row tab; exact (by decide : ∀ i < 8, 7 ≤ i → List.getD [11, 12, 13, 14, 15, 16, 17, 0] i (0 : Int) = 0) i h8 h
    rw [e]
    exact pick_out i _ 7 _ h h8
theorem pick_2 (i : Nat) (h8 : i < 8) (W : World) :
    Calls Try.prog 19 #[.int .u32 i, .slice (some ⟨W.heap.size, 0, none⟩) 4 4] (W.alloc (.cells #[.int .i64 18, .int .i64 19, .int .i64 20, .int .i64 21] 3)) fun e w' => e = .returned (.int .i64 (row 2 i)) ∧ W.alloc (.cells #[.int .i64 18, .int .i64 19, .int .i64 20, .int .i64 21] 3) = w' := by
  rcases Nat.lt_or_ge i 4 with h | h
  · exact pick_in i _ 4 _ _ h (by omega) (new_row W [18, 19, 20, 21] 3 i _ (by unfold row tab; exact (by decide : ∀ i < 4, [(18 : Int), (19 : Int), (20 : Int), (21 : Int)][i]? = some (List.getD [18, 19, 20, 21, 0, 0, 0, 0] i (0 : Int))) i h))
  · have e : row 2 i = 0 := by unfold row tab; exact (by decide : ∀ i < 8, 4 ≤ i → List.getD [18, 19, 20, 21, 0, 0, 0, 0] i (0 : Int) = 0) i h8 h
    rw [e]
    exact pick_out i _ 4 _ h h8
theorem pick_3 (i : Nat) (h8 : i < 8) (W : World) :
    Calls Try.prog 19 #[.int .u32 i, .slice (some ⟨W.heap.size, 0, none⟩) 2 2] (W.alloc (.cells #[.int .i64 50, .int .i64 51] 3)) fun e w' => e = .returned (.int .i64 (row 3 i)) ∧ W.alloc (.cells #[.int .i64 50, .int .i64 51] 3) = w' := by
  rcases Nat.lt_or_ge i 2 with h | h
  · exact pick_in i _ 2 _ _ h (by omega) (new_row W [50, 51] 3 i _ (by unfold row tab; exact (by decide : ∀ i < 2, [(50 : Int), (51 : Int)][i]? = some (List.getD [50, 51, 0, 0, 0, 0, 0, 0] i (0 : Int))) i h))
  · have e : row 3 i = 0 := by unfold row tab; exact (by decide : ∀ i < 8, 2 ≤ i → List.getD [50, 51, 0, 0, 0, 0, 0, 0] i (0 : Int) = 0) i h8 h
    rw [e]
    exact pick_out i _ 2 _ h h8
theorem pick_4 (i : Nat) (h8 : i < 8) (W : World) :
    Calls Try.prog 19 #[.int .u32 i, .slice (some ⟨W.heap.size, 0, none⟩) 8 8] (W.alloc (.cells #[.int .i64 22, .int .i64 0, .int .i64 23, .int .i64 24, .int .i64 25, .int .i64 0, .int .i64 26, .int .i64 27] 3)) fun e w' => e = .returned (.int .i64 (row 4 i)) ∧ W.alloc (.cells #[.int .i64 22, .int .i64 0, .int .i64 23, .int .i64 24, .int .i64 25, .int .i64 0, .int .i64 26, .int .i64 27] 3) = w' := by
  rcases Nat.lt_or_ge i 8 with h | h
  · exact pick_in i _ 8 _ _ h (by omega) (new_row W [22, 0, 23, 24, 25, 0, 26, 27] 3 i _ (by unfold row tab; exact (by decide : ∀ i < 8, [(22 : Int), (0 : Int), (23 : Int), (24 : Int), (25 : Int), (0 : Int), (26 : Int), (27 : Int)][i]? = some (List.getD [22, 0, 23, 24, 25, 0, 26, 27] i (0 : Int))) i h))
  · have e : row 4 i = 0 := by unfold row tab; exact (by decide : ∀ i < 8, 8 ≤ i → List.getD [22, 0, 23, 24, 25, 0, 26, 27] i (0 : Int) = 0) i h8 h
    rw [e]
    exact pick_out i _ 8 _ h h8
theorem pick_5 (i : Nat) (h8 : i < 8) (W : World) :
    Calls Try.prog 19 #[.int .u32 i, .slice (some ⟨W.heap.size, 0, none⟩) 8 8] (W.alloc (.cells #[.int .i64 31, .int .i64 33, .int .i64 34, .int .i64 35, .int .i64 36, .int .i64 37, .int .i64 39, .int .i64 40] 3)) fun e w' => e = .returned (.int .i64 (row 5 i)) ∧ W.alloc (.cells #[.int .i64 31, .int .i64 33, .int .i64 34, .int .i64 35, .int .i64 36, .int .i64 37, .int .i64 39, .int .i64 40] 3) = w' := by
  rcases Nat.lt_or_ge i 8 with h | h
  · exact pick_in i _ 8 _ _ h (by omega) (new_row W [31, 33, 34, 35, 36, 37, 39, 40] 3 i _ (by unfold row tab; exact (by decide : ∀ i < 8, [(31 : Int), (33 : Int), (34 : Int), (35 : Int), (36 : Int), (37 : Int), (39 : Int), (40 : Int)][i]? = some (List.getD [31, 33, 34, 35, 36, 37, 39, 40] i (0 : Int))) i h))
  · have e : row 5 i = 0 := by unfold row tab; exact (by decide : ∀ i < 8, 8 ≤ i → List.getD [31, 33, 34, 35, 36, 37, 39, 40] i (0 : Int) = 0) i h8 h
    rw [e]
    exact pick_out i _ 8 _ h h8
theorem pick_6 (i : Nat) (h8 : i < 8) (W : World) :
    Calls Try.prog 19 #[.int .u32 i, .slice (some ⟨W.heap.size, 0, none⟩) 8 8] (W.alloc (.cells #[.int .i64 60, .int .i64 61, .int .i64 62, .int .i64 63, .int .i64 64, .int .i64 65, .int .i64 66, .int .i64 67] 3)) fun e w' => e = .returned (.int .i64 (row 6 i)) ∧ W.alloc (.cells #[.int .i64 60, .int .i64 61, .int .i64 62, .int .i64 63, .int .i64 64, .int .i64 65, .int .i64 66, .int .i64 67] 3) = w' := by
  rcases Nat.lt_or_ge i 8 with h | h
  · exact pick_in i _ 8 _ _ h (by omega) (new_row W [60, 61, 62, 63, 64, 65, 66, 67] 3 i _ (by unfold row tab; exact (by decide : ∀ i < 8, [(60 : Int), (61 : Int), (62 : Int), (63 : Int), (64 : Int), (65 : Int), (66 : Int), (67 : Int)][i]? = some (List.getD [60, 61, 62, 63, 64, 65, 66, 67] i (0 : Int))) i h))
  · have e : row 6 i = 0 := by unfold row tab; exact (by decide : ∀ i < 8, 8 ≤ i → List.getD [60, 61, 62, 63, 64, 65, 66, 67] i (0 : Int) = 0) i h8 h
    rw [e]
    exact pick_out i _ 8 _ h h8
theorem pick_7 (i : Nat) (h8 : i < 8) (W : World) :
    Calls Try.prog 19 #[.int .u32 i, .slice (some ⟨W.heap.size, 0, none⟩) 6 6] (W.alloc (.cells #[.int .i64 32, .int .i64 0, .int .i64 0, .int .i64 0, .int .i64 0, .int .i64 38] 3)) fun e w' => e = .returned (.int .i64 (row 7 i)) ∧ W.alloc (.cells #[.int .i64 32, .int .i64 0, .int .i64 0, .int .i64 0, .int .i64 0, .int .i64 38] 3) = w' := by
  rcases Nat.lt_or_ge i 6 with h | h
  · exact pick_in i _ 6 _ _ h (by omega) (new_row W [32, 0, 0, 0, 0, 38] 3 i _ (by unfold row tab; exact (by decide : ∀ i < 6, [(32 : Int), (0 : Int), (0 : Int), (0 : Int), (0 : Int), (38 : Int)][i]? = some (List.getD [32, 0, 0, 0, 0, 38, 0, 0] i (0 : Int))) i h))
  · have e : row 7 i = 0 := by unfold row tab; exact (by decide : ∀ i < 8, 6 ≤ i → List.getD [32, 0, 0, 0, 0, 38, 0, 0] i (0 : Int) = 0) i h8 h
    rw [e]
    exact pick_out i _ 6 _ h h8
theorem pick_8 (i : Nat) (h8 : i < 8) (W : World) :
    Calls Try.prog 19 #[.int .u32 i, .slice (some ⟨W.heap.size, 0, none⟩) 6 6] (W.alloc (.cells #[.int .i64 45, .int .i64 47, .int .i64 0, .int .i64 0, .int .i64 0, .int .i64 48] 3)) fun e w' => e = .returned (.int .i64 (row 8 i)) ∧ W.alloc (.cells #[.int .i64 45, .int .i64 47, .int .i64 0, .int .i64 0, .int .i64 0, .int .i64 48] 3) = w' := by
  rcases Nat.lt_or_ge i 6 with h | h
  · exact pick_in i _ 6 _ _ h (by omega) (new_row W [45, 47, 0, 0, 0, 48] 3 i _ (by unfold row tab; exact (by decide : ∀ i < 6, [(45 : Int), (47 : Int), (0 : Int), (0 : Int), (0 : Int), (48 : Int)][i]? = some (List.getD [45, 47, 0, 0, 0, 48, 0, 0] i (0 : Int))) i h))
  · have e : row 8 i = 0 := by unfold row tab; exact (by decide : ∀ i < 8, 6 ≤ i → List.getD [45, 47, 0, 0, 0, 48, 0, 0] i (0 : Int) = 0) i h8 h
    rw [e]
    exact pick_out i _ 6 _ h h8
theorem pick_9 (i : Nat) (h8 : i < 8) (W : World) :
    Calls Try.prog 19 #[.int .u32 i, .slice (some ⟨W.heap.size, 0, none⟩) 8 8] (W.alloc (.cells #[.int .i64 68, .int .i64 0, .int .i64 0, .int .i64 0, .int .i64 69, .int .i64 70, .int .i64 71, .int .i64 72] 3)) fun e w' => e = .returned (.int .i64 (row 9 i)) ∧ W.alloc (.cells #[.int .i64 68, .int .i64 0, .int .i64 0, .int .i64 0, .int .i64 69, .int .i64 70, .int .i64 71, .int .i64 72] 3) = w' := by
  rcases Nat.lt_or_ge i 8 with h | h
  · exact pick_in i _ 8 _ _ h (by omega) (new_row W [68, 0, 0, 0, 69, 70, 71, 72] 3 i _ (by unfold row tab; exact (by decide : ∀ i < 8, [(68 : Int), (0 : Int), (0 : Int), (0 : Int), (69 : Int), (70 : Int), (71 : Int), (72 : Int)][i]? = some (List.getD [68, 0, 0, 0, 69, 70, 71, 72] i (0 : Int))) i h))
  · have e : row 9 i = 0 := by unfold row tab; exact (by decide : ∀ i < 8, 8 ≤ i → List.getD [68, 0, 0, 0, 69, 70, 71, 72] i (0 : Int) = 0) i h8 h
    rw [e]
    exact pick_out i _ 8 _ h h8
theorem pick_10 (i : Nat) (h8 : i < 8) (W : World) :
    Calls Try.prog 19 #[.int .u32 i, .slice (some ⟨W.heap.size, 0, none⟩) 6 6] (W.alloc (.cells #[.int .i64 46, .int .i64 0, .int .i64 0, .int .i64 0, .int .i64 0, .int .i64 49] 3)) fun e w' => e = .returned (.int .i64 (row 10 i)) ∧ W.alloc (.cells #[.int .i64 46, .int .i64 0, .int .i64 0, .int .i64 0, .int .i64 0, .int .i64 49] 3) = w' := by
  rcases Nat.lt_or_ge i 6 with h | h
  · exact pick_in i _ 6 _ _ h (by omega) (new_row W [46, 0, 0, 0, 0, 49] 3 i _ (by unfold row tab; exact (by decide : ∀ i < 6, [(46 : Int), (0 : Int), (0 : Int), (0 : Int), (0 : Int), (49 : Int)][i]? = some (List.getD [46, 0, 0, 0, 0, 49, 0, 0] i (0 : Int))) i h))
  · have e : row 10 i = 0 := by unfold row tab; exact (by decide : ∀ i < 8, 6 ≤ i → List.getD [46, 0, 0, 0, 0, 49, 0, 0] i (0 : Int) = 0) i h8 h
    rw [e]
    exact pick_out i _ 6 _ h h8
theorem pick_11 (i : Nat) (h8 : i < 8) (W : World) :
    Calls Try.prog 19 #[.int .u32 i, .slice (some ⟨W.heap.size, 0, none⟩) 8 8] (W.alloc (.cells #[.int .i64 0, .int .i64 54, .int .i64 55, .int .i64 56, .int .i64 0, .int .i64 57, .int .i64 58, .int .i64 59] 3)) fun e w' => e = .returned (.int .i64 (row 11 i)) ∧ W.alloc (.cells #[.int .i64 0, .int .i64 54, .int .i64 55, .int .i64 56, .int .i64 0, .int .i64 57, .int .i64 58, .int .i64 59] 3) = w' := by
  rcases Nat.lt_or_ge i 8 with h | h
  · exact pick_in i _ 8 _ _ h (by omega) (new_row W [0, 54, 55, 56, 0, 57, 58, 59] 3 i _ (by unfold row tab; exact (by decide : ∀ i < 8, [(0 : Int), (54 : Int), (55 : Int), (56 : Int), (0 : Int), (57 : Int), (58 : Int), (59 : Int)][i]? = some (List.getD [0, 54, 55, 56, 0, 57, 58, 59] i (0 : Int))) i h))
  · have e : row 11 i = 0 := by unfold row tab; exact (by decide : ∀ i < 8, 8 ≤ i → List.getD [0, 54, 55, 56, 0, 57, 58, 59] i (0 : Int) = 0) i h8 h
    rw [e]
    exact pick_out i _ 8 _ h h8
theorem pick_12 (i : Nat) (h8 : i < 8) (W : World) :
    Calls Try.prog 19 #[.int .u32 i, .slice (some ⟨W.heap.size, 0, none⟩) 1 1] (W.alloc (.cells #[.int .i64 4] 3)) fun e w' => e = .returned (.int .i64 (r4 i)) ∧ W.alloc (.cells #[.int .i64 4] 3) = w' := by
  rcases Nat.lt_or_ge i 1 with h | h
  · exact pick_in i _ 1 _ _ h (by omega) (new_row W [4] 3 i _ (by have : i = 0 := by omega
                                                                  subst this; rfl))
  · have e : r4 i = 0 := by unfold r4; exact if_neg (by omega)
    rw [e]
    exact pick_out i _ 1 _ h h8
theorem and_high (w : Nat) (h : w < 4294967296) : w &&& 4294963200 = cutN w 12 20 * 4096 := by
  have e : cutN w 12 20 * 4096 = w / 2 ^ 12 * 2 ^ 12 := by unfold cutN; omega
  rw [e, show (4294963200 : Nat) = (2 ^ 20 - 1) * 2 ^ 12 by decide]
  apply Nat.eq_of_testBit_eq
  intro i
  rw [Nat.testBit_and, Nat.testBit_mul_two_pow, Nat.testBit_mul_two_pow, Nat.testBit_two_pow_sub_one, Nat.testBit_div_two_pow]
  by_cases h1 : 12 ≤ i
  · rw [show i - 12 + 12 = i by omega]
    by_cases h2 : i - 12 < 20
    · simp [h1, h2]
    · have : w.testBit i = false := Nat.testBit_lt_two_pow (Nat.lt_of_lt_of_le h (by
        have : (2 : Nat) ^ 32 ≤ 2 ^ i := Nat.pow_le_pow_right (by omega) (by omega)
        omega))
      simp [this]
  · simp [h1]
theorem wide_I (w : Nat) (h : w < 4294967296) : wideI (w / 1048576) 12 = immI w := by
  unfold wideI immI cutN
  split <;> simp at * <;> omega
theorem wide_S (w : Nat) : wideI (cutN w 25 7 * 32 + cutN w 7 5) 12 = immS w := by
  have h1 := lt_7_5 w
  have h2 : cutN w 31 1 = cutN w 25 7 / 64 := by unfold cutN; omega
  unfold wideI immS
  rw [h2]
  have h3 := lt_25_7 w
  split <;> simp at * <;> omega
theorem wide_B (w : Nat) : wideI (cutN w 31 1 * 4096 + cutN w 7 1 * 2048 + cutN w 25 6 * 32 + cutN w 8 4 * 2) 13 = immB w := by
  have h1 := lt_31_1 w
  have h2 := lt_7_1 w
  have h3 := lt_25_6 w
  have h4 := lt_8_4 w
  unfold wideI immB
  split <;> simp at * <;> omega
theorem wide_J (w : Nat) : wideI (cutN w 31 1 * 1048576 + cutN w 12 8 * 4096 + cutN w 20 1 * 2048 + cutN w 21 10 * 2) 21 = immJ w := by
  have h1 := lt_31_1 w
  have h2 := lt_12_8 w
  have h3 := lt_20_1 w
  have h4 := lt_21_10 w
  unfold wideI immJ
  split <;> simp at * <;> omega
set_option maxHeartbeats 400000 in
theorem rbranch_any (w : Nat) (W : World) (hw : w < 4294967296) :
    Calls Try.prog 21 #[.int .u32 w] W fun e W' => e = .returned (.int .i64 (immB w)) ∧ W = W' := by
  have l31_1 := lt_31_1 w
  have l7_1 := lt_7_1 w
  have l25_6 := lt_25_6 w
  have l8_4 := lt_8_4 w
  obtain ⟨n1, hn1⟩ : ∃ n : Nat, n = cutN w 31 1 * 4096 + cutN w 7 1 * 2048 := ⟨_, rfl⟩
  have E1 : bits .or .u32 (((cutN w 31 1 : Nat) : Int) * 4096) (((cutN w 7 1 : Nat) : Int) * 2048) = (n1 : Int) := by
    have h := or_u32 (a := cutN w 31 1 * 1) (b := cutN w 7 1 * 2048) 12 (by omega) (by omega)
    rw [show (cutN w 31 1 * 1) * 2 ^ 12 = cutN w 31 1 * 4096 by omega] at h
    rw [hn1, show ((cutN w 7 1 : Nat) : Int) * 2048 = ((cutN w 7 1 * 2048 : Nat) : Int) by omega]
    rw [show ((cutN w 31 1 : Nat) : Int) * 4096 = ((cutN w 31 1 * 4096 : Nat) : Int) by omega]
    exact h
  obtain ⟨n2, hn2⟩ : ∃ n : Nat, n = cutN w 31 1 * 4096 + cutN w 7 1 * 2048 + cutN w 25 6 * 32 := ⟨_, rfl⟩
  have E2 : bits .or .u32 ((n1 : Int)) (((cutN w 25 6 : Nat) : Int) * 32) = (n2 : Int) := by
    have h := or_u32 (a := cutN w 31 1 * 2 + cutN w 7 1 * 1) (b := cutN w 25 6 * 32) 11 (by omega) (by omega)
    rw [show (cutN w 31 1 * 2 + cutN w 7 1 * 1) * 2 ^ 11 = cutN w 31 1 * 4096 + cutN w 7 1 * 2048 by omega] at h
    rw [hn2, show ((cutN w 25 6 : Nat) : Int) * 32 = ((cutN w 25 6 * 32 : Nat) : Int) by omega]
    rw [hn1]
    exact h
  obtain ⟨n3, hn3⟩ : ∃ n : Nat, n = cutN w 31 1 * 4096 + cutN w 7 1 * 2048 + cutN w 25 6 * 32 + cutN w 8 4 * 2 := ⟨_, rfl⟩
  have E3 : bits .or .u32 ((n2 : Int)) (((cutN w 8 4 : Nat) : Int) * 2) = (n3 : Int) := by
    have h := or_u32 (a := cutN w 31 1 * 128 + cutN w 7 1 * 64 + cutN w 25 6 * 1) (b := cutN w 8 4 * 2) 5 (by omega) (by omega)
    rw [show (cutN w 31 1 * 128 + cutN w 7 1 * 64 + cutN w 25 6 * 1) * 2 ^ 5 = cutN w 31 1 * 4096 + cutN w 7 1 * 2048 + cutN w 25 6 * 32 by omega] at h
    rw [hn3, show ((cutN w 8 4 : Nat) : Int) * 2 = ((cutN w 8 4 * 2 : Nat) : Int) by omega]
    rw [hn2]
    exact h
  have hb : n3 < 8192 := by omega
  have HI := Lib.hid (show wideI n3 13 = immB w by rw [hn3]; exact wide_B w)
  clear hn1 hn2 hn3
  go_enter Try.func21, Try.ntmps21
  go_wp2_with (first | (go_at_call 17; (first | (with_reducible refine (cut_31_1 w _ hw).mono ?_) | (with_reducible refine (cut_7_1 w _ hw).mono ?_) | (with_reducible refine (cut_25_6 w _ hw).mono ?_) | (with_reducible refine (cut_8_4 w _ hw).mono ?_) | fail); rintro e w' ⟨rfl, rfl⟩) | (go_at_call 20; (with_reducible refine (wide13 _ _ hb).mono ?_); rintro e w' ⟨rfl, rfl⟩) | fail)
  go_ret
  exact ⟨ret_int HI.out, rfl⟩
set_option maxHeartbeats 400000 in
theorem rjump_any (w : Nat) (W : World) (hw : w < 4294967296) :
    Calls Try.prog 18 #[.int .u32 w] W fun e W' => e = .returned (.int .i64 (immJ w)) ∧ W = W' := by
  have l31_1 := lt_31_1 w
  have l12_8 := lt_12_8 w
  have l20_1 := lt_20_1 w
  have l21_10 := lt_21_10 w
  obtain ⟨n1, hn1⟩ : ∃ n : Nat, n = cutN w 31 1 * 1048576 + cutN w 12 8 * 4096 := ⟨_, rfl⟩
  have E1 : bits .or .u32 (((cutN w 31 1 : Nat) : Int) * 1048576) (((cutN w 12 8 : Nat) : Int) * 4096) = (n1 : Int) := by
    have h := or_u32 (a := cutN w 31 1 * 1) (b := cutN w 12 8 * 4096) 20 (by omega) (by omega)
    rw [show (cutN w 31 1 * 1) * 2 ^ 20 = cutN w 31 1 * 1048576 by omega] at h
    rw [hn1, show ((cutN w 12 8 : Nat) : Int) * 4096 = ((cutN w 12 8 * 4096 : Nat) : Int) by omega]
    rw [show ((cutN w 31 1 : Nat) : Int) * 1048576 = ((cutN w 31 1 * 1048576 : Nat) : Int) by omega]
    exact h
  obtain ⟨n2, hn2⟩ : ∃ n : Nat, n = cutN w 31 1 * 1048576 + cutN w 12 8 * 4096 + cutN w 20 1 * 2048 := ⟨_, rfl⟩
  have E2 : bits .or .u32 ((n1 : Int)) (((cutN w 20 1 : Nat) : Int) * 2048) = (n2 : Int) := by
    have h := or_u32 (a := cutN w 31 1 * 256 + cutN w 12 8 * 1) (b := cutN w 20 1 * 2048) 12 (by omega) (by omega)
    rw [show (cutN w 31 1 * 256 + cutN w 12 8 * 1) * 2 ^ 12 = cutN w 31 1 * 1048576 + cutN w 12 8 * 4096 by omega] at h
    rw [hn2, show ((cutN w 20 1 : Nat) : Int) * 2048 = ((cutN w 20 1 * 2048 : Nat) : Int) by omega]
    rw [hn1]
    exact h
  obtain ⟨n3, hn3⟩ : ∃ n : Nat, n = cutN w 31 1 * 1048576 + cutN w 12 8 * 4096 + cutN w 20 1 * 2048 + cutN w 21 10 * 2 := ⟨_, rfl⟩
  have E3 : bits .or .u32 ((n2 : Int)) (((cutN w 21 10 : Nat) : Int) * 2) = (n3 : Int) := by
    have h := or_u32 (a := cutN w 31 1 * 512 + cutN w 12 8 * 2 + cutN w 20 1 * 1) (b := cutN w 21 10 * 2) 11 (by omega) (by omega)
    rw [show (cutN w 31 1 * 512 + cutN w 12 8 * 2 + cutN w 20 1 * 1) * 2 ^ 11 = cutN w 31 1 * 1048576 + cutN w 12 8 * 4096 + cutN w 20 1 * 2048 by omega] at h
    rw [hn3, show ((cutN w 21 10 : Nat) : Int) * 2 = ((cutN w 21 10 * 2 : Nat) : Int) by omega]
    rw [hn2]
    exact h
  have hb : n3 < 2097152 := by omega
  have HI := Lib.hid (show wideI n3 21 = immJ w by rw [hn3]; exact wide_J w)
  clear hn1 hn2 hn3
  go_enter Try.func18, Try.ntmps18
  go_wp2_with (first | (go_at_call 17; (first | (with_reducible refine (cut_31_1 w _ hw).mono ?_) | (with_reducible refine (cut_12_8 w _ hw).mono ?_) | (with_reducible refine (cut_20_1 w _ hw).mono ?_) | (with_reducible refine (cut_21_10 w _ hw).mono ?_) | fail); rintro e w' ⟨rfl, rfl⟩) | (go_at_call 20; (with_reducible refine (wide21 _ _ hb).mono ?_); rintro e w' ⟨rfl, rfl⟩) | fail)
  go_ret
  exact ⟨ret_int HI.out, rfl⟩
end Go.Proofs.Ytdodbfpahmkpbaa
