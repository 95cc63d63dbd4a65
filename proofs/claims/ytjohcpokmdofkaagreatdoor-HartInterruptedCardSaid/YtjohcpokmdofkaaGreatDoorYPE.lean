/- Lines. -/
import Derived.Test.YtjohcpokmdofkaaGreatDoorYPC
namespace Go.Proofs.YtjohcpokmdofkaaGreatDoor.Pc
open Go.RowKit Go.Deep Go.Joins
def linesF (h : Pl) (s : Int) : Int := bits .or .u64 (if bestF h s 0 = 0 then 0 else 2048) (if bestF h s 1 = 0 then 0 else 512)
theorem or_none (x : Int) (h : x = 0 ∨ x = 2048) : bits .or .u64 x 0 = x := by rcases h with rfl | rfl <;> decide +kernel
theorem stepB_fst (m : Bool) (k q : Int) (x : Int × Int) (hk : 0 ≤ k ∧ k ≤ 3) (hx : 0 ≤ x.1 ∧ x.1 ≤ 3) : 0 ≤ (stepB m k q x).1 ∧ (stepB m k q x).1 ≤ 3 := by
  unfold stepB
  split
  · exact hk
  · exact hx
theorem st_range (h : Pl) (s e l : Int) : 0 ≤ (stB h s e l 4).1 ∧ (stB h s e l 4).1 ≤ 3 :=
  stepB_fst _ _ _ _ (by omega) (stepB_fst _ _ _ _ (by omega) (stepB_fst _ _ _ _ (by omega) ⟨by show (0 : Int) ≤ 0; omega, by show (0 : Int) ≤ 3; omega⟩))
theorem best_range (h : Pl) (s who : Int) : 0 ≤ bestF h s who ∧ bestF h s who ≤ 3 := by
  unfold bestF
  split
  · exact st_range h s _ _
  · split
    · exact st_range h s _ _
    · omega
set_option maxHeartbeats 1000000 in
theorem lines_11 (h : Pl) (s : Int) (n0 : bestF h s 0 = 0) (n1 : bestF h s 1 = 0) (W : World) : Calls Tryz.prog 36 #[plV h, .int .u32 s] W fun e W' => e = .returned (.int .u64 (linesF h s)) ∧ Below W.heap.size W W' := by
  have HE : RowKit.Hid (linesF h s = 0) := Lib.hid (by unfold linesF; rw [if_pos n0, if_pos n1] <;> decide +kernel)
  have q0 := best_any h s 0
  have q1 := best_any h s 1
  rw [n0] at q0
  rw [n1] at q1
  have Q0 := Lib.hid q0
  have Q1 := Lib.hid q1
  clear q0 q1
  go_enter Tryz.func36, Tryz.ntmps36
  go_wp2_with (first | (with_reducible refine wpList_load_by rfl rfl (Box.load ((Box.new W h).next k1)) rfl ?_) | (with_reducible refine wpList_load_by rfl rfl (Box.load (Box.new W h)) rfl ?_) | (go_at_call 59; (with_reducible refine (Q0.out _).mono ?_); rintro e w1 ⟨rfl, k1⟩) | (go_at_call 59; (with_reducible refine (Q1.out _).mono ?_); rintro e w2 ⟨rfl, k2⟩) | fail)
  go_ret
  exact ⟨ret_int HE.out.symm, below_then (below_then ((Below.refl _ _).alloc (Nat.le_refl _) _) (Nat.le_refl _) k1) (Nat.le_refl _) k2⟩
set_option maxHeartbeats 1000000 in
theorem lines_10 (h : Pl) (s : Int) (n0 : bestF h s 0 = 0) (n1 : 0 < bestF h s 1) (W : World) : Calls Tryz.prog 36 #[plV h, .int .u32 s] W fun e W' => e = .returned (.int .u64 (linesF h s)) ∧ Below W.heap.size W W' := by
  have HE : RowKit.Hid (linesF h s = bits .or .u64 0 512) := Lib.hid (by unfold linesF; rw [if_pos n0, if_neg (by omega)] <;> decide +kernel)
  have q0 := best_any h s 0
  have q1 := best_any h s 1
  rw [n0] at q0
  have e1 : (bestF h s 1 != 0) = true := by rw [bne_iff_ne]; omega
  generalize bestF h s 1 = x1 at *
  have Q0 := Lib.hid q0
  have Q1 := Lib.hid q1
  clear q0 q1
  go_enter Tryz.func36, Tryz.ntmps36
  go_wp2_with (first | (with_reducible refine wpList_load_by rfl rfl (Box.load ((Box.new W h).next k1)) rfl ?_) | (with_reducible refine wpList_load_by rfl rfl (Box.load (Box.new W h)) rfl ?_) | (go_at_call 59; (with_reducible refine (Q0.out _).mono ?_); rintro e w1 ⟨rfl, k1⟩) | (go_at_call 59; (with_reducible refine (Q1.out _).mono ?_); rintro e w2 ⟨rfl, k2⟩) | fail)
  go_ret
  exact ⟨ret_int HE.out.symm, below_then (below_then ((Below.refl _ _).alloc (Nat.le_refl _) _) (Nat.le_refl _) k1) (Nat.le_refl _) k2⟩
set_option maxHeartbeats 1000000 in
theorem lines_01 (h : Pl) (s : Int) (n0 : 0 < bestF h s 0) (n1 : bestF h s 1 = 0) (W : World) : Calls Tryz.prog 36 #[plV h, .int .u32 s] W fun e W' => e = .returned (.int .u64 (linesF h s)) ∧ Below W.heap.size W W' := by
  have HE : RowKit.Hid (linesF h s = bits .or .u64 0 2048) := Lib.hid (by unfold linesF; rw [if_neg (by omega), if_pos n1] <;> decide +kernel)
  have q0 := best_any h s 0
  have q1 := best_any h s 1
  have e0 : (bestF h s 0 != 0) = true := by rw [bne_iff_ne]; omega
  generalize bestF h s 0 = x0 at *
  rw [n1] at q1
  have Q0 := Lib.hid q0
  have Q1 := Lib.hid q1
  clear q0 q1
  go_enter Tryz.func36, Tryz.ntmps36
  go_wp2_with (first | (with_reducible refine wpList_load_by rfl rfl (Box.load ((Box.new W h).next k1)) rfl ?_) | (with_reducible refine wpList_load_by rfl rfl (Box.load (Box.new W h)) rfl ?_) | (go_at_call 59; (with_reducible refine (Q0.out _).mono ?_); rintro e w1 ⟨rfl, k1⟩) | (go_at_call 59; (with_reducible refine (Q1.out _).mono ?_); rintro e w2 ⟨rfl, k2⟩) | fail)
  go_ret
  exact ⟨ret_int HE.out.symm, below_then (below_then ((Below.refl _ _).alloc (Nat.le_refl _) _) (Nat.le_refl _) k1) (Nat.le_refl _) k2⟩
set_option maxHeartbeats 1000000 in
theorem lines_00 (h : Pl) (s : Int) (n0 : 0 < bestF h s 0) (n1 : 0 < bestF h s 1) (W : World) : Calls Tryz.prog 36 #[plV h, .int .u32 s] W fun e W' => e = .returned (.int .u64 (linesF h s)) ∧ Below W.heap.size W W' := by
  have HE : RowKit.Hid (linesF h s = bits .or .u64 (bits .or .u64 0 2048) 512) := Lib.hid (by unfold linesF; rw [if_neg (by omega), if_neg (by omega)] <;> decide +kernel)
  have q0 := best_any h s 0
  have q1 := best_any h s 1
  have e0 : (bestF h s 0 != 0) = true := by rw [bne_iff_ne]; omega
  generalize bestF h s 0 = x0 at *
  have e1 : (bestF h s 1 != 0) = true := by rw [bne_iff_ne]; omega
  generalize bestF h s 1 = x1 at *
  have Q0 := Lib.hid q0
  have Q1 := Lib.hid q1
  clear q0 q1
  go_enter Tryz.func36, Tryz.ntmps36
  go_wp2_with (first | (with_reducible refine wpList_load_by rfl rfl (Box.load ((Box.new W h).next k1)) rfl ?_) | (with_reducible refine wpList_load_by rfl rfl (Box.load (Box.new W h)) rfl ?_) | (go_at_call 59; (with_reducible refine (Q0.out _).mono ?_); rintro e w1 ⟨rfl, k1⟩) | (go_at_call 59; (with_reducible refine (Q1.out _).mono ?_); rintro e w2 ⟨rfl, k2⟩) | fail)
  go_ret
  exact ⟨ret_int HE.out.symm, below_then (below_then ((Below.refl _ _).alloc (Nat.le_refl _) _) (Nat.le_refl _) k1) (Nat.le_refl _) k2⟩
theorem lines_any (h : Pl) (s : Int) (W : World) : Calls Tryz.prog 36 #[plV h, .int .u32 s] W fun e W' => e = .returned (.int .u64 (linesF h s)) ∧ Below W.heap.size W W' := by
  have r0 := best_range h s 0
  have r1 := best_range h s 1
  by_cases n0 : bestF h s 0 = 0
  · by_cases n1 : bestF h s 1 = 0
    · exact lines_11 h s n0 n1 W
    · exact lines_10 h s n0 (by omega) W
  · by_cases n1 : bestF h s 1 = 0
    · exact lines_01 h s (by omega) n1 W
    · exact lines_00 h s (by omega) (by omega) W
end Go.Proofs.YtjohcpokmdofkaaGreatDoor.Pc
