/- Small functions: a bit, with a bit, the first of the interrupts. -/
import Derived.Test.YtjohcpokmdofkaaGreatDoorYTS
namespace Go.Proofs.YtjohcpokmdofkaaGreatDoor.Tr
open Go.RowKit Go.Deep Go.Joins
set_option maxRecDepth 100000
def wV (n b : Int) (on : Bool) : Int := if on = true then bits .or .u64 n b else bits .andNot .u64 n b
/-- Is the bit of weight b set? -/
def bV (n b : Int) : Bool := bits .and .u64 (n / b) 1 == 1
def nzV (n m : Int) : Bool := bits .and .u64 n m != 0
theorem with_any (n b : Int) (on : Bool) (W : World) : Calls Tryz.prog 89 #[.int .u64 n, .int .u64 b, .bool on] W fun e W' => e = .returned (.int .u64 (wV n b on)) ∧ W = W' := by
  cases on
  all_goals
    go_enter Tryz.func89, Tryz.ntmps89
    go_wp2
    go_ret
    exact ⟨rfl, rfl⟩
def firstV (n : Int) : Int := if (bits .and .u64 (n / 2048) 1 != 0) = true then 11 else if (bits .and .u64 (n / 8) 1 != 0) = true then 3 else if (bits .and .u64 (n / 128) 1 != 0) = true then 7 else if (bits .and .u64 (n / 512) 1 != 0) = true then 9 else if (bits .and .u64 (n / 2) 1 != 0) = true then 1 else if (bits .and .u64 (n / 32) 1 != 0) = true then 5 else -1
def firstL (n : Int) : List Bool := [(bits .and .u64 (n / 2048) 1 != 0), (bits .and .u64 (n / 8) 1 != 0), (bits .and .u64 (n / 128) 1 != 0), (bits .and .u64 (n / 512) 1 != 0), (bits .and .u64 (n / 2) 1 != 0), (bits .and .u64 (n / 32) 1 != 0)]
def firstNo (n : Int) (k : Nat) : Prop := ∀ j, j < k → (firstL n).getD j false = false
set_option maxHeartbeats 1000000 in
theorem first_any (n : Int) (W : World) : Calls Tryz.prog 61 #[.int .u64 n] W fun e W' => e = .returned (.int .i64 (firstV n)) ∧ W = W' := by
  have i0 : ∀ w : World, (Instr.index 115 (.agg #[.int .i64 11, .int .i64 3, .int .i64 7, .int .i64 9, .int .i64 1, .int .i64 5]) (.int .i64 0)).run Tryz.prog w = .ok (.int .i64 11) w := fun _ => by kernel_rfl
  have i1 : ∀ w : World, (Instr.index 115 (.agg #[.int .i64 11, .int .i64 3, .int .i64 7, .int .i64 9, .int .i64 1, .int .i64 5]) (.int .i64 1)).run Tryz.prog w = .ok (.int .i64 3) w := fun _ => by kernel_rfl
  have i2 : ∀ w : World, (Instr.index 115 (.agg #[.int .i64 11, .int .i64 3, .int .i64 7, .int .i64 9, .int .i64 1, .int .i64 5]) (.int .i64 2)).run Tryz.prog w = .ok (.int .i64 7) w := fun _ => by kernel_rfl
  have i3 : ∀ w : World, (Instr.index 115 (.agg #[.int .i64 11, .int .i64 3, .int .i64 7, .int .i64 9, .int .i64 1, .int .i64 5]) (.int .i64 3)).run Tryz.prog w = .ok (.int .i64 9) w := fun _ => by kernel_rfl
  have i4 : ∀ w : World, (Instr.index 115 (.agg #[.int .i64 11, .int .i64 3, .int .i64 7, .int .i64 9, .int .i64 1, .int .i64 5]) (.int .i64 4)).run Tryz.prog w = .ok (.int .i64 1) w := fun _ => by kernel_rfl
  have i5 : ∀ w : World, (Instr.index 115 (.agg #[.int .i64 11, .int .i64 3, .int .i64 7, .int .i64 9, .int .i64 1, .int .i64 5]) (.int .i64 5)).run Tryz.prog w = .ok (.int .i64 5) w := fun _ => by kernel_rfl
  go_enter Tryz.func61, Tryz.ntmps61
  go_wp2
  go_loop [6] (fun i => ∃ k : Nat, k ≤ 6 ∧ i = .int .i64 k ∧ firstNo n k) (fun i => 6 - (intOf i).toNat)
  case atStart => exact ⟨0, by omega, rfl, fun j hj => absurd hj (by omega)⟩
  case round =>
    obtain ⟨k, hk, rfl, hn⟩ := hrel
    have HN := Lib.hid hn
    clear hn
    match k, hk, HN with
    | 0, _, HN =>
      rcases Bool.eq_false_or_eq_true ((bits .and .u64 (n / 2048) 1 != 0)) with h | h
      · have HE : RowKit.Hid (firstV n = 11) := Lib.hid (by unfold firstV; simp only [h, if_true])
        go_wp2
        go_ret
        exact ⟨ret_int HE.out.symm, rfl⟩
      · have HS : RowKit.Hid (firstNo n 1) := Lib.hid fun j hj => by
          by_cases e : j = 0
          · subst e; exact h
          · exact HN.out j (by omega)
        go_wp2
        go_round
        case rel => exact ⟨1, by omega, rfl, HS.out⟩
        case measure => simp [intOf]
    | 1, _, HN =>
      have E0 : RowKit.Hid ((bits .and .u64 (n / 2048) 1 != 0) = false) := Lib.hid (HN.out 0 (by omega))
      rcases Bool.eq_false_or_eq_true ((bits .and .u64 (n / 8) 1 != 0)) with h | h
      · have HE : RowKit.Hid (firstV n = 3) := Lib.hid (by unfold firstV; simp only [E0.out, h, if_true, if_false, Bool.false_eq_true])
        go_wp2
        go_ret
        exact ⟨ret_int HE.out.symm, rfl⟩
      · have HS : RowKit.Hid (firstNo n 2) := Lib.hid fun j hj => by
          by_cases e : j = 1
          · subst e; exact h
          · exact HN.out j (by omega)
        go_wp2
        go_round
        case rel => exact ⟨2, by omega, rfl, HS.out⟩
        case measure => simp [intOf]
    | 2, _, HN =>
      have E0 : RowKit.Hid ((bits .and .u64 (n / 2048) 1 != 0) = false) := Lib.hid (HN.out 0 (by omega))
      have E1 : RowKit.Hid ((bits .and .u64 (n / 8) 1 != 0) = false) := Lib.hid (HN.out 1 (by omega))
      rcases Bool.eq_false_or_eq_true ((bits .and .u64 (n / 128) 1 != 0)) with h | h
      · have HE : RowKit.Hid (firstV n = 7) := Lib.hid (by unfold firstV; simp only [E0.out, E1.out, h, if_true, if_false, Bool.false_eq_true])
        go_wp2
        go_ret
        exact ⟨ret_int HE.out.symm, rfl⟩
      · have HS : RowKit.Hid (firstNo n 3) := Lib.hid fun j hj => by
          by_cases e : j = 2
          · subst e; exact h
          · exact HN.out j (by omega)
        go_wp2
        go_round
        case rel => exact ⟨3, by omega, rfl, HS.out⟩
        case measure => simp [intOf]
    | 3, _, HN =>
      have E0 : RowKit.Hid ((bits .and .u64 (n / 2048) 1 != 0) = false) := Lib.hid (HN.out 0 (by omega))
      have E1 : RowKit.Hid ((bits .and .u64 (n / 8) 1 != 0) = false) := Lib.hid (HN.out 1 (by omega))
      have E2 : RowKit.Hid ((bits .and .u64 (n / 128) 1 != 0) = false) := Lib.hid (HN.out 2 (by omega))
      rcases Bool.eq_false_or_eq_true ((bits .and .u64 (n / 512) 1 != 0)) with h | h
      · have HE : RowKit.Hid (firstV n = 9) := Lib.hid (by unfold firstV; simp only [E0.out, E1.out, E2.out, h, if_true, if_false, Bool.false_eq_true])
        go_wp2
        go_ret
        exact ⟨ret_int HE.out.symm, rfl⟩
      · have HS : RowKit.Hid (firstNo n 4) := Lib.hid fun j hj => by
          by_cases e : j = 3
          · subst e; exact h
          · exact HN.out j (by omega)
        go_wp2
        go_round
        case rel => exact ⟨4, by omega, rfl, HS.out⟩
        case measure => simp [intOf]
    | 4, _, HN =>
      have E0 : RowKit.Hid ((bits .and .u64 (n / 2048) 1 != 0) = false) := Lib.hid (HN.out 0 (by omega))
      have E1 : RowKit.Hid ((bits .and .u64 (n / 8) 1 != 0) = false) := Lib.hid (HN.out 1 (by omega))
      have E2 : RowKit.Hid ((bits .and .u64 (n / 128) 1 != 0) = false) := Lib.hid (HN.out 2 (by omega))
      have E3 : RowKit.Hid ((bits .and .u64 (n / 512) 1 != 0) = false) := Lib.hid (HN.out 3 (by omega))
      rcases Bool.eq_false_or_eq_true ((bits .and .u64 (n / 2) 1 != 0)) with h | h
      · have HE : RowKit.Hid (firstV n = 1) := Lib.hid (by unfold firstV; simp only [E0.out, E1.out, E2.out, E3.out, h, if_true, if_false, Bool.false_eq_true])
        go_wp2
        go_ret
        exact ⟨ret_int HE.out.symm, rfl⟩
      · have HS : RowKit.Hid (firstNo n 5) := Lib.hid fun j hj => by
          by_cases e : j = 4
          · subst e; exact h
          · exact HN.out j (by omega)
        go_wp2
        go_round
        case rel => exact ⟨5, by omega, rfl, HS.out⟩
        case measure => simp [intOf]
    | 5, _, HN =>
      have E0 : RowKit.Hid ((bits .and .u64 (n / 2048) 1 != 0) = false) := Lib.hid (HN.out 0 (by omega))
      have E1 : RowKit.Hid ((bits .and .u64 (n / 8) 1 != 0) = false) := Lib.hid (HN.out 1 (by omega))
      have E2 : RowKit.Hid ((bits .and .u64 (n / 128) 1 != 0) = false) := Lib.hid (HN.out 2 (by omega))
      have E3 : RowKit.Hid ((bits .and .u64 (n / 512) 1 != 0) = false) := Lib.hid (HN.out 3 (by omega))
      have E4 : RowKit.Hid ((bits .and .u64 (n / 2) 1 != 0) = false) := Lib.hid (HN.out 4 (by omega))
      rcases Bool.eq_false_or_eq_true ((bits .and .u64 (n / 32) 1 != 0)) with h | h
      · have HE : RowKit.Hid (firstV n = 5) := Lib.hid (by unfold firstV; simp only [E0.out, E1.out, E2.out, E3.out, E4.out, h, if_true, if_false, Bool.false_eq_true])
        go_wp2
        go_ret
        exact ⟨ret_int HE.out.symm, rfl⟩
      · have HS : RowKit.Hid (firstNo n 6) := Lib.hid fun j hj => by
          by_cases e : j = 5
          · subst e; exact h
          · exact HN.out j (by omega)
        go_wp2
        go_round
        case rel => exact ⟨6, by omega, rfl, HS.out⟩
        case measure => simp [intOf]
    | 6, _, HN =>
      have E0 : RowKit.Hid ((bits .and .u64 (n / 2048) 1 != 0) = false) := Lib.hid (HN.out 0 (by omega))
      have E1 : RowKit.Hid ((bits .and .u64 (n / 8) 1 != 0) = false) := Lib.hid (HN.out 1 (by omega))
      have E2 : RowKit.Hid ((bits .and .u64 (n / 128) 1 != 0) = false) := Lib.hid (HN.out 2 (by omega))
      have E3 : RowKit.Hid ((bits .and .u64 (n / 512) 1 != 0) = false) := Lib.hid (HN.out 3 (by omega))
      have E4 : RowKit.Hid ((bits .and .u64 (n / 2) 1 != 0) = false) := Lib.hid (HN.out 4 (by omega))
      have E5 : RowKit.Hid ((bits .and .u64 (n / 32) 1 != 0) = false) := Lib.hid (HN.out 5 (by omega))
      have HE : RowKit.Hid (firstV n = -1) := Lib.hid (by unfold firstV; simp only [E0.out, E1.out, E2.out, E3.out, E4.out, E5.out, if_false, Bool.false_eq_true])
      go_wp2
      go_ret
      exact ⟨ret_int HE.out.symm, rfl⟩
def rfirstV (n : Int) : Int := if bV n 2048 = true then 11 else if bV n 8 = true then 3 else if bV n 128 = true then 7 else if bV n 512 = true then 9 else if bV n 2 = true then 1 else if bV n 32 = true then 5 else -1
def rfirstL (n : Int) : List Bool := [bV n 2048, bV n 8, bV n 128, bV n 512, bV n 2, bV n 32]
def rfirstNo (n : Int) (k : Nat) : Prop := ∀ j, j < k → (rfirstL n).getD j false = false
end Go.Proofs.YtjohcpokmdofkaaGreatDoor.Tr
