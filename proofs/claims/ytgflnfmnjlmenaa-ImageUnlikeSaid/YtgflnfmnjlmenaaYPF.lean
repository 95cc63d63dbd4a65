/- Small functions of both sides. Right of both sides. -/
import Derived.Test.YtgflnfmnjlmenaaYPC
namespace Go.Proofs.Ytgflnfmnjlmenaa.Pc
open Go.RowKit Go.Deep Go.Joins
set_option maxRecDepth 100000
set_option maxHeartbeats 1000000 in
theorem only_any (x : Int) (W : World) : Calls Try.prog 43 #[.int .u32 x] W fun e W' => e = .returned (.bool (onlyB x)) ∧ W = W' := by
  go_enter Try.func43, Try.ntmps43
  go_wp2
  go_ret
  exact ⟨rfl, rfl⟩
end Go.Proofs.Ytgflnfmnjlmenaa.Pc
namespace Go.Proofs.Ytgflnfmnjlmenaa.Pc
open Go.RowKit Go.Deep Go.Joins
set_option maxRecDepth 100000
def prV (h : Pl) : Nat → Int
  | 0 => h.p0
  | 1 => h.p1
  | 2 => h.p2
  | _ => h.p3
def lvV (h : Pl) : Nat → Int
  | 0 => h.l0
  | _ => h.l1
def enV (h : Pl) : Nat → Int
  | 0 => h.e0
  | _ => h.e1
/-- May the state be? -/
def rightF (h : Pl) : Bool := decide (h.p0 ≤ 7) && decide (h.p1 ≤ 7) && decide (h.p2 ≤ 7) && decide (h.p3 ≤ 7) && (decide (h.l0 ≤ 7) && onlyB h.e0) && (decide (h.l1 ≤ 7) && onlyB h.e1) && (h.p0 == 0 && onlyB h.c)
theorem right_iff (h : Pl) : rightF h = true ↔ (h.p0 ≤ 7 ∧ h.p1 ≤ 7 ∧ h.p2 ≤ 7 ∧ h.p3 ≤ 7) ∧ (h.l0 ≤ 7 ∧ onlyB h.e0 = true) ∧ (h.l1 ≤ 7 ∧ onlyB h.e1 = true) ∧ h.p0 = 0 ∧ onlyB h.c = true := by
  unfold rightF
  simp only [Bool.and_eq_true, decide_eq_true_eq, beq_iff_eq, and_assoc]
theorem right_no (h : Pl) (hn : ¬ ((h.p0 ≤ 7 ∧ h.p1 ≤ 7 ∧ h.p2 ≤ 7 ∧ h.p3 ≤ 7) ∧ (h.l0 ≤ 7 ∧ onlyB h.e0 = true) ∧ (h.l1 ≤ 7 ∧ onlyB h.e1 = true) ∧ h.p0 = 0 ∧ onlyB h.c = true)) : rightF h = false := by
  cases e : rightF h with
  | false => rfl
  | true => exact absurd ((right_iff h).1 e) hn
theorem right_prio (h : Pl) (k : Nat) (hk : k < 4) (hp : 7 < prV h k) : rightF h = false := by
  refine right_no h fun a => ?_
  match k, hk, hp with
  | 0, _, hp => have := a.1.1; simp only [prV] at hp; omega
  | 1, _, hp => have := a.1.2.1; simp only [prV] at hp; omega
  | 2, _, hp => have := a.1.2.2.1; simp only [prV] at hp; omega
  | 3, _, hp => have := a.1.2.2.2; simp only [prV] at hp; omega
theorem right_level (h : Pl) (k : Nat) (hk : k < 2) (hp : 7 < lvV h k ∨ onlyB (enV h k) = false) : rightF h = false := by
  refine right_no h fun a => ?_
  match k, hk, hp with
  | 0, _, hp =>
    have h1 := a.2.1.1
    have h2 := a.2.1.2
    simp only [lvV, enV] at hp
    rcases hp with hp | hp
    · omega
    · rw [h2] at hp; cases hp
  | 1, _, hp =>
    have h1 := a.2.2.1.1
    have h2 := a.2.2.1.2
    simp only [lvV, enV] at hp
    rcases hp with hp | hp
    · omega
    · rw [h2] at hp; cases hp
set_option maxRecDepth 100000 in
set_option maxHeartbeats 1000000 in
theorem right_any (h : Pl) (W : World) : Calls Try.prog 31 #[plV h] W fun e W' => e = .returned (.bool (rightF h)) ∧ Below W.heap.size W W' := by
  have m_p0 : (plC h)[0]? = some (.int .u32 h.p0) := plC_at h 0
  have m_e0 : (plC h)[4]? = some (.int .u32 h.e0) := plC_at h 4
  have m_e1 : (plC h)[5]? = some (.int .u32 h.e1) := plC_at h 5
  have m_c : (plC h)[8]? = some (.int .u32 h.c) := plC_at h 8
  have i0 : ∀ w : World, (Instr.index 30 (.agg #[.int .u32 h.p0, .int .u32 h.p1, .int .u32 h.p2, .int .u32 h.p3]) (.int .i64 0)).run Try.prog w = .ok (.int .u32 h.p0) w := fun _ => by kernel_rfl
  have i1 : ∀ w : World, (Instr.index 30 (.agg #[.int .u32 h.p0, .int .u32 h.p1, .int .u32 h.p2, .int .u32 h.p3]) (.int .i64 1)).run Try.prog w = .ok (.int .u32 h.p1) w := fun _ => by kernel_rfl
  have i2 : ∀ w : World, (Instr.index 30 (.agg #[.int .u32 h.p0, .int .u32 h.p1, .int .u32 h.p2, .int .u32 h.p3]) (.int .i64 2)).run Try.prog w = .ok (.int .u32 h.p2) w := fun _ => by kernel_rfl
  have i3 : ∀ w : World, (Instr.index 30 (.agg #[.int .u32 h.p0, .int .u32 h.p1, .int .u32 h.p2, .int .u32 h.p3]) (.int .i64 3)).run Try.prog w = .ok (.int .u32 h.p3) w := fun _ => by kernel_rfl
  have j0 : ∀ w : World, (Instr.index 31 (.agg #[.int .u32 h.l0, .int .u32 h.l1]) (.int .i64 0)).run Try.prog w = .ok (.int .u32 h.l0) w := fun _ => by kernel_rfl
  have j1 : ∀ w : World, (Instr.index 31 (.agg #[.int .u32 h.l0, .int .u32 h.l1]) (.int .i64 1)).run Try.prog w = .ok (.int .u32 h.l1) w := fun _ => by kernel_rfl
  go_enter Try.func31, Try.ntmps31
  go_wp2_with (first | (with_reducible refine wpList_load_by rfl rfl (Box.load_prio (Box.new W h)) rfl ?_) | fail)
  go_loop [9] (fun i => ∃ k : Nat, k ≤ 4 ∧ i = .int .i64 k ∧ RowKit.Hid (∀ j, j < k → prV h j ≤ 7)) (fun i => 4 - (intOf i).toNat)
  case atStart => exact ⟨0, by omega, rfl, Lib.hid fun j hj => absurd hj (by omega)⟩
  case round =>
    obtain ⟨k, hk, rfl, HN⟩ := hrel
    match k, hk, HN with
    | 0, _, HN =>
      by_cases hp : h.p0 ≤ 7
      · have HS : RowKit.Hid (∀ j, j < 1 → prV h j ≤ 7) := Lib.hid fun j hj => by
          by_cases e : j = 0
          · subst e; exact hp
          · exact HN.out j (by omega)
        go_wp2_with fail
        go_round
        case rel => exact ⟨1, by omega, rfl, HS⟩
        case measure => simp [intOf]
      · have HE := Lib.hid (right_prio h 0 (by omega) (show 7 < h.p0 by omega))
        have hp7 : 7 < h.p0 := by omega
        go_wp2_with fail
        go_ret
        exact ⟨ret_bool HE.out.symm, (Below.refl _ _).alloc (Nat.le_refl _) _⟩
    | 1, _, HN =>
      by_cases hp : h.p1 ≤ 7
      · have HS : RowKit.Hid (∀ j, j < 2 → prV h j ≤ 7) := Lib.hid fun j hj => by
          by_cases e : j = 1
          · subst e; exact hp
          · exact HN.out j (by omega)
        go_wp2_with fail
        go_round
        case rel => exact ⟨2, by omega, rfl, HS⟩
        case measure => simp [intOf]
      · have HE := Lib.hid (right_prio h 1 (by omega) (show 7 < h.p1 by omega))
        have hp7 : 7 < h.p1 := by omega
        go_wp2_with fail
        go_ret
        exact ⟨ret_bool HE.out.symm, (Below.refl _ _).alloc (Nat.le_refl _) _⟩
    | 2, _, HN =>
      by_cases hp : h.p2 ≤ 7
      · have HS : RowKit.Hid (∀ j, j < 3 → prV h j ≤ 7) := Lib.hid fun j hj => by
          by_cases e : j = 2
          · subst e; exact hp
          · exact HN.out j (by omega)
        go_wp2_with fail
        go_round
        case rel => exact ⟨3, by omega, rfl, HS⟩
        case measure => simp [intOf]
      · have HE := Lib.hid (right_prio h 2 (by omega) (show 7 < h.p2 by omega))
        have hp7 : 7 < h.p2 := by omega
        go_wp2_with fail
        go_ret
        exact ⟨ret_bool HE.out.symm, (Below.refl _ _).alloc (Nat.le_refl _) _⟩
    | 3, _, HN =>
      by_cases hp : h.p3 ≤ 7
      · have HS : RowKit.Hid (∀ j, j < 4 → prV h j ≤ 7) := Lib.hid fun j hj => by
          by_cases e : j = 3
          · subst e; exact hp
          · exact HN.out j (by omega)
        go_wp2_with fail
        go_round
        case rel => exact ⟨4, by omega, rfl, HS⟩
        case measure => simp [intOf]
      · have HE := Lib.hid (right_prio h 3 (by omega) (show 7 < h.p3 by omega))
        have hp7 : 7 < h.p3 := by omega
        go_wp2_with fail
        go_ret
        exact ⟨ret_bool HE.out.symm, (Below.refl _ _).alloc (Nat.le_refl _) _⟩
    | 4, _, HN =>
      have HP := Lib.hid (HN.out)
      clear HN
      go_wp2_with (first | (with_reducible refine wpList_load_by rfl rfl (Box.load_level (Box.new W h)) rfl ?_) | fail)
      go_loop [17] (fun i => ∃ m : Nat, m ≤ 2 ∧ i = .int .i64 m ∧ RowKit.Hid (∀ j, j < m → lvV h j ≤ 7 ∧ onlyB (enV h j) = true)) (fun i => 2 - (intOf i).toNat)
      case atStart => exact ⟨0, by omega, rfl, Lib.hid fun j hj => absurd hj (by omega)⟩
      case round =>
        obtain ⟨m, hm, rfl, HN⟩ := hrel
        match m, hm, HN with
        | 0, _, HN =>
          by_cases hp : h.l0 ≤ 7
          · rcases Bool.eq_false_or_eq_true (onlyB h.e0) with ho | ho
            · have HS : RowKit.Hid (∀ j, j < 1 → lvV h j ≤ 7 ∧ onlyB (enV h j) = true) := Lib.hid fun j hj => by
                by_cases e : j = 0
                · subst e; exact ⟨hp, ho⟩
                · exact HN.out j (by omega)
              go_wp2_with (first | (go_at_call 43; (with_reducible refine (only_any _ _).mono ?_); rintro e w' ⟨he, rfl⟩; rw [ho] at he; subst he) | fail)
              go_round
              case rel => exact ⟨1, by omega, rfl, HS⟩
              case measure => simp [intOf]
            · have HE := Lib.hid (right_level h 0 (by omega) (.inr ho))
              go_wp2_with (first | (go_at_call 43; (with_reducible refine (only_any _ _).mono ?_); rintro e w' ⟨he, rfl⟩; rw [ho] at he; subst he) | fail)
              go_ret
              exact ⟨ret_bool HE.out.symm, (Below.refl _ _).alloc (Nat.le_refl _) _⟩
          · have HE := Lib.hid (right_level h 0 (by omega) (.inl (show 7 < h.l0 by omega)))
            have hp7 : 7 < h.l0 := by omega
            go_wp2_with fail
            go_ret
            exact ⟨ret_bool HE.out.symm, (Below.refl _ _).alloc (Nat.le_refl _) _⟩
        | 1, _, HN =>
          by_cases hp : h.l1 ≤ 7
          · rcases Bool.eq_false_or_eq_true (onlyB h.e1) with ho | ho
            · have HS : RowKit.Hid (∀ j, j < 2 → lvV h j ≤ 7 ∧ onlyB (enV h j) = true) := Lib.hid fun j hj => by
                by_cases e : j = 1
                · subst e; exact ⟨hp, ho⟩
                · exact HN.out j (by omega)
              go_wp2_with (first | (go_at_call 43; (with_reducible refine (only_any _ _).mono ?_); rintro e w' ⟨he, rfl⟩; rw [ho] at he; subst he) | fail)
              go_round
              case rel => exact ⟨2, by omega, rfl, HS⟩
              case measure => simp [intOf]
            · have HE := Lib.hid (right_level h 1 (by omega) (.inr ho))
              go_wp2_with (first | (go_at_call 43; (with_reducible refine (only_any _ _).mono ?_); rintro e w' ⟨he, rfl⟩; rw [ho] at he; subst he) | fail)
              go_ret
              exact ⟨ret_bool HE.out.symm, (Below.refl _ _).alloc (Nat.le_refl _) _⟩
          · have HE := Lib.hid (right_level h 1 (by omega) (.inl (show 7 < h.l1 by omega)))
            have hp7 : 7 < h.l1 := by omega
            go_wp2_with fail
            go_ret
            exact ⟨ret_bool HE.out.symm, (Below.refl _ _).alloc (Nat.le_refl _) _⟩
        | 2, _, HN =>
          rcases Bool.eq_false_or_eq_true (h.p0 == 0) with h0 | h0
          · have HE : RowKit.Hid (rightF h = onlyB h.c) := Lib.hid (by
              have a0 := HP.out 0 (by omega)
              have a1 := HP.out 1 (by omega)
              have a2 := HP.out 2 (by omega)
              have a3 := HP.out 3 (by omega)
              have b0 := HN.out 0 (by omega)
              have b1 := HN.out 1 (by omega)
              simp only [prV] at a0 a1 a2 a3
              simp only [lvV, enV] at b0 b1
              unfold rightF
              rw [h0, b0.2, b1.2, decide_eq_true a0, decide_eq_true a1, decide_eq_true a2, decide_eq_true a3, decide_eq_true b0.1, decide_eq_true b1.1]
              rfl)
            go_wp2_with (first | (go_at_call 43; (with_reducible refine (only_any _ _).mono ?_); rintro e w' ⟨rfl, rfl⟩) | fail)
            go_ret
            exact ⟨ret_bool HE.out.symm, (Below.refl _ _).alloc (Nat.le_refl _) _⟩
          · have HE : RowKit.Hid (rightF h = false) := Lib.hid (right_no h fun a => by rw [a.2.2.2.1] at h0; cases h0)
            go_wp2_with fail
            go_ret
            exact ⟨ret_bool HE.out.symm, (Below.refl _ _).alloc (Nat.le_refl _) _⟩
end Go.Proofs.Ytgflnfmnjlmenaa.Pc
