/- The small functions of both sides. -/
import Derived.Test.YtmjlgoceokdabaaI
namespace Go.Proofs.Ytmjlgoceokdabaa
open Go.RowKit Go.Deep Go.Joins
def modeV (ms m kind : Int) : Int := if (m == 3 && kind != 0 && nzV ms 131072) = true then bits .and .u64 (ms / 2048) 3 else m
def rmodeV (ms m kind : Int) : Int := if (kind != 0 && m == 3 && bV ms 131072) = true then bits .and .u64 (ms / 2048) 3 else m
theorem and3 (n : Int) : 0 ≤ bits .and .u64 n 3 ∧ bits .and .u64 n 3 ≤ 3 := by
  have u := u64_bits .and n 3
  refine ⟨u.1, ?_⟩
  have e : bits .and .u64 n 3 = bits .and .u64 (bits .and .u64 n 3) 3 := by
    refine bit_ext _ _ (u64_bits _ _ _) (u64_bits _ _ _) fun i _ => ?_
    rw [bit_and, bit_and, bit_and]
    cases bitT n i <;> cases bitT 3 i <;> rfl
  obtain ⟨k, hk⟩ := Int.eq_ofNat_of_zero_le u.1
  have h2 := u.2
  rw [hk] at e h2 ⊢
  have h := bits_and_u64_nat k 3 (by omega) (by omega)
  rw [show (3 : Int) = ((3 : Nat) : Int) from rfl, h] at e
  have : k &&& 3 ≤ 3 := Nat.and_le_right
  omega
theorem i64_and3 (n : Int) : wrap64 (bits .and .u64 n 3) = bits .and .u64 n 3 := by
  have h := and3 n
  generalize bits .and .u64 n 3 = x at *
  unfold wrap64
  omega
theorem mk17 : ∀ j, j < 64 → bitT 131072 j = decide (j = 17) := by decide +kernel
theorem mode_same (ms m kind : Int) (h : U64 ms) : rmodeV ms m kind = modeV ms m kind := by
  unfold modeV rmodeV
  rw [nz_bit ms 131072 17 (by omega) mk17, bV_bit ms 131072 h 17 (by omega) rfl]
  have e : (kind != 0 && m == 3 && bitT ms 17) = (m == 3 && kind != 0 && bitT ms 17) := by rw [Bool.and_comm (kind != 0)]
  rw [e]
/-- Bits 63:38 of an address, with its sign. -/
def topV (t : Int) : Int := wrap64 t / 274877906944
def signB (t : Int) : Bool := topV t == 0 || topV t == -1
def pageV (kind : Int) : Int := if kind = 0 then 12 else if kind = 1 then 13 else 15
def accV (kind : Int) : Int := if kind = 0 then 1 else if kind = 1 then 5 else 7
def placeV (n : Int) : Int := IntKind.u64.wrap (bits .and .u64 n 17592186044415 * 4096)
def choiceV (t : Int) (k : Nat) : Int := bits .and .u64 (t / 2 ^ (12 + 9 * k)) 511
def rightB (e : Int) : Bool := !(bits .and .u64 e 1 == 0 || e / 18014398509481984 != 0) && bits .and .u64 e 6 != 4
def mayB (ms mode : Int) (user : Bool) (kind : Int) : Bool := if mode = 0 then user else if mode = 1 then !user || (kind != 0 && nzV ms 262144) else true
def usedB (ms mode e kind : Int) : Bool :=
  if (bits .and .u64 e 64 == 0 || !mayB ms mode (nzV e 16) kind) = true then false
  else if kind = 0 then nzV e 8 else if kind = 1 then nzV e 2 || (nzV e 8 && nzV ms 524288) else nzV e 4 && nzV e 128
set_option maxHeartbeats 1000000 in
theorem mode_any (C : Array Value) (ms sp m kind : Int) (h : CsrAt C ms sp) (W : World) : Calls Try.prog 12 #[.agg C, .int .i64 m, .int .i64 kind] W fun e W' => e = .returned (.int .i64 (modeV ms m kind)) ∧ Below W.heap.size W W' := by
  have f0 := h.f0
  have w3 := Lib.hid (i64_and3 (ms / 2048))
  clear h
  rcases Bool.eq_false_or_eq_true (m == 3) with a | a
  all_goals rcases Bool.eq_false_or_eq_true (kind != 0) with b | b
  all_goals rcases Bool.eq_false_or_eq_true (bits .and .u64 ms 131072 != 0) with c | c
  all_goals
    go_enter Try.func12, Try.ntmps12
    go_wp2
    go_ret
    exact ⟨ret_int (by unfold modeV; simp [nzV, a, b, c, w3.out]), (Below.refl _ _).alloc (Nat.le_refl _) _⟩
set_option maxHeartbeats 1000000 in
theorem rmode_any (C : Array Value) (ms sp m kind : Int) (h : CsrAt C ms sp) (W : World) : Calls Try.prog 21 #[.agg C, .int .i64 m, .int .i64 kind] W fun e W' => e = .returned (.int .i64 (rmodeV ms m kind)) ∧ Below W.heap.size W W' := by
  have f0 := h.f0
  have w3 := Lib.hid (i64_and3 (ms / 2048))
  clear h
  rcases Bool.eq_false_or_eq_true (kind != 0) with a | a
  all_goals rcases Bool.eq_false_or_eq_true (m == 3) with b | b
  all_goals rcases Bool.eq_false_or_eq_true (bits .and .u64 (ms / 131072) 1 == 1) with c | c
  all_goals
    go_enter Try.func21, Try.ntmps21
    go_wp2
    go_ret
    exact ⟨ret_int (by unfold rmodeV; simp [bV, a, b, c, w3.out]), (Below.refl _ _).alloc (Nat.le_refl _) _⟩
set_option maxHeartbeats 1000000 in
theorem signed_any (t : Int) (W : World) : Calls Try.prog 13 #[.int .u64 t] W fun e W' => e = .returned (.bool (signB t)) ∧ W = W' := by
  rcases Bool.eq_false_or_eq_true (wrap64 t / 274877906944 == 0) with a | a
  all_goals rcases Bool.eq_false_or_eq_true (wrap64 t / 274877906944 == -1) with b | b
  all_goals
    go_enter Try.func13, Try.ntmps13
    go_wp2
    go_ret
    exact ⟨ret_bool (by unfold signB topV; simp [a, b]), rfl⟩
set_option maxHeartbeats 1000000 in
theorem page_any (kind : Int) (h0 : 0 ≤ kind) (h2 : kind ≤ 2) (W : World) : Calls Try.prog 14 #[.int .i64 kind] W fun e W' => e = .returned (.int .i64 (pageV kind)) ∧ W = W' := by
  have i0 : ∀ w : World, (Instr.index 37 (.agg #[.int .i64 12, .int .i64 13, .int .i64 15]) (.int .i64 0)).run Try.prog w = .ok (.int .i64 12) w := fun _ => by kernel_rfl
  have i1 : ∀ w : World, (Instr.index 37 (.agg #[.int .i64 12, .int .i64 13, .int .i64 15]) (.int .i64 1)).run Try.prog w = .ok (.int .i64 13) w := fun _ => by kernel_rfl
  have i2 : ∀ w : World, (Instr.index 37 (.agg #[.int .i64 12, .int .i64 13, .int .i64 15]) (.int .i64 2)).run Try.prog w = .ok (.int .i64 15) w := fun _ => by kernel_rfl
  obtain rfl | rfl | rfl : kind = 0 ∨ kind = 1 ∨ kind = 2 := by omega
  all_goals
    go_enter Try.func14, Try.ntmps14
    go_wp2
    go_ret
    exact ⟨rfl, rfl⟩
set_option maxHeartbeats 1000000 in
theorem rpage_any (kind : Int) (h0 : 0 ≤ kind) (h2 : kind ≤ 2) (W : World) : Calls Try.prog 22 #[.int .i64 kind] W fun e W' => e = .returned (.int .i64 (pageV kind)) ∧ W = W' := by
  have i0 : ∀ w : World, (Instr.index 37 (.agg #[.int .i64 12, .int .i64 13, .int .i64 15]) (.int .i64 0)).run Try.prog w = .ok (.int .i64 12) w := fun _ => by kernel_rfl
  have i1 : ∀ w : World, (Instr.index 37 (.agg #[.int .i64 12, .int .i64 13, .int .i64 15]) (.int .i64 1)).run Try.prog w = .ok (.int .i64 13) w := fun _ => by kernel_rfl
  have i2 : ∀ w : World, (Instr.index 37 (.agg #[.int .i64 12, .int .i64 13, .int .i64 15]) (.int .i64 2)).run Try.prog w = .ok (.int .i64 15) w := fun _ => by kernel_rfl
  obtain rfl | rfl | rfl : kind = 0 ∨ kind = 1 ∨ kind = 2 := by omega
  all_goals
    go_enter Try.func22, Try.ntmps22
    go_wp2
    go_ret
    exact ⟨rfl, rfl⟩
set_option maxHeartbeats 1000000 in
theorem acc_any (kind : Int) (h0 : 0 ≤ kind) (h2 : kind ≤ 2) (W : World) : Calls Try.prog 18 #[.int .i64 kind] W fun e W' => e = .returned (.int .i64 (accV kind)) ∧ W = W' := by
  have i0 : ∀ w : World, (Instr.index 37 (.agg #[.int .i64 1, .int .i64 5, .int .i64 7]) (.int .i64 0)).run Try.prog w = .ok (.int .i64 1) w := fun _ => by kernel_rfl
  have i1 : ∀ w : World, (Instr.index 37 (.agg #[.int .i64 1, .int .i64 5, .int .i64 7]) (.int .i64 1)).run Try.prog w = .ok (.int .i64 5) w := fun _ => by kernel_rfl
  have i2 : ∀ w : World, (Instr.index 37 (.agg #[.int .i64 1, .int .i64 5, .int .i64 7]) (.int .i64 2)).run Try.prog w = .ok (.int .i64 7) w := fun _ => by kernel_rfl
  obtain rfl | rfl | rfl : kind = 0 ∨ kind = 1 ∨ kind = 2 := by omega
  all_goals
    go_enter Try.func18, Try.ntmps18
    go_wp2
    go_ret
    exact ⟨rfl, rfl⟩
set_option maxHeartbeats 1000000 in
theorem racc_any (kind : Int) (h0 : 0 ≤ kind) (h2 : kind ≤ 2) (W : World) : Calls Try.prog 24 #[.int .i64 kind] W fun e W' => e = .returned (.int .i64 (accV kind)) ∧ W = W' := by
  have i0 : ∀ w : World, (Instr.index 37 (.agg #[.int .i64 1, .int .i64 5, .int .i64 7]) (.int .i64 0)).run Try.prog w = .ok (.int .i64 1) w := fun _ => by kernel_rfl
  have i1 : ∀ w : World, (Instr.index 37 (.agg #[.int .i64 1, .int .i64 5, .int .i64 7]) (.int .i64 1)).run Try.prog w = .ok (.int .i64 5) w := fun _ => by kernel_rfl
  have i2 : ∀ w : World, (Instr.index 37 (.agg #[.int .i64 1, .int .i64 5, .int .i64 7]) (.int .i64 2)).run Try.prog w = .ok (.int .i64 7) w := fun _ => by kernel_rfl
  obtain rfl | rfl | rfl : kind = 0 ∨ kind = 1 ∨ kind = 2 := by omega
  all_goals
    go_enter Try.func24, Try.ntmps24
    go_wp2
    go_ret
    exact ⟨rfl, rfl⟩
set_option maxHeartbeats 1000000 in
theorem place_any (n : Int) (W : World) : Calls Try.prog 15 #[.int .u64 n] W fun e W' => e = .returned (.int .u64 (placeV n)) ∧ W = W' := by
  go_enter Try.func15, Try.ntmps15
  go_wp2
  go_ret
  exact ⟨rfl, rfl⟩
set_option maxHeartbeats 1000000 in
theorem choice_any (t : Int) (k : Nat) (hk : k ≤ 2) (W : World) : Calls Try.prog 17 #[.int .u64 t, .int .i64 k] W fun e W' => e = .returned (.int .u64 (choiceV t k)) ∧ W = W' := by
  obtain rfl | rfl | rfl : k = 0 ∨ k = 1 ∨ k = 2 := by omega
  all_goals
    go_enter Try.func17, Try.ntmps17
    go_wp2
    go_ret
    exact ⟨rfl, rfl⟩
set_option maxHeartbeats 1000000 in
theorem right_any (n : Int) (W : World) : Calls Try.prog 19 #[.int .u64 n] W fun e W' => e = .returned (.bool (rightB n)) ∧ W = W' := by
  rcases Bool.eq_false_or_eq_true (bits .and .u64 n 1 == 0) with a | a
  all_goals rcases Bool.eq_false_or_eq_true (n / 18014398509481984 != 0) with b | b
  all_goals
    go_enter Try.func19, Try.ntmps19
    go_wp2
    go_ret
    exact ⟨ret_bool (by unfold rightB; simp [a, b]), rfl⟩
set_option maxHeartbeats 1000000 in
theorem may_any (C : Array Value) (ms sp mode : Int) (user : Bool) (kind : Int) (h : CsrAt C ms sp) (W : World) : Calls Try.prog 28 #[.agg C, .int .i64 mode, .bool user, .int .i64 kind] W fun e W' => e = .returned (.bool (mayB ms mode user kind)) ∧ Below W.heap.size W W' := by
  have f0 := h.f0
  clear h
  by_cases h0 : mode = 0
  · subst h0
    go_enter Try.func28, Try.ntmps28
    go_wp2
    go_ret
    exact ⟨rfl, (Below.refl _ _).alloc (Nat.le_refl _) _⟩
  have g0 : (mode == 0) = false := by simpa using h0
  by_cases h1 : mode = 1
  · subst h1
    clear h0 g0
    rcases Bool.eq_false_or_eq_true (kind != 0) with a | a
    all_goals rcases Bool.eq_false_or_eq_true (bits .and .u64 ms 262144 != 0) with b | b
    all_goals cases user
    all_goals
      go_enter Try.func28, Try.ntmps28
      go_wp2
      go_ret
      exact ⟨ret_bool (by simp [mayB, nzV, a, b]), (Below.refl _ _).alloc (Nat.le_refl _) _⟩
  have g1 : (mode == 1) = false := by simpa using h1
  go_enter Try.func28, Try.ntmps28
  go_wp2
  go_ret
  exact ⟨ret_bool (by simp [mayB, h0, h1]), (Below.refl _ _).alloc (Nat.le_refl _) _⟩

end Go.Proofs.Ytmjlgoceokdabaa
