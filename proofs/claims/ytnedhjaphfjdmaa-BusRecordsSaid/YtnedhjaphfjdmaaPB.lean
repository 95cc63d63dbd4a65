/- waiting, bit, place. -/
import Derived.Test.YtnedhjaphfjdmaaPS
namespace Go.Proofs.Ytnedhjaphfjdmaa.Pc
open Go.RowKit Go.Deep Go.Joins
/-- The sources that wait. -/
def waitV (s c : Int) : Int := bits .and .u32 (bits .andNot .u32 s c) 14
set_option maxHeartbeats 1000000 in
theorem wait_any (h : Pl) (s : Int) (W : World) : Calls Try.prog 62 #[plV h, .int .u32 s] W fun e W' => e = .returned (.int .u32 (waitV s h.c)) ∧ Below W.heap.size W W' := by
  have m_c : (plC h)[8]? = some (.int .u32 h.c) := plC_at h 8
  go_enter Try.func62, Try.ntmps62
  go_wp2
  go_ret
  exact ⟨rfl, (Below.refl _ _).alloc (Nat.le_refl _) _⟩
set_option maxHeartbeats 1000000 in
theorem rwait_any (h : Pl) (s : Int) (W : World) : Calls Try.prog 64 #[plV h, .int .u32 s] W fun e W' => e = .returned (.int .u32 (waitV s h.c)) ∧ Below W.heap.size W W' := by
  have m_c : (plC h)[8]? = some (.int .u32 h.c) := plC_at h 8
  go_enter Try.func64, Try.ntmps64
  go_wp2
  go_ret
  exact ⟨rfl, (Below.refl _ _).alloc (Nat.le_refl _) _⟩
/-- It has no bits but those of the sources. -/
def onlyB (x : Int) : Bool := bits .andNot .u32 x 14 == 0
set_option maxHeartbeats 1000000 in
theorem bit_lit0 (W : World) : Calls Try.prog 63 #[.int .u32 0] W fun e W' => e = .returned (.int .u32 0) ∧ W = W' := by
  go_enter Try.func63, Try.ntmps63
  go_wp2
  go_ret
  exact ⟨ret_int (by decide +kernel), rfl⟩
set_option maxHeartbeats 1000000 in
theorem bit_lit1 (W : World) : Calls Try.prog 63 #[.int .u32 1] W fun e W' => e = .returned (.int .u32 2) ∧ W = W' := by
  go_enter Try.func63, Try.ntmps63
  go_wp2
  go_ret
  exact ⟨ret_int (by decide +kernel), rfl⟩
set_option maxHeartbeats 1000000 in
theorem bit_lit2 (W : World) : Calls Try.prog 63 #[.int .u32 2] W fun e W' => e = .returned (.int .u32 4) ∧ W = W' := by
  go_enter Try.func63, Try.ntmps63
  go_wp2
  go_ret
  exact ⟨ret_int (by decide +kernel), rfl⟩
set_option maxHeartbeats 1000000 in
theorem bit_lit3 (W : World) : Calls Try.prog 63 #[.int .u32 3] W fun e W' => e = .returned (.int .u32 8) ∧ W = W' := by
  go_enter Try.func63, Try.ntmps63
  go_wp2
  go_ret
  exact ⟨ret_int (by decide +kernel), rfl⟩
theorem big_none (k : Nat) (h : k ≤ 32) (h4 : 4 ≤ k) : bits .and .u32 (2 ^ k % 4294967296) 14 = 0 := by
  revert k
  decide +kernel
set_option maxHeartbeats 1000000 in
theorem bit_big (n : Int) (hn : U32 n) (h4 : 4 ≤ n) (W : World) : Calls Try.prog 63 #[.int .u32 n] W fun e W' => e = .returned (.int .u32 0) ∧ W = W' := by
  obtain ⟨h0, h1⟩ := hn
  have HB := Lib.hid (big_none (min n.toNat 32) (by omega) (by omega))
  go_enter Try.func63, Try.ntmps63
  go_wp2
  go_ret
  exact ⟨ret_int HB.out, rfl⟩
set_option maxHeartbeats 1000000 in
theorem place_p1 (W : World) : Calls Try.prog 69 #[.int .u64 201326596] W fun e W' => e = .returned (.tuple #[.int .i64 1, .int .i64 1]) ∧ W = W' := by
  go_enter Try.func69, Try.ntmps69
  go_wp2
  go_ret2
  exact ⟨rfl, rfl⟩
set_option maxHeartbeats 1000000 in
theorem place_p2 (W : World) : Calls Try.prog 69 #[.int .u64 201326600] W fun e W' => e = .returned (.tuple #[.int .i64 1, .int .i64 2]) ∧ W = W' := by
  go_enter Try.func69, Try.ntmps69
  go_wp2
  go_ret2
  exact ⟨rfl, rfl⟩
set_option maxHeartbeats 1000000 in
theorem place_p3 (W : World) : Calls Try.prog 69 #[.int .u64 201326604] W fun e W' => e = .returned (.tuple #[.int .i64 1, .int .i64 3]) ∧ W = W' := by
  go_enter Try.func69, Try.ntmps69
  go_wp2
  go_ret2
  exact ⟨rfl, rfl⟩
set_option maxHeartbeats 1000000 in
theorem place_wait (W : World) : Calls Try.prog 69 #[.int .u64 201330688] W fun e W' => e = .returned (.tuple #[.int .i64 2, .int .i64 0]) ∧ W = W' := by
  go_enter Try.func69, Try.ntmps69
  go_wp2
  go_ret2
  exact ⟨rfl, rfl⟩
set_option maxHeartbeats 1000000 in
theorem place_e0 (W : World) : Calls Try.prog 69 #[.int .u64 201334784] W fun e W' => e = .returned (.tuple #[.int .i64 3, .int .i64 0]) ∧ W = W' := by
  go_enter Try.func69, Try.ntmps69
  go_wp2
  go_ret2
  exact ⟨rfl, rfl⟩
set_option maxHeartbeats 1000000 in
theorem place_e1 (W : World) : Calls Try.prog 69 #[.int .u64 201334912] W fun e W' => e = .returned (.tuple #[.int .i64 3, .int .i64 1]) ∧ W = W' := by
  go_enter Try.func69, Try.ntmps69
  go_wp2
  go_ret2
  exact ⟨rfl, rfl⟩
set_option maxHeartbeats 1000000 in
theorem place_l0 (W : World) : Calls Try.prog 69 #[.int .u64 203423744] W fun e W' => e = .returned (.tuple #[.int .i64 4, .int .i64 0]) ∧ W = W' := by
  go_enter Try.func69, Try.ntmps69
  go_wp2
  go_ret2
  exact ⟨rfl, rfl⟩
set_option maxHeartbeats 1000000 in
theorem place_l1 (W : World) : Calls Try.prog 69 #[.int .u64 203427840] W fun e W' => e = .returned (.tuple #[.int .i64 4, .int .i64 1]) ∧ W = W' := by
  go_enter Try.func69, Try.ntmps69
  go_wp2
  go_ret2
  exact ⟨rfl, rfl⟩
set_option maxHeartbeats 1000000 in
theorem place_b0 (W : World) : Calls Try.prog 69 #[.int .u64 203423748] W fun e W' => e = .returned (.tuple #[.int .i64 5, .int .i64 0]) ∧ W = W' := by
  go_enter Try.func69, Try.ntmps69
  go_wp2
  go_ret2
  exact ⟨rfl, rfl⟩
set_option maxHeartbeats 1000000 in
theorem place_b1 (W : World) : Calls Try.prog 69 #[.int .u64 203427844] W fun e W' => e = .returned (.tuple #[.int .i64 5, .int .i64 1]) ∧ W = W' := by
  go_enter Try.func69, Try.ntmps69
  go_wp2
  go_ret2
  exact ⟨rfl, rfl⟩
/-- Nothing lies at the address. -/
structure NoPlace (t : Int) : Prop where
  n_p1 : ¬ t = 201326596
  n_p2 : ¬ t = 201326600
  n_p3 : ¬ t = 201326604
  n_wait : ¬ t = 201330688
  n_e0 : ¬ t = 201334784
  n_e1 : ¬ t = 201334912
  n_l0 : ¬ t = 203423744
  n_l1 : ¬ t = 203427840
  n_b0 : ¬ t = 203423748
  n_b1 : ¬ t = 203427844
set_option maxHeartbeats 1000000 in
theorem place_none (t : Int) (hn : NoPlace t) (W : World) : Calls Try.prog 69 #[.int .u64 t] W fun e W' => e = .returned (.tuple #[.int .i64 0, .int .i64 0]) ∧ W = W' := by
  have x_p1 := hn.n_p1
  have x_p2 := hn.n_p2
  have x_p3 := hn.n_p3
  have x_wait := hn.n_wait
  have x_e0 := hn.n_e0
  have x_e1 := hn.n_e1
  have x_l0 := hn.n_l0
  have x_l1 := hn.n_l1
  have x_b0 := hn.n_b0
  have x_b1 := hn.n_b1
  go_enter Try.func69, Try.ntmps69
  go_wp2
  go_ret2
  exact ⟨rfl, rfl⟩
def rplV (o f s : Int) : Int := if (o == f) = true then 0 else if (o == IntKind.u64.wrap (f + s)) = true then 1 else -1
set_option maxHeartbeats 1000000 in
theorem rplace_lit (o f s r : Int) (h : rplV o f s = r) (W : World) : Calls Try.prog 65 #[.int .u64 o, .int .u64 f, .int .u64 s] W fun e W' => e = .returned (.int .i64 r) ∧ W = W' := by
  subst h
  rcases Bool.eq_false_or_eq_true (o == f) with h1 | h1
  · have HE := Lib.hid (show rplV o f s = 0 by unfold rplV; rw [h1]; rfl)
    go_enter Try.func65, Try.ntmps65
    go_wp2
    go_ret
    exact ⟨ret_int HE.out.symm, rfl⟩
  rcases Bool.eq_false_or_eq_true (o == IntKind.u64.wrap (f + s)) with h2 | h2
  · have HE := Lib.hid (show rplV o f s = 1 by unfold rplV; rw [h1, h2]; rfl)
    go_enter Try.func65, Try.ntmps65
    go_wp2
    go_ret
    exact ⟨ret_int HE.out.symm, rfl⟩
  · have HE := Lib.hid (show rplV o f s = -1 by unfold rplV; rw [h1, h2]; rfl)
    go_enter Try.func65, Try.ntmps65
    go_wp2
    go_ret
    exact ⟨ret_int HE.out.symm, rfl⟩

end Go.Proofs.Ytnedhjaphfjdmaa.Pc
