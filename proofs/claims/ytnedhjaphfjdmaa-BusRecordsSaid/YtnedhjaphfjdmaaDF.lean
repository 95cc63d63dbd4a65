/- Small functions of the devices. -/
import Derived.Test.YtnedhjaphfjdmaaDE
import Derived.BigQuiet
namespace Go.Proofs.Ytnedhjaphfjdmaa
open Go.RowKit Go.Deep Go.Joins
def bV (s : Bool) (k : Nat) : Int := if s = true then 2 ^ k else 0
set_option maxRecDepth 10000 in
set_option maxHeartbeats 1000000 in
theorem bit_0 (s : Bool) (W : World) : Calls Try.prog 43 #[.bool s, .int .i64 0] W fun e W' => e = .returned (.int .u64 (bV s 0)) ∧ W = W' := by
  cases s
  all_goals
    go_enter Try.func43, Try.ntmps43
    go_wp2_with fail
    go_ret
    exact ⟨rfl, rfl⟩
set_option maxRecDepth 10000 in
set_option maxHeartbeats 1000000 in
theorem bit_1 (s : Bool) (W : World) : Calls Try.prog 43 #[.bool s, .int .i64 1] W fun e W' => e = .returned (.int .u64 (bV s 1)) ∧ W = W' := by
  cases s
  all_goals
    go_enter Try.func43, Try.ntmps43
    go_wp2_with fail
    go_ret
    exact ⟨rfl, rfl⟩
set_option maxRecDepth 10000 in
set_option maxHeartbeats 1000000 in
theorem bit_2 (s : Bool) (W : World) : Calls Try.prog 43 #[.bool s, .int .i64 2] W fun e W' => e = .returned (.int .u64 (bV s 2)) ∧ W = W' := by
  cases s
  all_goals
    go_enter Try.func43, Try.ntmps43
    go_wp2_with fail
    go_ret
    exact ⟨rfl, rfl⟩
set_option maxRecDepth 10000 in
set_option maxHeartbeats 1000000 in
theorem bit_3 (s : Bool) (W : World) : Calls Try.prog 43 #[.bool s, .int .i64 3] W fun e W' => e = .returned (.int .u64 (bV s 3)) ∧ W = W' := by
  cases s
  all_goals
    go_enter Try.func43, Try.ntmps43
    go_wp2_with fail
    go_ret
    exact ⟨rfl, rfl⟩
set_option maxRecDepth 10000 in
set_option maxHeartbeats 1000000 in
theorem bit_7 (s : Bool) (W : World) : Calls Try.prog 43 #[.bool s, .int .i64 7] W fun e W' => e = .returned (.int .u64 (bV s 7)) ∧ W = W' := by
  cases s
  all_goals
    go_enter Try.func43, Try.ntmps43
    go_wp2_with fail
    go_ret
    exact ⟨rfl, rfl⟩
set_option maxRecDepth 10000 in
set_option maxHeartbeats 1000000 in
theorem rbit_0 (s : Bool) (W : World) : Calls Try.prog 45 #[.bool s, .int .u64 0] W fun e W' => e = .returned (.int .u64 (bV s 0)) ∧ W = W' := by
  cases s
  all_goals
    go_enter Try.func45, Try.ntmps45
    go_wp2_with fail
    go_ret
    exact ⟨rfl, rfl⟩
set_option maxRecDepth 10000 in
set_option maxHeartbeats 1000000 in
theorem rbit_1 (s : Bool) (W : World) : Calls Try.prog 45 #[.bool s, .int .u64 1] W fun e W' => e = .returned (.int .u64 (bV s 1)) ∧ W = W' := by
  cases s
  all_goals
    go_enter Try.func45, Try.ntmps45
    go_wp2_with fail
    go_ret
    exact ⟨rfl, rfl⟩
set_option maxRecDepth 10000 in
set_option maxHeartbeats 1000000 in
theorem rbit_2 (s : Bool) (W : World) : Calls Try.prog 45 #[.bool s, .int .u64 2] W fun e W' => e = .returned (.int .u64 (bV s 2)) ∧ W = W' := by
  cases s
  all_goals
    go_enter Try.func45, Try.ntmps45
    go_wp2_with fail
    go_ret
    exact ⟨rfl, rfl⟩
set_option maxRecDepth 10000 in
set_option maxHeartbeats 1000000 in
theorem rbit_3 (s : Bool) (W : World) : Calls Try.prog 45 #[.bool s, .int .u64 3] W fun e W' => e = .returned (.int .u64 (bV s 3)) ∧ W = W' := by
  cases s
  all_goals
    go_enter Try.func45, Try.ntmps45
    go_wp2_with fail
    go_ret
    exact ⟨rfl, rfl⟩
set_option maxRecDepth 10000 in
set_option maxHeartbeats 1000000 in
theorem rbit_7 (s : Bool) (W : World) : Calls Try.prog 45 #[.bool s, .int .u64 7] W fun e W' => e = .returned (.int .u64 (bV s 7)) ∧ W = W' := by
  cases s
  all_goals
    go_enter Try.func45, Try.ntmps45
    go_wp2_with fail
    go_ret
    exact ⟨rfl, rfl⟩
set_option maxRecDepth 10000 in
set_option maxHeartbeats 1000000 in
theorem size_0 (W : World) : Calls Try.prog 57 #[.int .u64 33554432] W fun e W' => e = .returned (.int .i64 4) ∧ W = W' := by
  go_enter Try.func57, Try.ntmps57
  go_wp2_with fail
  go_ret
  exact ⟨rfl, rfl⟩
set_option maxRecDepth 10000 in
set_option maxHeartbeats 1000000 in
theorem size_1 (W : World) : Calls Try.prog 57 #[.int .u64 33570816] W fun e W' => e = .returned (.int .i64 8) ∧ W = W' := by
  go_enter Try.func57, Try.ntmps57
  go_wp2_with fail
  go_ret
  exact ⟨rfl, rfl⟩
set_option maxRecDepth 10000 in
set_option maxHeartbeats 1000000 in
theorem size_2 (W : World) : Calls Try.prog 57 #[.int .u64 33603576] W fun e W' => e = .returned (.int .i64 8) ∧ W = W' := by
  go_enter Try.func57, Try.ntmps57
  go_wp2_with fail
  go_ret
  exact ⟨rfl, rfl⟩
set_option maxRecDepth 10000 in
set_option maxHeartbeats 1000000 in
theorem size_3 (W : World) : Calls Try.prog 57 #[.int .u64 268435456] W fun e W' => e = .returned (.int .i64 1) ∧ W = W' := by
  go_enter Try.func57, Try.ntmps57
  go_wp2_with fail
  go_ret
  exact ⟨rfl, rfl⟩
set_option maxRecDepth 10000 in
set_option maxHeartbeats 1000000 in
theorem size_4 (W : World) : Calls Try.prog 57 #[.int .u64 268435457] W fun e W' => e = .returned (.int .i64 1) ∧ W = W' := by
  go_enter Try.func57, Try.ntmps57
  go_wp2_with fail
  go_ret
  exact ⟨rfl, rfl⟩
set_option maxRecDepth 10000 in
set_option maxHeartbeats 1000000 in
theorem size_5 (W : World) : Calls Try.prog 57 #[.int .u64 268435461] W fun e W' => e = .returned (.int .i64 1) ∧ W = W' := by
  go_enter Try.func57, Try.ntmps57
  go_wp2_with fail
  go_ret
  exact ⟨rfl, rfl⟩
set_option maxRecDepth 10000 in
set_option maxHeartbeats 1000000 in
theorem size_6 (W : World) : Calls Try.prog 57 #[.int .u64 268439552] W fun e W' => e = .returned (.int .i64 8) ∧ W = W' := by
  go_enter Try.func57, Try.ntmps57
  go_wp2_with fail
  go_ret
  exact ⟨rfl, rfl⟩
set_option maxRecDepth 10000 in
set_option maxHeartbeats 1000000 in
theorem size_7 (W : World) : Calls Try.prog 57 #[.int .u64 268439560] W fun e W' => e = .returned (.int .i64 8) ∧ W = W' := by
  go_enter Try.func57, Try.ntmps57
  go_wp2_with fail
  go_ret
  exact ⟨rfl, rfl⟩
set_option maxRecDepth 10000 in
set_option maxHeartbeats 1000000 in
theorem size_8 (W : World) : Calls Try.prog 57 #[.int .u64 268439568] W fun e W' => e = .returned (.int .i64 8) ∧ W = W' := by
  go_enter Try.func57, Try.ntmps57
  go_wp2_with fail
  go_ret
  exact ⟨rfl, rfl⟩
set_option maxRecDepth 10000 in
set_option maxHeartbeats 1000000 in
theorem size_9 (W : World) : Calls Try.prog 57 #[.int .u64 268439576] W fun e W' => e = .returned (.int .i64 8) ∧ W = W' := by
  go_enter Try.func57, Try.ntmps57
  go_wp2_with fail
  go_ret
  exact ⟨rfl, rfl⟩
set_option maxRecDepth 10000 in
set_option maxHeartbeats 1000000 in
theorem size_10 (W : World) : Calls Try.prog 57 #[.int .u64 268443648] W fun e W' => e = .returned (.int .i64 8) ∧ W = W' := by
  go_enter Try.func57, Try.ntmps57
  go_wp2_with fail
  go_ret
  exact ⟨rfl, rfl⟩
set_option maxRecDepth 10000 in
set_option maxHeartbeats 1000000 in
theorem size_11 (W : World) : Calls Try.prog 57 #[.int .u64 268443656] W fun e W' => e = .returned (.int .i64 8) ∧ W = W' := by
  go_enter Try.func57, Try.ntmps57
  go_wp2_with fail
  go_ret
  exact ⟨rfl, rfl⟩
set_option maxRecDepth 10000 in
set_option maxHeartbeats 1000000 in
theorem size_12 (W : World) : Calls Try.prog 57 #[.int .u64 268443664] W fun e W' => e = .returned (.int .i64 8) ∧ W = W' := by
  go_enter Try.func57, Try.ntmps57
  go_wp2_with fail
  go_ret
  exact ⟨rfl, rfl⟩
set_option maxRecDepth 10000 in
set_option maxHeartbeats 1000000 in
theorem size_13 (W : World) : Calls Try.prog 57 #[.int .u64 268443672] W fun e W' => e = .returned (.int .i64 8) ∧ W = W' := by
  go_enter Try.func57, Try.ntmps57
  go_wp2_with fail
  go_ret
  exact ⟨rfl, rfl⟩
def NoPlace (t : Int) : Prop := (t == 33554432) = false ∧ (t == 33570816) = false ∧ (t == 33603576) = false ∧ (t == 268435456) = false ∧ (t == 268435457) = false ∧ (t == 268435461) = false ∧ (t == 268439552) = false ∧ (t == 268439560) = false ∧ (t == 268439568) = false ∧ (t == 268439576) = false ∧ (t == 268443648) = false ∧ (t == 268443656) = false ∧ (t == 268443664) = false ∧ (t == 268443672) = false
set_option maxRecDepth 10000 in
set_option maxHeartbeats 1000000 in
theorem size_no (t : Int) (h : NoPlace t) (W : World) : Calls Try.prog 57 #[.int .u64 t] W fun e W' => e = .returned (.int .i64 0) ∧ W = W' := by
  obtain ⟨h0, h1, h2, h3, h4, h5, h6, h7, h8, h9, h10, h11, h12, h13⟩ := h
  go_enter Try.func57, Try.ntmps57
  go_wp2_with fail
  go_ret
  exact ⟨rfl, rfl⟩
def ordV (v a b : Int) : Int := if (v == 1) = true then a else if (v == 2) = true then b else 0
set_option maxRecDepth 10000 in
set_option maxHeartbeats 1000000 in
theorem order_any (v a b : Int) (W : World) : Calls Try.prog 58 #[.int .u64 v, .int .i64 a, .int .i64 b] W fun e W' => e = .returned (.int .i64 (ordV v a b)) ∧ W = W' := by
  have HE : RowKit.Hid (∀ x y : Bool, (v == 1) = x → (v == 2) = y → ordV v a b = if x = true then a else if y = true then b else 0) := Lib.hid (by rintro x y rfl rfl; rfl)
  rcases Bool.eq_false_or_eq_true (v == 1) with h1 | h1
  all_goals rcases Bool.eq_false_or_eq_true (v == 2) with h2 | h2
  all_goals have HF := Lib.hid (HE.out _ _ h1 h2)
  all_goals
    go_enter Try.func58, Try.ntmps58
    go_wp2_with fail
    go_ret
    exact ⟨ret_int HF.out.symm, rfl⟩
set_option maxRecDepth 10000 in
set_option maxHeartbeats 1000000 in
theorem rorder_any (v a b : Int) (W : World) : Calls Try.prog 66 #[.int .u64 v, .int .i64 a, .int .i64 b] W fun e W' => e = .returned (.int .i64 (ordV v a b)) ∧ W = W' := by
  have HE : RowKit.Hid (∀ x y : Bool, (v == 1) = x → (v == 2) = y → ordV v a b = if x = true then a else if y = true then b else 0) := Lib.hid (by rintro x y rfl rfl; rfl)
  rcases Bool.eq_false_or_eq_true (v == 1) with h1 | h1
  all_goals rcases Bool.eq_false_or_eq_true (v == 2) with h2 | h2
  all_goals have HF := Lib.hid (HE.out _ _ h1 h2)
  all_goals
    go_enter Try.func66, Try.ntmps66
    go_wp2_with fail
    go_ret
    exact ⟨ret_int HF.out.symm, rfl⟩
def hasB (b : Bd) : Bool := (b.sec.size : Int) == 1024
set_option maxRecDepth 10000 in
set_option maxHeartbeats 1000000 in
theorem has_any (b : Bd) (W : World) : Calls Try.prog 72 #[bdV b] W fun e W' => e = .returned (.bool (hasB b)) ∧ Below W.heap.size W W' := by
  have m_sec : (bdC b)[4]? = some (.string b.sec) := bdC_head b 4 (by omega)
  go_enter Try.func72, Try.ntmps72
  go_wp2_with fail
  go_ret
  exact ⟨rfl, (Below.refl _ _).alloc (Nat.le_refl _) _⟩
theorem below_drewN {B : Nat} {w w' : World} (h : Below B w w') (n : Nat) : Below B w (w'.drewN n) := ⟨h.os, h.tape, h.output, h.size, h.block⟩
def clockV (b : Bd) (n : Int) : Int := bits .or .u64 (bV b.msip 3) (bV (decide (b.cmp ≤ n)) 7)
def sourcesV (b : Bd) (F : List ByteArray) : Int := IntKind.u32.wrap (bits .or .u64 (bits .or .u64 (bV (b.ier && decide (0 < b.inn.size)) 1) (bV b.done 2)) (bV (decide (0 < F.length)) 3))
set_option maxRecDepth 10000 in
set_option maxHeartbeats 1000000 in
theorem clock_any (b : Bd) (n : Int) (W : World) : Calls Try.prog 19 #[bdV b, .int .u64 n] W fun e W' => e = .returned (.int .u64 (clockV b n)) ∧ Below W.heap.size W W' := by
  have m_msip : (bdC b)[0]? = some (.bool b.msip) := bdC_head b 0 (by omega)
  have m_cmp : (bdC b)[1]? = some (.int .u64 b.cmp) := bdC_head b 1 (by omega)
  obtain ⟨x, Ex⟩ : ∃ x, bV (b.msip) 3 = x := ⟨_, rfl⟩
  have Cx : RowKit.Hid (∀ W, Calls Try.prog 43 #[.bool (b.msip), .int .i64 3] W fun e W' => e = .returned (.int .u64 x) ∧ W' = W) := Lib.hid fun W => (bit_3 _ W).mono fun _ _ h => ⟨by rw [← Ex]; exact h.1, h.2.symm⟩
  replace Ex := Lib.hid Ex
  obtain ⟨y, Ey⟩ : ∃ x, bV (decide (b.cmp ≤ n)) 7 = x := ⟨_, rfl⟩
  have Cy : RowKit.Hid (∀ W, Calls Try.prog 43 #[.bool (decide (b.cmp ≤ n)), .int .i64 7] W fun e W' => e = .returned (.int .u64 y) ∧ W' = W) := Lib.hid fun W => (bit_7 _ W).mono fun _ _ h => ⟨by rw [← Ey]; exact h.1, h.2.symm⟩
  replace Ey := Lib.hid Ey
  have HE : RowKit.Hid (bits .or .u64 x y = clockV b n) := Lib.hid (by unfold clockV; rw [Ex.out, Ey.out])
  go_enter Try.func19, Try.ntmps19
  go_upto_region 1 with (fail)
  go_quiet (first | (go_at_call 43; with_reducible exact Calls.quiet_of_same (Cx.out _)) | (go_at_call 43; with_reducible exact Calls.quiet_of_same (Cy.out _)))
  go_wp2_with fail
  go_ret
  exact ⟨ret_int HE.out, below_drewN ((Below.refl _ _).alloc (Nat.le_refl _) _) _⟩
set_option maxRecDepth 10000 in
set_option maxHeartbeats 1000000 in
theorem rclock_any (b : Bd) (n : Int) (W : World) : Calls Try.prog 22 #[bdV b, .int .u64 n] W fun e W' => e = .returned (.int .u64 (clockV b n)) ∧ Below W.heap.size W W' := by
  have m_msip : (bdC b)[0]? = some (.bool b.msip) := bdC_head b 0 (by omega)
  have m_cmp : (bdC b)[1]? = some (.int .u64 b.cmp) := bdC_head b 1 (by omega)
  obtain ⟨x, Ex⟩ : ∃ x, bV (b.msip) 3 = x := ⟨_, rfl⟩
  have Cx : RowKit.Hid (∀ W, Calls Try.prog 45 #[.bool (b.msip), .int .u64 3] W fun e W' => e = .returned (.int .u64 x) ∧ W' = W) := Lib.hid fun W => (rbit_3 _ W).mono fun _ _ h => ⟨by rw [← Ex]; exact h.1, h.2.symm⟩
  replace Ex := Lib.hid Ex
  obtain ⟨y, Ey⟩ : ∃ x, bV (decide (b.cmp ≤ n)) 7 = x := ⟨_, rfl⟩
  have Cy : RowKit.Hid (∀ W, Calls Try.prog 45 #[.bool (decide (b.cmp ≤ n)), .int .u64 7] W fun e W' => e = .returned (.int .u64 y) ∧ W' = W) := Lib.hid fun W => (rbit_7 _ W).mono fun _ _ h => ⟨by rw [← Ey]; exact h.1, h.2.symm⟩
  replace Ey := Lib.hid Ey
  have HE : RowKit.Hid (bits .or .u64 x y = clockV b n) := Lib.hid (by unfold clockV; rw [Ex.out, Ey.out])
  go_enter Try.func22, Try.ntmps22
  go_upto_region 1 with (fail)
  go_quiet (first | (go_at_call 45; with_reducible exact Calls.quiet_of_same (Cx.out _)) | (go_at_call 45; with_reducible exact Calls.quiet_of_same (Cy.out _)))
  go_wp2_with fail
  go_ret
  exact ⟨ret_int HE.out, below_drewN ((Below.refl _ _).alloc (Nat.le_refl _) _) _⟩
theorem in_none (s : ByteArray) : (!s.toList.isEmpty) = decide (0 < s.size) := by
  rw [ByteArray.toList_eq]
  have h : s.size = s.data.toList.length := by rw [Array.length_toList]; rfl
  rw [h]
  cases s.data.toList <;> simp
set_option maxRecDepth 10000 in
set_option maxHeartbeats 1000000 in
theorem sources_true (b : Bd) (F : List ByteArray) (W : World) (hi : b.ier = true) (hl : b.fn = F.length) : Calls Try.prog 21 #[bdV b] W fun e W' => e = .returned (.int .u32 (sourcesV b F)) ∧ Below W.heap.size W W' := by
  have m_inn : (bdC b)[2]? = some (.string b.inn) := bdC_head b 2 (by omega)
  have m_ier : (bdC b)[3]? = some (.bool b.ier) := bdC_head b 3 (by omega)
  have m_done : (bdC b)[7]? = some (.bool b.done) := bdC_head b 7 (by omega)
  have m_fr : (bdC b)[9]? = some (.slice b.fp b.fn b.fc) := bdC_head b 9 (by omega)
  rw [hi] at m_ier
  rw [hl] at m_fr
  obtain ⟨x, Ex⟩ : ∃ x, bV (!b.inn.toList.isEmpty) 1 = x := ⟨_, rfl⟩
  have Cx : RowKit.Hid (∀ W, Calls Try.prog 43 #[.bool (!b.inn.toList.isEmpty), .int .i64 1] W fun e W' => e = .returned (.int .u64 x) ∧ W' = W) := Lib.hid fun W => (bit_1 _ W).mono fun _ _ h => ⟨by rw [← Ex]; exact h.1, h.2.symm⟩
  replace Ex := Lib.hid Ex
  obtain ⟨y, Ey⟩ : ∃ x, bV (b.done) 2 = x := ⟨_, rfl⟩
  have Cy : RowKit.Hid (∀ W, Calls Try.prog 43 #[.bool (b.done), .int .i64 2] W fun e W' => e = .returned (.int .u64 y) ∧ W' = W) := Lib.hid fun W => (bit_2 _ W).mono fun _ _ h => ⟨by rw [← Ey]; exact h.1, h.2.symm⟩
  replace Ey := Lib.hid Ey
  obtain ⟨z, Ez⟩ : ∃ x, bV (decide (0 < F.length)) 3 = x := ⟨_, rfl⟩
  have Cz : RowKit.Hid (∀ W, Calls Try.prog 43 #[.bool (decide (0 < F.length)), .int .i64 3] W fun e W' => e = .returned (.int .u64 z) ∧ W' = W) := Lib.hid fun W => (bit_3 _ W).mono fun _ _ h => ⟨by rw [← Ez]; exact h.1, h.2.symm⟩
  replace Ez := Lib.hid Ez
  have HE : RowKit.Hid (IntKind.u32.wrap (bits .or .u64 (bits .or .u64 x y) z) = sourcesV b F) := Lib.hid (by unfold sourcesV; rw [← Ex.out, ← Ey.out, ← Ez.out, hi]; simp [in_none])
  clear hi hl
  go_enter Try.func21, Try.ntmps21
  go_upto_region 1 with (fail)
  go_quiet (first | (go_at_call 43; with_reducible exact Calls.quiet_of_same (Cx.out _)) | (go_at_call 43; with_reducible exact Calls.quiet_of_same (Cy.out _)) | (go_at_call 43; with_reducible exact Calls.quiet_of_same (Cz.out _)))
  go_wp2_with fail
  go_ret
  exact ⟨ret_int HE.out, below_drewN ((Below.refl _ _).alloc (Nat.le_refl _) _) _⟩
set_option maxRecDepth 10000 in
set_option maxHeartbeats 1000000 in
theorem sources_false (b : Bd) (F : List ByteArray) (W : World) (hi : b.ier = false) (hl : b.fn = F.length) : Calls Try.prog 21 #[bdV b] W fun e W' => e = .returned (.int .u32 (sourcesV b F)) ∧ Below W.heap.size W W' := by
  have m_inn : (bdC b)[2]? = some (.string b.inn) := bdC_head b 2 (by omega)
  have m_ier : (bdC b)[3]? = some (.bool b.ier) := bdC_head b 3 (by omega)
  have m_done : (bdC b)[7]? = some (.bool b.done) := bdC_head b 7 (by omega)
  have m_fr : (bdC b)[9]? = some (.slice b.fp b.fn b.fc) := bdC_head b 9 (by omega)
  rw [hi] at m_ier
  rw [hl] at m_fr
  obtain ⟨x, Ex⟩ : ∃ x, bV (false) 1 = x := ⟨_, rfl⟩
  have Cx : RowKit.Hid (∀ W, Calls Try.prog 43 #[.bool (false), .int .i64 1] W fun e W' => e = .returned (.int .u64 x) ∧ W' = W) := Lib.hid fun W => (bit_1 _ W).mono fun _ _ h => ⟨by rw [← Ex]; exact h.1, h.2.symm⟩
  replace Ex := Lib.hid Ex
  obtain ⟨y, Ey⟩ : ∃ x, bV (b.done) 2 = x := ⟨_, rfl⟩
  have Cy : RowKit.Hid (∀ W, Calls Try.prog 43 #[.bool (b.done), .int .i64 2] W fun e W' => e = .returned (.int .u64 y) ∧ W' = W) := Lib.hid fun W => (bit_2 _ W).mono fun _ _ h => ⟨by rw [← Ey]; exact h.1, h.2.symm⟩
  replace Ey := Lib.hid Ey
  obtain ⟨z, Ez⟩ : ∃ x, bV (decide (0 < F.length)) 3 = x := ⟨_, rfl⟩
  have Cz : RowKit.Hid (∀ W, Calls Try.prog 43 #[.bool (decide (0 < F.length)), .int .i64 3] W fun e W' => e = .returned (.int .u64 z) ∧ W' = W) := Lib.hid fun W => (bit_3 _ W).mono fun _ _ h => ⟨by rw [← Ez]; exact h.1, h.2.symm⟩
  replace Ez := Lib.hid Ez
  have HE : RowKit.Hid (IntKind.u32.wrap (bits .or .u64 (bits .or .u64 x y) z) = sourcesV b F) := Lib.hid (by unfold sourcesV; rw [← Ex.out, ← Ey.out, ← Ez.out, hi]; simp)
  clear hi hl
  go_enter Try.func21, Try.ntmps21
  go_upto_region 1 with (fail)
  go_quiet (first | (go_at_call 43; with_reducible exact Calls.quiet_of_same (Cx.out _)) | (go_at_call 43; with_reducible exact Calls.quiet_of_same (Cy.out _)) | (go_at_call 43; with_reducible exact Calls.quiet_of_same (Cz.out _)))
  go_wp2_with fail
  go_ret
  exact ⟨ret_int HE.out, below_drewN ((Below.refl _ _).alloc (Nat.le_refl _) _) _⟩
set_option maxRecDepth 10000 in
set_option maxHeartbeats 1000000 in
theorem rsources_true (b : Bd) (F : List ByteArray) (W : World) (hi : b.ier = true) (hl : b.fn = F.length) : Calls Try.prog 24 #[bdV b] W fun e W' => e = .returned (.int .u32 (sourcesV b F)) ∧ Below W.heap.size W W' := by
  have m_inn : (bdC b)[2]? = some (.string b.inn) := bdC_head b 2 (by omega)
  have m_ier : (bdC b)[3]? = some (.bool b.ier) := bdC_head b 3 (by omega)
  have m_done : (bdC b)[7]? = some (.bool b.done) := bdC_head b 7 (by omega)
  have m_fr : (bdC b)[9]? = some (.slice b.fp b.fn b.fc) := bdC_head b 9 (by omega)
  rw [hi] at m_ier
  rw [hl] at m_fr
  obtain ⟨x, Ex⟩ : ∃ x, bV (decide (0 < b.inn.size)) 1 = x := ⟨_, rfl⟩
  have Cx : RowKit.Hid (∀ W, Calls Try.prog 45 #[.bool (decide (0 < b.inn.size)), .int .u64 1] W fun e W' => e = .returned (.int .u64 x) ∧ W' = W) := Lib.hid fun W => (rbit_1 _ W).mono fun _ _ h => ⟨by rw [← Ex]; exact h.1, h.2.symm⟩
  replace Ex := Lib.hid Ex
  obtain ⟨y, Ey⟩ : ∃ x, bV (b.done) 2 = x := ⟨_, rfl⟩
  have Cy : RowKit.Hid (∀ W, Calls Try.prog 45 #[.bool (b.done), .int .u64 2] W fun e W' => e = .returned (.int .u64 y) ∧ W' = W) := Lib.hid fun W => (rbit_2 _ W).mono fun _ _ h => ⟨by rw [← Ey]; exact h.1, h.2.symm⟩
  replace Ey := Lib.hid Ey
  obtain ⟨z, Ez⟩ : ∃ x, bV (decide (0 < F.length)) 3 = x := ⟨_, rfl⟩
  have Cz : RowKit.Hid (∀ W, Calls Try.prog 45 #[.bool (decide (0 < F.length)), .int .u64 3] W fun e W' => e = .returned (.int .u64 z) ∧ W' = W) := Lib.hid fun W => (rbit_3 _ W).mono fun _ _ h => ⟨by rw [← Ez]; exact h.1, h.2.symm⟩
  replace Ez := Lib.hid Ez
  have HE : RowKit.Hid (IntKind.u32.wrap (bits .or .u64 (bits .or .u64 x y) z) = sourcesV b F) := Lib.hid (by unfold sourcesV; rw [← Ex.out, ← Ey.out, ← Ez.out, hi]; simp)
  clear hi hl
  go_enter Try.func24, Try.ntmps24
  go_upto_region 1 with (fail)
  go_quiet (first | (go_at_call 45; with_reducible exact Calls.quiet_of_same (Cx.out _)) | (go_at_call 45; with_reducible exact Calls.quiet_of_same (Cy.out _)) | (go_at_call 45; with_reducible exact Calls.quiet_of_same (Cz.out _)))
  go_wp2_with fail
  go_ret
  exact ⟨ret_int HE.out, below_drewN ((Below.refl _ _).alloc (Nat.le_refl _) _) _⟩
set_option maxRecDepth 10000 in
set_option maxHeartbeats 1000000 in
theorem rsources_false (b : Bd) (F : List ByteArray) (W : World) (hi : b.ier = false) (hl : b.fn = F.length) : Calls Try.prog 24 #[bdV b] W fun e W' => e = .returned (.int .u32 (sourcesV b F)) ∧ Below W.heap.size W W' := by
  have m_inn : (bdC b)[2]? = some (.string b.inn) := bdC_head b 2 (by omega)
  have m_ier : (bdC b)[3]? = some (.bool b.ier) := bdC_head b 3 (by omega)
  have m_done : (bdC b)[7]? = some (.bool b.done) := bdC_head b 7 (by omega)
  have m_fr : (bdC b)[9]? = some (.slice b.fp b.fn b.fc) := bdC_head b 9 (by omega)
  rw [hi] at m_ier
  rw [hl] at m_fr
  obtain ⟨x, Ex⟩ : ∃ x, bV (false) 1 = x := ⟨_, rfl⟩
  have Cx : RowKit.Hid (∀ W, Calls Try.prog 45 #[.bool (false), .int .u64 1] W fun e W' => e = .returned (.int .u64 x) ∧ W' = W) := Lib.hid fun W => (rbit_1 _ W).mono fun _ _ h => ⟨by rw [← Ex]; exact h.1, h.2.symm⟩
  replace Ex := Lib.hid Ex
  obtain ⟨y, Ey⟩ : ∃ x, bV (b.done) 2 = x := ⟨_, rfl⟩
  have Cy : RowKit.Hid (∀ W, Calls Try.prog 45 #[.bool (b.done), .int .u64 2] W fun e W' => e = .returned (.int .u64 y) ∧ W' = W) := Lib.hid fun W => (rbit_2 _ W).mono fun _ _ h => ⟨by rw [← Ey]; exact h.1, h.2.symm⟩
  replace Ey := Lib.hid Ey
  obtain ⟨z, Ez⟩ : ∃ x, bV (decide (0 < F.length)) 3 = x := ⟨_, rfl⟩
  have Cz : RowKit.Hid (∀ W, Calls Try.prog 45 #[.bool (decide (0 < F.length)), .int .u64 3] W fun e W' => e = .returned (.int .u64 z) ∧ W' = W) := Lib.hid fun W => (rbit_3 _ W).mono fun _ _ h => ⟨by rw [← Ez]; exact h.1, h.2.symm⟩
  replace Ez := Lib.hid Ez
  have HE : RowKit.Hid (IntKind.u32.wrap (bits .or .u64 (bits .or .u64 x y) z) = sourcesV b F) := Lib.hid (by unfold sourcesV; rw [← Ex.out, ← Ey.out, ← Ez.out, hi]; simp)
  clear hi hl
  go_enter Try.func24, Try.ntmps24
  go_upto_region 1 with (fail)
  go_quiet (first | (go_at_call 45; with_reducible exact Calls.quiet_of_same (Cx.out _)) | (go_at_call 45; with_reducible exact Calls.quiet_of_same (Cy.out _)) | (go_at_call 45; with_reducible exact Calls.quiet_of_same (Cz.out _)))
  go_wp2_with fail
  go_ret
  exact ⟨ret_int HE.out, below_drewN ((Below.refl _ _).alloc (Nat.le_refl _) _) _⟩
theorem sources_any (b : Bd) (F : List ByteArray) (W : World) (hl : b.fn = F.length) : Calls Try.prog 21 #[bdV b] W fun e W' => e = .returned (.int .u32 (sourcesV b F)) ∧ Below W.heap.size W W' := by
  rcases Bool.eq_false_or_eq_true b.ier with hi | hi
  · exact sources_true b F W hi hl
  · exact sources_false b F W hi hl
theorem rsources_any (b : Bd) (F : List ByteArray) (W : World) (hl : b.fn = F.length) : Calls Try.prog 24 #[bdV b] W fun e W' => e = .returned (.int .u32 (sourcesV b F)) ∧ Below W.heap.size W W' := by
  rcases Bool.eq_false_or_eq_true b.ier with hi | hi
  · exact rsources_true b F W hi hl
  · exact rsources_false b F W hi hl

end Go.Proofs.Ytnedhjaphfjdmaa
