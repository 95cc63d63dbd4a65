/- The program is awake. -/
import Derived.Test.YtmpmgepffphnfaaN
import Derived.Test.YtmpmgepffphnfaaK
import Derived.Test.YtmpmgepffphnfaaE
namespace Go.Proofs.Ytmpmgepffphnfaa
open Go.RowKit Go.Deep Go.Joins
def p1st : Pl := (⟨0, 3, 0, 0, 0, 0, 0, 0, 0⟩ : Pl)
def p2nd : Pl := (⟨0, 3, 0, 0, 2, 0, 0, 0, 0⟩ : Pl)
theorem st_1st : stF zeroP 201326596 4 3 = (p1st, true) := by kernel_rfl
theorem st_2nd : stF p1st 201334784 4 2 = (p2nd, true) := by kernel_rfl
theorem best_up : bestF p2nd 2 0 = 1 := by kernel_rfl
theorem best_mid : bestF p2nd 2 1 = 0 := by kernel_rfl
theorem lines_2nd : linesF p2nd 2 = 2048 := by kernel_rfl
theorem call_1st (W : World) : Calls Try.prog 16 #[.agg zeroC, .int .u64 201326596, .int .i64 4, .int .u64 3] W fun e W' => e = .returned (.tuple #[plV p1st, .bool true]) ∧ Below W.heap.size W W' := by
  have h := store_any zeroP 201326596 4 3 u32_zero W
  rw [st_1st] at h
  exact h
theorem call_2nd (W : World) : Calls Try.prog 16 #[plV p1st, .int .u64 201334784, .int .i64 4, .int .u64 2] W fun e W' => e = .returned (.tuple #[plV p2nd, .bool true]) ∧ Below W.heap.size W W' := by
  have h := store_any p1st 201334784 4 2 u32_zero W
  rw [st_2nd] at h
  exact h
theorem call_up (W : World) : Calls Try.prog 8 #[plV p2nd, .int .u32 2, .int .i64 0] W fun e W' => e = .returned (.int .i64 1) ∧ Below W.heap.size W W' := best_up ▸ best_any p2nd 2 0 W
theorem call_mid (W : World) : Calls Try.prog 8 #[plV p2nd, .int .u32 2, .int .i64 1] W fun e W' => e = .returned (.int .i64 0) ∧ Below W.heap.size W W' := best_mid ▸ best_any p2nd 2 1 W
theorem call_lines (W : World) : Calls Try.prog 10 #[plV p2nd, .int .u32 2] W fun e W' => e = .returned (.int .u64 2048) ∧ Below W.heap.size W W' := lines_2nd ▸ lines_any p2nd 2 W
set_option maxRecDepth 100000 in
set_option maxHeartbeats 1000000 in
theorem awake_any (W : World) : Calls Try.prog 7 #[] W fun e W' => e = .returned (.bool true) ∧ Below W.heap.size W W' := by
  have X := Lib.hid (Vs.nil W)
  go_enter Try.func7, Try.ntmps7
  go_wp2_with (first | (with_reducible refine wpList_store_by rfl rfl (store_new _ (p1st)) rfl rfl ?_; have X := Lib.hid (X.out.new (p1st))) | (with_reducible refine wpList_store_ex rfl rfl (Vs.put0 X.out _) rfl rfl ?_; intro wy hy; have X := Lib.hid hy; clear hy) | (with_reducible refine wpList_load_by rfl rfl (Box.load (Vs.g0 X.out)) rfl ?_) | (with_reducible refine wpList_load_wanted (by first | exact rfl | (simp [Region.wanted, yielded]; done)) rfl (Box.load (Vs.g0 X.out)) rfl ?_) | (go_at_call 16; (with_reducible refine (call_2nd _).mono ?_); rintro e w' ⟨rfl, kk⟩; have X := Lib.hid (X.out.next kk); clear kk) | (go_at_call 16; (refine (call_1st _).mono ?_); rintro e w' ⟨rfl, kk⟩; have X := Lib.hid (X.out.next kk); clear kk) | (go_at_call 8; (with_reducible refine (call_up _).mono ?_); rintro e w' ⟨rfl, kk⟩; have X := Lib.hid (X.out.next kk); clear kk) | (go_at_call 8; (with_reducible refine (call_mid _).mono ?_); rintro e w' ⟨rfl, kk⟩; have X := Lib.hid (X.out.next kk); clear kk) | (go_at_call 10; (with_reducible refine (call_lines _).mono ?_); rintro e w' ⟨rfl, kk⟩; have X := Lib.hid (X.out.next kk); clear kk) | fail)
  go_ret
  exact ⟨rfl, X.out.below⟩

end Go.Proofs.Ytmpmgepffphnfaa
