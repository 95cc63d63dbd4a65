/- The program is awake. -/
import Derived.Test.YtbdoiomnoajnpaaMA
namespace Go.Proofs.Ytbdoiomnoajnpaa
open Go.RowKit Go.Deep Go.Joins
def startH : Hart := (⟨[0, 0, 0, 0, 0, 0, 0, 0, 0, 0, 0, 0, 0, 0, 0, 0, 0, 0, 0, 0, 0, 0, 0, 0, 0, 0, 0, 0, 0, 0, 0, 0], rfl, 8, 3, ⟨0, 0, 0, 0, 0, 0, 0, 0, 0, 0, 0, 0, 0, 0, 0, 0⟩, false, 0⟩ : Hart)
def trapH : Hart := (⟨[0, 0, 0, 0, 0, 0, 0, 0, 0, 0, 0, 0, 0, 0, 0, 0, 0, 0, 0, 0, 0, 0, 0, 0, 0, 0, 0, 0, 0, 0, 0, 0], rfl, 0, 3, ⟨6144, 0, 0, 0, 0, 0, 0, 8, 3, 9, 0, 0, 0, 0, 0, 0⟩, false, 0⟩ : Hart)
theorem trap_is : takeF startH 3 false 9 = trapH := by kernel_rfl
theorem trap_calm : pendV trapH 0 = -1 := by kernel_rfl
theorem bit_any (b : Bool) (W : World) : Calls Try.prog 17 #[.bool b] W fun e W' => e = .returned (.int .u64 (if b = true then 1 else 0)) ∧ W = W' := by
  cases b
  all_goals
    go_enter Try.func17, Try.ntmps17
    go_wp2
    go_ret
    exact ⟨rfl, rfl⟩
theorem take_start (W : World) : Calls Try.prog 10 #[hartV startH, .int .i64 3, .bool false, .int .u64 9] W fun e W' => e = .returned (hartV trapH) ∧ Below W.heap.size W W' := trap_is ▸ take_any startH 3 false 9 (by omega) W
theorem calm_any (W : World) : Calls Try.prog 8 #[hartV trapH, .int .u64 0] W fun e W' => e = .returned (.int .i64 (-1)) ∧ Below W.heap.size W W' := trap_calm ▸ pend_any trapH 0 W
set_option maxHeartbeats 1000000 in
theorem awake_any (W : World) : Calls Try.prog 7 #[] W fun e W' => e = .returned (.bool true) ∧ Below W.heap.size W W' := by
  have m7 : (hartC trapH)[41]? = some (.int .u64 8) := hartC_tail trapH 9
  have m8 : (hartC trapH)[42]? = some (.int .u64 3) := hartC_tail trapH 10
  have m9 : (hartC trapH)[43]? = some (.int .u64 9) := hartC_tail trapH 11
  have m1 : (hartC trapH)[33]? = some (.int .i64 3) := hartC_tail trapH 1
  go_enter Try.func7, Try.ntmps7
  go_wp2_with (first | (go_at_call 10; (refine (take_start _).mono ?_); rintro e w1 ⟨rfl, k1⟩) | (with_reducible refine wpList_store_by rfl rfl (store_new w1 _) rfl rfl ?_) | (with_reducible show wpList _ _ _ (⟨some 26, Op.load 27 (.tmp 1), 27, _, _, _⟩ :: _) _ _; refine wpList_load_wanted (by first | exact rfl | (simp [Region.wanted, yielded]; done) | (simp [Region.wanted, yielded, Act.put]; done)) rfl (Box.load (Box.new w1 trapH)) rfl ?_) | (go_at_call 8; (with_reducible refine (calm_any _).mono ?_); rintro e w2 ⟨rfl, k2⟩) | fail)
  go_ret
  exact ⟨rfl, below_then (k1.alloc k1.size _) (Nat.le_refl _) k2⟩

end Go.Proofs.Ytbdoiomnoajnpaa
