/- The program is awake. -/
import Derived.Test.YtmjlgoceokdabaaS
namespace Go.Proofs.Ytmjlgoceokdabaa
open Go.RowKit Go.Deep Go.Joins
theorem nil_at (w : World) : DAt w (.slice none 0 0) [] := ⟨rfl, .inl ⟨rfl, rfl⟩⟩
theorem start_a (W : World) : Calls Try.prog 9 #[.agg #[.int .u64 0, .int .u64 0, .int .u64 0, .int .u64 0, .int .u64 0, .int .u64 0, .int .u64 0, .int .u64 0, .int .u64 0, .int .u64 0, .int .u64 0, .int .u64 0, .int .u64 0, .int .u64 0, .int .u64 0, .int .u64 0], .int .i64 3, .agg #[.slice none 0 0, .slice none 0 0, .int .u64 0], .int .u64 4660, .int .i64 1] W fun e W' => e = .returned (.tuple #[.int .u64 4660, .int .i64 (-1)]) ∧ Below W.heap.size W W' := by
  have h := find_any #[.int .u64 0, .int .u64 0, .int .u64 0, .int .u64 0, .int .u64 0, .int .u64 0, .int .u64 0, .int .u64 0, .int .u64 0, .int .u64 0, .int .u64 0, .int .u64 0, .int .u64 0, .int .u64 0, .int .u64 0, .int .u64 0] #[.slice none 0 0, .slice none 0 0, .int .u64 0] 0 0 3 4660 1 [] W ⟨rfl, rfl, rfl⟩ rfl (by omega) (load_ok (nil_at W))
  have e : findF [] 0 0 3 4660 1 = (4660, -1) := by kernel_rfl
  rw [e] at h
  exact h
theorem start_b (W : World) : Calls Try.prog 9 #[.agg #[.int .u64 0, .int .u64 0, .int .u64 0, .int .u64 0, .int .u64 0, .int .u64 0, .int .u64 0, .int .u64 0, .int .u64 0, .int .u64 0, .int .u64 0, .int .u64 0, .int .u64 0, .int .u64 0, .int .u64 0, .int .u64 9223372036854775808], .int .i64 1, .agg #[.slice none 0 0, .slice none 0 0, .int .u64 0], .int .u64 4660, .int .i64 1] W fun e W' => e = .returned (.tuple #[.int .u64 0, .int .i64 5]) ∧ Below W.heap.size W W' := by
  have h := find_any #[.int .u64 0, .int .u64 0, .int .u64 0, .int .u64 0, .int .u64 0, .int .u64 0, .int .u64 0, .int .u64 0, .int .u64 0, .int .u64 0, .int .u64 0, .int .u64 0, .int .u64 0, .int .u64 0, .int .u64 0, .int .u64 9223372036854775808] #[.slice none 0 0, .slice none 0 0, .int .u64 0] 0 9223372036854775808 1 4660 1 [] W ⟨rfl, rfl, rfl⟩ rfl (by omega) (load_ok (nil_at W))
  have e : findF [] 0 9223372036854775808 1 4660 1 = (0, 5) := by kernel_rfl
  rw [e] at h
  exact h
set_option maxRecDepth 100000 in
set_option maxHeartbeats 1000000 in
theorem awake_any (W : World) : Calls Try.prog 7 #[] W fun e W' => e = .returned (.bool true) ∧ Below W.heap.size W W' := by
  have a := Lib.hid start_a
  have b := Lib.hid start_b
  go_enter Try.func7, Try.ntmps7
  go_wp2_with (first | (go_at_call 9; (with_reducible refine (a.out _).mono ?_); rintro e w1 ⟨rfl, k1⟩; have k1 := Lib.hid k1) | (go_at_call 9; (with_reducible refine (b.out _).mono ?_); rintro e w2 ⟨rfl, k2⟩; have k2 := Lib.hid k2) | fail)
  go_ret
  exact ⟨rfl, below_then k1.out k2.out⟩

end Go.Proofs.Ytmjlgoceokdabaa
