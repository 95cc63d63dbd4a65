/- Grow and Concat of lists of entries. -/
import Derived.Test.YthlghmechldegaaK
namespace Go.Proofs.Ythlghmechldegaa
open Go.RowKit Go.Deep Go.Joins
set_option maxRecDepth 100000
set_option maxHeartbeats 2000000 in
theorem grow_any (n : Nat) (hn : n * 64 ≤ 140737488355328) (W : World) : Calls Try.prog 49 #[.slice none 0 0, .int .i64 n] W fun r W' => ∃ q c, r = .returned (.slice q 0 c) ∧ OwnE W' W.heap.size (.slice q 0 c) [] ∧ Below W.heap.size W W' := by
  by_cases h0 : n = 0
  · subst h0
    go_enter Try.func49, Try.ntmps49
    go_wp2
    go_ret
    exact ⟨_, _, rfl, World.ownsRow_nil _ _ _ _, Below.refl _ _⟩
  · obtain ⟨i, hi, hz, hs, hby⟩ := info36
    have hrun := Lib.run_append_nil_zeros (P := Try.prog) W 25 3 25 36 i _ .i64 .i64 Try.underlying25 Try.underlying3 hi hz n (by omega) (by omega) (by omega) (by rw [hby]; omega)
    have hge := grownCap_ge W n 0 36
    have hcm : grownCap W n 0 36 ≤ maxLen := grownCap_le_maxLen W n 0 36 (by unfold maxLen; omega)
    have HO := Lib.hid (show OwnE (W.drew.alloc (.cells (Builtin.zeroCells (Value.agg zenC).cells n ++ Builtin.zeroCells (Value.agg zenC).cells (grownCap W n 0 36 - n)) 36)) W.heap.size (.slice (some ⟨W.heap.size, 0, none⟩) 0 (grownCap W n 0 36)) [] from ⟨rfl, .inr ⟨W.heap.size, _, _, rfl, Nat.le_refl _, heap_alloc_new W.drew _, Nat.zero_le _, hcm, by
      simp only [Array.size_append, size_zeroCells]
      show n * 13 + (grownCap W n 0 36 - n) * 13 = _
      rw [← Nat.add_mul]
      congr 1
      omega, by simp [eC]⟩⟩)
    have HB := Lib.hid (show Below W.heap.size W (W.drew.alloc (.cells (Builtin.zeroCells (Value.agg zenC).cells n ++ Builtin.zeroCells (Value.agg zenC).cells (grownCap W n 0 36 - n)) 36)) from (Below.refl _ _).drew.alloc (Nat.le_refl _) _)
    have HR := Lib.hid hrun
    clear hrun hi hz hs hby
    have hcm2 : grownCap W n 0 36 ≤ 9223372036854775807 := by unfold maxLen at hcm; omega
    clear hcm
    generalize grownCap W n 0 36 = cap at *
    generalize (W.drew.alloc (.cells (Builtin.zeroCells (Value.agg zenC).cells n ++ Builtin.zeroCells (Value.agg zenC).cells (cap - n)) 36)) = w5 at *
    have q1 : decide ((n : Int) < 0) = false := decide_eq_false (by omega)
    have q2 : decide ((0 : Int) < n) = true := decide_eq_true (by omega)
    go_enter Try.func49, Try.ntmps49
    go_wp2_with (first | (at_builtin; (refine Lib.wpList_append_run _ rfl (.tmp 20) (.tmp 21) 25 3 rfl _ _ rfl rfl _ _ HR.out ?_)) | fail)
    go_ret
    exact ⟨_, _, rfl, HO.out, HB.out⟩
end Go.Proofs.Ythlghmechldegaa
