/- All bytes of a segment; the plan that syncs. -/
import Derived.Test.YtkecjopojnllnaaQJ
import Derived.Test.YtkecjopojnllnaaPSc
import Derived.Handy
namespace Go.Proofs.Ytkecjopojnllnaa
open Go.RowKit Go.Deep Go.Joins

def syncV (x : ByteArray) : Value := .agg #[.int .i64 2, .string x, .int .i64 0, .string ⟨#[]⟩]
set_option maxRecDepth 100000 in
set_option maxHeartbeats 1000000 in
theorem syncOf_any (x : ByteArray) (w : World) : Calls Try.prog 44 #[.string x] w fun e w' => e = .returned (syncV x) ∧ Below w.heap.size w w' := by
  go_enter Try.func44, Try.ntmps44
  go_wp2_with fail
  go_returns
  exact ⟨rfl, below1 w _⟩
theorem reads_last {W : World} (r : Rw) : Reads (W.alloc (.cells #[.string r.name, .string r.safe, r.ov] 58)) (.slice (some ⟨W.heap.size, 0, none⟩) 1 1) 3 1 (rowCells [r]) := by
  refine ⟨rfl, .inr ⟨_, 1, rfl, Nat.le_refl _, by unfold maxLen; omega, fun j u hu => ?_⟩⟩
  rw [add_lit]
  rcases j with _ | _ | _ | j
  · simpa [rowCells] using hu
  · simpa [rowCells] using hu
  · simpa [rowCells] using hu
  · simp [rowCells] at hu
/-- The file of a segment whose open writes are these. -/
def Sg.rw (s : Sg) (L : List Wr) : Rw := ⟨s.name, s.safe, s.ov, L⟩
theorem idx_own (r : Rw) : idx (sameName r.name) [r] = (0 : Nat) := idx_some (l := [r]) (k := 0) (by simp) (fun j _ h => absurd h (Nat.not_lt_zero _)) (sameName_self r)
set_option maxRecDepth 100000 in
set_option maxHeartbeats 1000000 in
theorem bytesOf_any (s : Sg) (L : List Wr) (w : World) (ho : Reads w s.ov 2 L.length (wrCells L)) (hok : Okay [s.rw L]) : Calls Try.prog 56 #[s.val] w fun e w' => e = .returned (.string (layB s.safe L)) ∧ Below w.heap.size w w' := by
  have hb : ∀ o, Calls Try.prog 73 #[.agg #[.slice (some ⟨w.heap.size + 1, 0, none⟩) 1 1], .string s.name] ((w.alloc o).alloc (.cells #[.string s.name, .string s.safe, s.ov] 58)) fun e w' => e = .returned (.tuple #[.string (layB s.safe L), .int .i64 0]) ∧ Below w.heap.size w w' := by
    intro o
    have hr := reads_last (W := w.alloc o) (s.rw L)
    rw [show (w.alloc o).heap.size = w.heap.size + 1 by simp] at hr
    refine (bytes_some [s.rw L] _ s.name _ 0 (by simp) hr ?_ hok (by simp) (idx_own (s.rw L))).mono fun e w' h => ⟨h.1, below_then (below2 w _ _) h.2⟩
    intro r hr
    rw [List.mem_singleton] at hr
    subst hr
    exact ho.below (below2 w _ _)
  have HB := Lib.hid hb
  clear hb ho hok
  unfold Sg.val
  go_enter Try.func56, Try.ntmps56
  go_wp2_with (go_at_call 73; with_reducible refine (HB.out _).mono ?_; rintro e w1 ⟨rfl, hb1⟩)
  go_ret
  exact ⟨rfl, hb1⟩
end Go.Proofs.Ytkecjopojnllnaa
