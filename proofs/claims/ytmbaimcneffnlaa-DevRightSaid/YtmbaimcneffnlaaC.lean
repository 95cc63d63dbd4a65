/- Text of the program. -/
import Derived.Test.YtmbaimcneffnlaaB
import Derived.Laws.Bits64b
import Derived.IntWalk
namespace Go.Proofs.Ytmbaimcneffnlaa
open Go.RowKit Go.Deep Go.Joins
theorem DAt.cell {w : World} {v : Value} {D : List UInt8} (h : DAt w v D) (h0 : 0 < D.length) :
    ∃ b off cap, v = .slice (some ⟨b, off, none⟩) D.length cap ∧ D.length ≤ cap ∧ cap ≤ maxLen ∧ b < w.heap.size ∧ ∀ j (hj : j < D.length), w.cell? ⟨b, off + j, none⟩ = some (.int .u8 (D[j].toNat : Int)) := by
  obtain ⟨b, off, cap, h1, h2, h3, h4, h5⟩ := Reads.at h (by omega)
  exact ⟨b, off, cap, h1, h2, h3, h4, fun j hj => h5 j _ (by simp [dC, hj])⟩
/-! ### Text -/
def bytesOf (D : List UInt8) (k s : Nat) : ByteArray := ⟨((D.drop k).take s).toArray⟩
set_option maxHeartbeats 1000000 in
theorem text_none (v : Value) (mv ev : Value) (t : Int) (w : World) :
    Calls Try.prog 36 #[.agg #[v, mv, ev], .int .u64 t, .int .i64 0] w fun e w' => e = .returned (.tuple #[.string ⟨#[]⟩, .int .i64 0]) ∧ Below w.heap.size w w' := by
  go_enter Try.func36, Try.ntmps36
  go_wp2_with fail
  go_ret2
  exact ⟨rfl, below1 w _⟩
set_option maxHeartbeats 1000000 in
theorem text_ram (p : Option Addr) (n cap : Nat) (mv ev : Value) (t size : Int) (w : World) (hn : n ≤ 9223372036854775807) (ht0 : 0 ≤ t) (ht1 : t ≤ 18446744073709551615) (hs0 : -9223372036854775808 ≤ size) (hs1 : size ≤ 9223372036854775807) (h0 : size ≠ 0)
    (hth : thereB n t size = false) :
    Calls Try.prog 36 #[.agg #[.slice p n cap, mv, ev], .int .u64 t, .int .i64 size] w fun e w' => e = .returned (.tuple #[.string ⟨#[]⟩, .int .i64 50]) ∧ Below w.heap.size w w' := by
  have h0' : (size == 0) = false := by simpa using h0
  have HT := Lib.hid hth
  clear hth
  go_enter Try.func36, Try.ntmps36
  go_wp2_with fail
  refine (there_any _ _ _ _ _ _ _ _ hn (by omega) (by omega) (by omega) (by omega)).mono ?_
  rintro e w1 ⟨rfl, hb1⟩
  rw [HT.out]
  have hbw := below_then (below1 w _) hb1
  go_wp2_with fail
  go_ret2
  exact ⟨rfl, hbw⟩
set_option maxHeartbeats 1000000 in
theorem text_any (v : Value) (D : List UInt8) (mv ev : Value) (t size : Int) (w : World) (hd : DAt w v D) (ht0 : 0 ≤ t) (ht1 : t ≤ 18446744073709551615) (hs1 : size ≤ 9223372036854775807) (h0 : 0 < size)
    (hth : thereB D.length t size = true) :
    Calls Try.prog 36 #[.agg #[v, mv, ev], .int .u64 t, .int .i64 size] w fun e w' => e = .returned (.tuple #[.string (bytesOf D (t - 2147483648).toNat size.toNat), .int .i64 0]) ∧ Below w.heap.size w w' := by
  have hn := hd.le
  obtain ⟨h00, h1, h2⟩ := there_iff.1 hth
  have h0' : (size == 0) = false := by simp; omega
  obtain ⟨b, off, cap, rfl, hcap, hmax, hb, hc⟩ := hd.cell (by omega)
  have HT := Lib.hid hth
  have HC := Lib.hid hc
  unfold maxLen at hmax
  clear hth hc
  obtain ⟨s, rfl⟩ : ∃ s : Nat, size = s := ⟨size.toNat, by omega⟩
  obtain ⟨k, rfl⟩ : ∃ k : Nat, t = k + 2147483648 := ⟨(t - 2147483648).toNat, by omega⟩
  have e1 : ((k : Int) + 2147483648 - 2147483648).toNat = k := by omega
  rw [e1, Int.toNat_natCast]
  clear e1
  go_enter Try.func36, Try.ntmps36
  go_wp2_with fail
  refine (there_any _ _ _ _ _ _ _ _ hn (by omega) (by omega) (by omega) (by omega)).mono ?_
  rintro e w1 ⟨rfl, hb1⟩
  rw [HT.out]
  have hbw := below_then (below1 w _) hb1
  have f0 := hb1.cell (p := ⟨w.heap.size, 0, none⟩) (by simp)
  rw [World.cell?_alloc_new] at f0
  have HB := Lib.hid hbw
  clear hbw hb1
  have hl : ((D.drop k).take s).length = s := by simp; omega
  have hcv : ∀ cap', (convert 46 9 (.slice (some ⟨b, off + k, none⟩) s cap')).run Try.prog w1 = .ok (.string (bytesOf D k s)) w1 := fun cap' => by
    have h := run_convert_bytes_back (P := Try.prog) w1 46 9 5 ⟨b, off + k, none⟩ cap' ((D.drop k).take s) Try.underlying46 Try.underlying5 Try.underlying9 (fun j hj => by
      rw [add_lit, List.getElem_take, List.getElem_drop, HB.out.cell (p := ⟨b, off + k + j, none⟩) hb, Nat.add_assoc]
      exact HC.out (k + j) (by omega))
    rw [hl] at h
    exact h
  have hcv1 := hcv (cap - k)
  clear hl hcv
  go_wp2_with fail
  go_ret2
  exact ⟨rfl, HB.out⟩
end Go.Proofs.Ytmbaimcneffnlaa
