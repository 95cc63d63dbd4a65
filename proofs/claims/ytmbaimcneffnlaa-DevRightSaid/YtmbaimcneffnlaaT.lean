/- Text of the reference. -/
import Derived.Test.YtmbaimcneffnlaaG
namespace Go.Proofs.Ytmbaimcneffnlaa
open Go.RowKit Go.Deep Go.Joins
set_option maxHeartbeats 1000000 in
theorem rtext_none (v : Value) (mv ev : Value) (t : Int) (w : World) :
    Calls Try.prog 25 #[.agg #[v, mv, ev], .int .u64 t, .int .i64 0] w fun e w' => e = .returned (.tuple #[.string ⟨#[]⟩, .int .i64 0]) ∧ Below w.heap.size w w' := by
  go_enter Try.func25, Try.ntmps25
  go_wp2_with fail
  go_ret2
  exact ⟨rfl, below1 w _⟩
set_option maxHeartbeats 1000000 in
theorem rtext_ram (p : Option Addr) (n cap : Nat) (mv ev : Value) (t size : Int) (w : World) (hn : n ≤ 9223372036854775807) (ht0 : 0 ≤ t) (ht1 : t ≤ 18446744073709551615) (hs0 : -9223372036854775808 ≤ size) (hs1 : size ≤ 9223372036854775807) (h0 : size ≠ 0)
    (hth : thereB n t size = false) :
    Calls Try.prog 25 #[.agg #[.slice p n cap, mv, ev], .int .u64 t, .int .i64 size] w fun e w' => e = .returned (.tuple #[.string ⟨#[]⟩, .int .i64 50]) ∧ Below w.heap.size w w' := by
  have h0' : (size == 0) = false := by simpa using h0
  have HSP := Lib.hid (show spotV n t size = -1 from if_neg (by rw [hth]; simp))
  clear hth
  go_enter Try.func25, Try.ntmps25
  go_wp2_with fail
  refine (spot_any _ _ _ _ _ _ _ _ hn (by omega) (by omega) (by omega) (by omega)).mono ?_
  rintro e w1 ⟨rfl, hb1⟩
  rw [HSP.out]
  have hbw := below_then (below1 w _) hb1
  go_wp2_with fail
  go_ret2
  exact ⟨rfl, hbw⟩
set_option maxHeartbeats 1000000 in
theorem rtext_any (v : Value) (D : List UInt8) (mv ev : Value) (t size : Int) (w : World) (hd : DAt w v D) (ht0 : 0 ≤ t) (ht1 : t ≤ 18446744073709551615) (hs1 : size ≤ 9223372036854775807) (h0 : 0 < size)
    (hth : thereB D.length t size = true) :
    Calls Try.prog 25 #[.agg #[v, mv, ev], .int .u64 t, .int .i64 size] w fun e w' => e = .returned (.tuple #[.string (bytesOf D (t - 2147483648).toNat size.toNat), .int .i64 0]) ∧ Below w.heap.size w w' := by
  have hn := hd.le
  obtain ⟨h00, h1, h2⟩ := there_iff.1 hth
  have h0' : (size == 0) = false := by simp; omega
  obtain ⟨b, off, cap, rfl, hcap, hmax, hb, hc⟩ := hd.cell (by omega)
  have HC := Lib.hid hc
  unfold maxLen at hmax
  clear hc
  obtain ⟨s, rfl⟩ : ∃ s : Nat, size = s := ⟨size.toNat, by omega⟩
  obtain ⟨k, rfl⟩ : ∃ k : Nat, t = k + 2147483648 := ⟨(t - 2147483648).toNat, by omega⟩
  have e1 : ((k : Int) + 2147483648 - 2147483648).toNat = k := by omega
  rw [e1, Int.toNat_natCast]
  clear e1
  have hsp : spotV D.length (k + 2147483648) s = k + 2147483648 - 2147483648 := if_pos ⟨by omega, hth⟩
  rw [show ((k : Int) + 2147483648 - 2147483648) = k by omega] at hsp
  have HSP := Lib.hid hsp
  have hks : k + s ≤ D.length := by omega
  have hk0 : decide ((k : Int) < 0) = false := decide_eq_false (by omega)
  clear hsp hth
  go_enter Try.func25, Try.ntmps25
  go_wp2_with fail
  refine (spot_any _ _ _ _ _ _ _ _ hn (by omega) (by omega) (by omega) (by omega)).mono ?_
  rintro e w1 ⟨rfl, hb1⟩
  rw [HSP.out]
  have hbw := below_then (below1 w _) hb1
  have f0 := hb1.cell (p := ⟨w.heap.size, 0, none⟩) (by simp)
  rw [World.cell?_alloc_new] at f0
  have HB := Lib.hid hbw
  clear hbw hb1
  have hl : ((D.drop k).take s).length = s := by simp; omega
  have hcv : ∀ cap', (convert 46 9 (.slice (some ⟨b, off + k, none⟩) s cap')).run Try.prog w1 = .ok (.string (bytesOf D k s)) w1 := fun cap' => by
    have h := run_convert_bytes_back (P := Try.prog) w1 46 9 5 ⟨b, off + k, none⟩ cap' ((D.drop k).take s) Try.underlying46 Try.underlying5 Try.underlying9 (fun j hj => by
      rw [add_lit, List.getElem_take, List.getElem_drop, HB.out.cell (p := ⟨b, off + k + j, none⟩) hb, Nat.add_assoc]
      exact HC.out (k + j) (by omega))
    rw [hl] at h
    exact h
  have hcv1 := hcv (cap - k)
  clear hl hcv
  go_wp2_with fail
  go_ret2
  exact ⟨rfl, HB.out⟩
theorem rtext_all (v : Value) (D : List UInt8) (mv ev : Value) (t size : Int) (w : World) (hd : DAt w v D) (ht0 : 0 ≤ t) (ht1 : t ≤ 18446744073709551615) (hs0 : -9223372036854775808 ≤ size) (hs1 : size ≤ 9223372036854775807) :
    Calls Try.prog 25 #[.agg #[v, mv, ev], .int .u64 t, .int .i64 size] w fun e w' => e = .returned (.tuple #[.string (textS D t size), .int .i64 (textE D.length t size)]) ∧ Below w.heap.size w w' := by
  by_cases h0 : size = 0
  · subst h0
    have e1 : textS D t 0 = ⟨#[]⟩ := if_neg (by simp)
    have e2 : textE D.length t 0 = 0 := if_pos (.inl rfl)
    rw [e1, e2]
    exact rtext_none v mv ev t w
  · rcases Bool.eq_false_or_eq_true (thereB D.length t size) with h | h
    · have e1 : textS D t size = bytesOf D (t - 2147483648).toNat size.toNat := if_pos ⟨h0, h⟩
      have e2 : textE D.length t size = 0 := if_pos (.inr h)
      rw [e1, e2]
      exact rtext_any v D mv ev t size w hd ht0 ht1 hs1 (by have := (there_iff.1 h).1; omega) h
    · have e1 : textS D t size = ⟨#[]⟩ := if_neg (by simp [h])
      have e2 : textE D.length t size = 50 := if_neg (by simp [h, h0])
      rw [e1, e2]
      obtain ⟨p, cap, rfl⟩ := hd.is
      exact rtext_ram p D.length cap mv ev t size w hd.le ht0 ht1 hs0 hs1 h0 h
end Go.Proofs.Ytmbaimcneffnlaa
