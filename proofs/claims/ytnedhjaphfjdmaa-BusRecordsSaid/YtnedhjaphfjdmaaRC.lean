/- Load and Text of the program. -/
import Derived.Test.YtnedhjaphfjdmaaRB
import Derived.Laws.Bits64b
import Derived.IntWalk
namespace Go.Proofs.Ytnedhjaphfjdmaa
open Go.RowKit Go.Deep Go.Joins
/-- The number of bytes, the least first. -/
def le : List UInt8 → Nat
  | [] => 0
  | b :: l => le l * 256 + b.toNat
theorem le_lt (l : List UInt8) : le l < 256 ^ l.length := by
  induction l with
  | nil => simp [le]
  | cons b l ih =>
    have hb : b.toNat < 256 := b.toNat_lt
    simp only [le, List.length_cons, Nat.pow_succ]
    omega
theorem le_step (L : List UInt8) (i : Nat) (h : i < L.length) : le (L.drop i) = le (L.drop (i + 1)) * 256 + L[i].toNat := by
  rw [List.drop_eq_getElem_cons h]; rfl
theorem or_byte (N : Nat) (c : UInt8) (h : N * 256 + c.toNat < 18446744073709551616) :
    bits .or .u64 (IntKind.u64.wrap ((N : Int) * 256)) (IntKind.u64.wrap (c.toNat : Int)) = ((N * 256 + c.toNat : Nat) : Int) := by
  have hc : c.toNat < 256 := c.toNat_lt
  rw [IntWalk.u64_in _ (by omega), IntWalk.u64_in _ (by omega)]
  have h1 := bits_or_u64_nat (N * 256) c.toNat (Nat.lt_of_le_of_lt (Nat.le_add_right _ _) h) (Nat.lt_of_le_of_lt (Nat.le_add_left _ _) h)
  have hh : ((N : Int) * 256) = ((N * 256 : Nat) : Int) := by simp
  rw [hh, h1]
  have h2 := Nat.two_pow_add_eq_or_of_lt (i := 8) (b := c.toNat) (by omega) N
  have h3 : (2 : Nat) ^ 8 = 256 := rfl
  rw [h3] at h2
  rw [Nat.mul_comm N 256, ← h2]
theorem load_step (D : List UInt8) (k s i : Nat) (hs : s ≤ 8) (h : k + s ≤ D.length) (hi : i + 1 ≤ s) :
    bits .or .u64 (IntKind.u64.wrap ((le (((D.drop k).take s).drop (i + 1)) : Int) * 256)) (IntKind.u64.wrap ((D[k + i]?.getD 0).toNat : Int)) = (le (((D.drop k).take s).drop i) : Nat) := by
  have hl : ((D.drop k).take s).length = s := by simp; omega
  have e := le_step ((D.drop k).take s) i (by omega)
  have e2 : ((D.drop k).take s)[i]'(by omega) = D[k + i]?.getD 0 := by
    rw [List.getElem_take, List.getElem_drop, List.getElem?_eq_getElem (by omega)]; rfl
  rw [e2] at e
  have hb := le_lt (((D.drop k).take s).drop i)
  have hp : 256 ^ (((D.drop k).take s).drop i).length ≤ 256 ^ 8 := Nat.pow_le_pow_right (by omega) (by rw [List.length_drop, hl]; omega)
  rw [or_byte _ _ (by rw [← e]; omega), e]
theorem DAt.cell {w : World} {v : Value} {D : List UInt8} (h : DAt w v D) (h0 : 0 < D.length) :
    ∃ b off cap, v = .slice (some ⟨b, off, none⟩) D.length cap ∧ D.length ≤ cap ∧ cap ≤ maxLen ∧ b < w.heap.size ∧ ∀ j (hj : j < D.length), w.cell? ⟨b, off + j, none⟩ = some (.int .u8 (D[j].toNat : Int)) := by
  obtain ⟨b, off, cap, h1, h2, h3, h4, h5⟩ := Reads.at h (by omega)
  exact ⟨b, off, cap, h1, h2, h3, h4, fun j hj => h5 j _ (by simp [dC, hj])⟩
set_option maxHeartbeats 1000000 in
theorem load_any (v : Value) (D : List UInt8) (mv ev : Value) (t size : Int) (w : World) (hd : DAt w v D) (ht0 : 0 ≤ t) (ht1 : t ≤ 18446744073709551615) (hl : loadsB size = true) (hth : thereB D.length t size = true) :
    Calls Try.prog 40 #[.agg #[v, mv, ev], .int .u64 t, .int .i64 size] w fun e w' => e = .returned (.tuple #[.int .u64 (le ((D.drop (t - 2147483648).toNat).take size.toNat)), .int .i64 0]) ∧ Below w.heap.size w w' := by
  have hn := hd.le
  obtain ⟨h0, h1, h2⟩ := there_iff.1 hth
  have hs : 1 ≤ size ∧ size ≤ 8 := by unfold loadsB at hl; simp at hl; omega
  obtain ⟨b, off, cap, rfl, _, _, hb, hc⟩ := hd.cell (by omega)
  have HL := Lib.hid hl
  have HT := Lib.hid hth
  have HC := Lib.hid hc
  clear hl hth hc
  obtain ⟨s, rfl⟩ : ∃ s : Nat, size = s := ⟨size.toNat, by omega⟩
  obtain ⟨k, rfl⟩ : ∃ k : Nat, t = k + 2147483648 := ⟨(t - 2147483648).toNat, by omega⟩
  go_enter Try.func40, Try.ntmps40
  go_wp2_with fail
  refine (loads_any _ _).mono ?_
  rintro e w1 ⟨rfl, rfl⟩
  rw [HL.out]
  go_wp2_with fail
  refine (there_any _ _ _ _ _ _ _ _ hn (by omega) (by omega) (by omega) (by omega)).mono ?_
  rintro e w1 ⟨rfl, hb1⟩
  rw [HT.out]
  have hbw := below_then (below1 w _) hb1
  have f0 := hb1.cell (p := ⟨w.heap.size, 0, none⟩) (by simp)
  rw [World.cell?_alloc_new] at f0
  have HB := Lib.hid hbw
  clear hbw hb1
  go_wp2_with fail
  have f1 : ∀ j, j < D.length → w1.cell? ⟨b, off + j, none⟩ = some (.int .u8 ((D.getD j 0).toNat : Int)) := fun j hj => by
    rw [HB.out.cell (p := ⟨b, off + j, none⟩) hb, HC.out j hj, List.getD_eq_getElem?_getD, List.getElem?_eq_getElem hj]; rfl
  have F1 := Lib.hid f1
  clear f1
  have hx : ∀ j, ((D.drop k).take s).length ≤ j → le (((D.drop k).take s).drop j) = 0 := fun j hj => by rw [List.drop_eq_nil_of_le hj]; rfl
  have hlen : ((D.drop k).take s).length = s := by simp; omega
  have HX := Lib.hid hx
  have HLEN := Lib.hid hlen
  clear hx hlen
  go_loop [8, 10] (fun n i => ∃ j : Nat, j ≤ s ∧ i = .int .i64 j ∧ n = .int .u64 (le (((D.drop k).take s).drop j))) (fun _ i => (intOf i).toNat)
  case atStart => exact ⟨s, Nat.le_refl _, rfl, by rw [HX.out s (by rw [HLEN.out]; omega)]; rfl⟩
  case round =>
    obtain ⟨j, hj, rfl, rfl⟩ := hrel
    by_cases hj0 : 0 < j
    · have g1 := F1.out (k + (j - 1)) (by omega)
      obtain ⟨i, rfl⟩ : ∃ i, j = i + 1 := ⟨j - 1, by omega⟩
      simp only [Nat.add_sub_cancel] at g1
      have hstep := Lib.hid (load_step D k s i (by omega) (by omega) hj)
      generalize le (((D.drop k).take s).drop (i + 1)) = N at *
      generalize hM : le (((D.drop k).take s).drop i) = M at *
      have HM := Lib.hid hM
      clear hM
      go_wp2_with fail
      exact ⟨⟨i, by omega, rfl, by rw [hstep.out, HM.out]⟩, by simp [intOf]⟩
    · obtain rfl : j = 0 := by omega
      go_wp2
      go_ret2
      exact ⟨rfl, HB.out⟩
set_option maxHeartbeats 1000000 in
theorem load_arg (v : Value) (mv ev : Value) (t size : Int) (w : World) (hl : loadsB size = false) :
    Calls Try.prog 40 #[.agg #[v, mv, ev], .int .u64 t, .int .i64 size] w fun e w' => e = .returned (.tuple #[.int .u64 0, .int .i64 1]) ∧ Below w.heap.size w w' := by
  have HL := Lib.hid hl
  clear hl
  go_enter Try.func40, Try.ntmps40
  go_wp2_with fail
  refine (loads_any _ _).mono ?_
  rintro e w1 ⟨rfl, rfl⟩
  rw [HL.out]
  go_wp2_with fail
  go_ret2
  exact ⟨rfl, below1 w _⟩
set_option maxHeartbeats 1000000 in
theorem load_ram (p : Option Addr) (n cap : Nat) (mv ev : Value) (t size : Int) (w : World) (hn : n ≤ 9223372036854775807) (ht0 : 0 ≤ t) (ht1 : t ≤ 18446744073709551615) (hl : loadsB size = true) (hth : thereB n t size = false) :
    Calls Try.prog 40 #[.agg #[.slice p n cap, mv, ev], .int .u64 t, .int .i64 size] w fun e w' => e = .returned (.tuple #[.int .u64 0, .int .i64 50]) ∧ Below w.heap.size w w' := by
  have hs : 1 ≤ size ∧ size ≤ 8 := by unfold loadsB at hl; simp at hl; omega
  have HL := Lib.hid hl
  have HT := Lib.hid hth
  clear hl hth
  go_enter Try.func40, Try.ntmps40
  go_wp2_with fail
  refine (loads_any _ _).mono ?_
  rintro e w1 ⟨rfl, rfl⟩
  rw [HL.out]
  go_wp2_with fail
  refine (there_any _ _ _ _ _ _ _ _ hn (by omega) (by omega) (by omega) (by omega)).mono ?_
  rintro e w1 ⟨rfl, hb1⟩
  rw [HT.out]
  have hbw := below_then (below1 w _) hb1
  go_wp2_with fail
  go_ret2
  exact ⟨rfl, hbw⟩

/-! ### Text -/
def bytesOf (D : List UInt8) (k s : Nat) : ByteArray := ⟨((D.drop k).take s).toArray⟩
set_option maxHeartbeats 1000000 in
theorem text_none (v : Value) (mv ev : Value) (t : Int) (w : World) :
    Calls Try.prog 71 #[.agg #[v, mv, ev], .int .u64 t, .int .i64 0] w fun e w' => e = .returned (.tuple #[.string ⟨#[]⟩, .int .i64 0]) ∧ Below w.heap.size w w' := by
  go_enter Try.func71, Try.ntmps71
  go_wp2_with fail
  go_ret2
  exact ⟨rfl, below1 w _⟩
set_option maxHeartbeats 1000000 in
theorem text_ram (p : Option Addr) (n cap : Nat) (mv ev : Value) (t size : Int) (w : World) (hn : n ≤ 9223372036854775807) (ht0 : 0 ≤ t) (ht1 : t ≤ 18446744073709551615) (hs0 : -9223372036854775808 ≤ size) (hs1 : size ≤ 9223372036854775807) (h0 : size ≠ 0)
    (hth : thereB n t size = false) :
    Calls Try.prog 71 #[.agg #[.slice p n cap, mv, ev], .int .u64 t, .int .i64 size] w fun e w' => e = .returned (.tuple #[.string ⟨#[]⟩, .int .i64 50]) ∧ Below w.heap.size w w' := by
  have h0' : (size == 0) = false := by simpa using h0
  have HT := Lib.hid hth
  clear hth
  go_enter Try.func71, Try.ntmps71
  go_wp2_with fail
  refine (there_any _ _ _ _ _ _ _ _ hn (by omega) (by omega) (by omega) (by omega)).mono ?_
  rintro e w1 ⟨rfl, hb1⟩
  rw [HT.out]
  have hbw := below_then (below1 w _) hb1
  go_wp2_with fail
  go_ret2
  exact ⟨rfl, hbw⟩
set_option maxHeartbeats 1000000 in
theorem text_any (v : Value) (D : List UInt8) (mv ev : Value) (t size : Int) (w : World) (hd : DAt w v D) (ht0 : 0 ≤ t) (ht1 : t ≤ 18446744073709551615) (hs1 : size ≤ 9223372036854775807) (h0 : 0 < size)
    (hth : thereB D.length t size = true) :
    Calls Try.prog 71 #[.agg #[v, mv, ev], .int .u64 t, .int .i64 size] w fun e w' => e = .returned (.tuple #[.string (bytesOf D (t - 2147483648).toNat size.toNat), .int .i64 0]) ∧ Below w.heap.size w w' := by
  have hn := hd.le
  obtain ⟨h00, h1, h2⟩ := there_iff.1 hth
  have h0' : (size == 0) = false := by simp; omega
  obtain ⟨b, off, cap, rfl, hcap, hmax, hb, hc⟩ := hd.cell (by omega)
  have HT := Lib.hid hth
  have HC := Lib.hid hc
  unfold maxLen at hmax
  clear hth hc
  obtain ⟨s, rfl⟩ : ∃ s : Nat, size = s := ⟨size.toNat, by omega⟩
  obtain ⟨k, rfl⟩ : ∃ k : Nat, t = k + 2147483648 := ⟨(t - 2147483648).toNat, by omega⟩
  have e1 : ((k : Int) + 2147483648 - 2147483648).toNat = k := by omega
  rw [e1, Int.toNat_natCast]
  clear e1
  go_enter Try.func71, Try.ntmps71
  go_wp2_with fail
  refine (there_any _ _ _ _ _ _ _ _ hn (by omega) (by omega) (by omega) (by omega)).mono ?_
  rintro e w1 ⟨rfl, hb1⟩
  rw [HT.out]
  have hbw := below_then (below1 w _) hb1
  have f0 := hb1.cell (p := ⟨w.heap.size, 0, none⟩) (by simp)
  rw [World.cell?_alloc_new] at f0
  have HB := Lib.hid hbw
  clear hbw hb1
  have hl : ((D.drop k).take s).length = s := by simp; omega
  have hcv : ∀ cap', (convert 36 9 (.slice (some ⟨b, off + k, none⟩) s cap')).run Try.prog w1 = .ok (.string (bytesOf D k s)) w1 := fun cap' => by
    have h := run_convert_bytes_back (P := Try.prog) w1 36 9 5 ⟨b, off + k, none⟩ cap' ((D.drop k).take s) Try.underlying36 Try.underlying5 Try.underlying9 (fun j hj => by
      rw [add_lit, List.getElem_take, List.getElem_drop, HB.out.cell (p := ⟨b, off + k + j, none⟩) hb, Nat.add_assoc]
      exact HC.out (k + j) (by omega))
    rw [hl] at h
    exact h
  have hcv1 := hcv (cap - k)
  clear hl hcv
  go_wp2_with fail
  go_ret2
  exact ⟨rfl, HB.out⟩
end Go.Proofs.Ytnedhjaphfjdmaa
