/- Load of the reference. -/
import Derived.Test.YtnedhjaphfjdmaaRD
namespace Go.Proofs.Ytnedhjaphfjdmaa
open Go.RowKit Go.Deep Go.Joins
set_option maxHeartbeats 1000000 in
theorem rload_arg (v : Value) (mv ev : Value) (t size : Int) (w : World) (hl : loadsB size = false) :
    Calls Try.prog 16 #[.agg #[v, mv, ev], .int .u64 t, .int .i64 size] w fun e w' => e = .returned (.tuple #[.int .u64 0, .int .i64 1]) ∧ Below w.heap.size w w' := by
  have hs : size ≠ 1 ∧ size ≠ 2 ∧ size ≠ 4 ∧ size ≠ 8 := by unfold loadsB at hl; simpa using hl
  have a1 : (size != 1) = true := by rw [bne_iff_ne]; exact hs.1
  have a2 : (size != 2) = true := by rw [bne_iff_ne]; exact hs.2.1
  have a3 : (size != 4) = true := by rw [bne_iff_ne]; exact hs.2.2.1
  have a4 : (size != 8) = true := by rw [bne_iff_ne]; exact hs.2.2.2
  clear hl hs
  go_enter Try.func16, Try.ntmps16
  go_wp2_with fail
  go_ret2
  exact ⟨rfl, below1 w _⟩
set_option maxHeartbeats 1000000 in
theorem rload_ram (p : Option Addr) (n cap : Nat) (mv ev : Value) (t size : Int) (w : World) (hn : n ≤ 9223372036854775807) (ht0 : 0 ≤ t) (ht1 : t ≤ 18446744073709551615) (hl : loadsB size = true) (hth : thereB n t size = false) :
    Calls Try.prog 16 #[.agg #[.slice p n cap, mv, ev], .int .u64 t, .int .i64 size] w fun e w' => e = .returned (.tuple #[.int .u64 0, .int .i64 50]) ∧ Below w.heap.size w w' := by
  have hs : size = 1 ∨ size = 2 ∨ size = 4 ∨ size = 8 := by unfold loadsB at hl; simpa using hl
  have HS := Lib.hid (show spotV n t size = -1 from if_neg (by rw [hth]; simp))
  clear hl hth
  rcases hs with rfl | rfl | rfl | rfl
  all_goals
    go_enter Try.func16, Try.ntmps16
    go_wp2_with fail
    refine (spot_any _ _ _ _ _ _ _ _ hn (by omega) (by omega) (by omega) (by omega)).mono ?_
    rintro e w1 ⟨rfl, hb1⟩
    rw [HS.out]
    have hbw := below_then (below1 w _) hb1
    go_wp2_with fail
    go_ret2
    exact ⟨rfl, hbw⟩
set_option maxHeartbeats 2000000 in
theorem rload_1 (v : Value) (D : List UInt8) (mv ev : Value) (k : Nat) (w : World) (hd : DAt w v D) (hks : k + 1 ≤ D.length) :
    Calls Try.prog 16 #[.agg #[v, mv, ev], .int .u64 (k + 2147483648), .int .i64 1] w fun e w' => e = .returned (.tuple #[.int .u64 (le ((D.drop k).take 1)), .int .i64 0]) ∧ Below w.heap.size w w' := by
  have hn := hd.le
  obtain ⟨b, off, cap, rfl, _, _, hb, hc⟩ := hd.cell (by omega)
  have HC := Lib.hid hc
  clear hc
  have hsp : spotV D.length (k + 2147483648) 1 = k + 2147483648 - 2147483648 := if_pos ⟨by omega, there_iff.2 ⟨by omega, by omega, by omega⟩⟩
  rw [show ((k : Int) + 2147483648 - 2147483648) = k by omega] at hsp
  have HSP := Lib.hid hsp
  have hk0 : decide ((k : Int) < 0) = false := decide_eq_false (by omega)
  clear hsp
  go_enter Try.func16, Try.ntmps16
  go_wp2_with fail
  refine (spot_any _ _ _ _ _ _ _ _ hn (by omega) (by omega) (by omega) (by omega)).mono ?_
  rintro e w1 ⟨rfl, hb1⟩
  rw [HSP.out]
  have hbw := below_then (below1 w _) hb1
  have f0 := hb1.cell (p := ⟨w.heap.size, 0, none⟩) (by simp)
  rw [World.cell?_alloc_new] at f0
  have HB := Lib.hid hbw
  clear hbw hb1
  go_wp2_with fail
  have f1 : ∀ j, j < D.length → w1.cell? ⟨b, off + j, none⟩ = some (.int .u8 ((D.getD j 0).toNat : Int)) := fun j hj => by
    rw [HB.out.cell (p := ⟨b, off + j, none⟩) hb, HC.out j hj, List.getD_eq_getElem?_getD, List.getElem?_eq_getElem hj]; rfl
  have F1 := Lib.hid f1
  clear f1
  have hlen : ((D.drop k).take 1).length = 1 := by simp; omega
  have hx : le (((D.drop k).take 1).drop 1) = 0 := by rw [List.drop_eq_nil_of_le (by omega)]; rfl
  have HX := Lib.hid hx
  clear hx hlen
  go_loop [9, 10] (fun n i => ∃ j : Nat, j ≤ 1 ∧ i = .int .i64 ((j : Int) - 1) ∧ n = .int .u64 (le (((D.drop k).take 1).drop j))) (fun _ i => (intOf i + 1).toNat)
  case atStart => exact ⟨1, Nat.le_refl _, rfl, by rw [HX.out]; rfl⟩
  case round =>
    obtain ⟨j, hj, rfl, rfl⟩ := hrel
    by_cases hj0 : 0 < j
    · obtain ⟨i, rfl⟩ : ∃ i, j = i + 1 := ⟨j - 1, by omega⟩
      have g1 := F1.out (k + i) (by omega)
      have hstep := Lib.hid (load_step D k 1 i (by omega) (by omega) hj)
      generalize le (((D.drop k).take 1).drop (i + 1)) = N at *
      generalize hM : le (((D.drop k).take 1).drop i) = M at *
      have HM := Lib.hid hM
      clear hM
      rw [show (((i + 1 : Nat) : Int) - 1) = i by omega]
      go_wp2_with fail
      exact ⟨⟨i, by omega, rfl, by rw [hstep.out, HM.out]⟩, by simp [intOf]⟩
    · obtain rfl : j = 0 := by omega
      go_wp2
      go_ret2
      exact ⟨rfl, HB.out⟩
set_option maxHeartbeats 2000000 in
theorem rload_2 (v : Value) (D : List UInt8) (mv ev : Value) (k : Nat) (w : World) (hd : DAt w v D) (hks : k + 2 ≤ D.length) :
    Calls Try.prog 16 #[.agg #[v, mv, ev], .int .u64 (k + 2147483648), .int .i64 2] w fun e w' => e = .returned (.tuple #[.int .u64 (le ((D.drop k).take 2)), .int .i64 0]) ∧ Below w.heap.size w w' := by
  have hn := hd.le
  obtain ⟨b, off, cap, rfl, _, _, hb, hc⟩ := hd.cell (by omega)
  have HC := Lib.hid hc
  clear hc
  have hsp : spotV D.length (k + 2147483648) 2 = k + 2147483648 - 2147483648 := if_pos ⟨by omega, there_iff.2 ⟨by omega, by omega, by omega⟩⟩
  rw [show ((k : Int) + 2147483648 - 2147483648) = k by omega] at hsp
  have HSP := Lib.hid hsp
  have hk0 : decide ((k : Int) < 0) = false := decide_eq_false (by omega)
  clear hsp
  go_enter Try.func16, Try.ntmps16
  go_wp2_with fail
  refine (spot_any _ _ _ _ _ _ _ _ hn (by omega) (by omega) (by omega) (by omega)).mono ?_
  rintro e w1 ⟨rfl, hb1⟩
  rw [HSP.out]
  have hbw := below_then (below1 w _) hb1
  have f0 := hb1.cell (p := ⟨w.heap.size, 0, none⟩) (by simp)
  rw [World.cell?_alloc_new] at f0
  have HB := Lib.hid hbw
  clear hbw hb1
  go_wp2_with fail
  have f1 : ∀ j, j < D.length → w1.cell? ⟨b, off + j, none⟩ = some (.int .u8 ((D.getD j 0).toNat : Int)) := fun j hj => by
    rw [HB.out.cell (p := ⟨b, off + j, none⟩) hb, HC.out j hj, List.getD_eq_getElem?_getD, List.getElem?_eq_getElem hj]; rfl
  have F1 := Lib.hid f1
  clear f1
  have hlen : ((D.drop k).take 2).length = 2 := by simp; omega
  have hx : le (((D.drop k).take 2).drop 2) = 0 := by rw [List.drop_eq_nil_of_le (by omega)]; rfl
  have HX := Lib.hid hx
  clear hx hlen
  go_loop [9, 10] (fun n i => ∃ j : Nat, j ≤ 2 ∧ i = .int .i64 ((j : Int) - 1) ∧ n = .int .u64 (le (((D.drop k).take 2).drop j))) (fun _ i => (intOf i + 1).toNat)
  case atStart => exact ⟨2, Nat.le_refl _, rfl, by rw [HX.out]; rfl⟩
  case round =>
    obtain ⟨j, hj, rfl, rfl⟩ := hrel
    by_cases hj0 : 0 < j
    · obtain ⟨i, rfl⟩ : ∃ i, j = i + 1 := ⟨j - 1, by omega⟩
      have g1 := F1.out (k + i) (by omega)
      have hstep := Lib.hid (load_step D k 2 i (by omega) (by omega) hj)
      generalize le (((D.drop k).take 2).drop (i + 1)) = N at *
      generalize hM : le (((D.drop k).take 2).drop i) = M at *
      have HM := Lib.hid hM
      clear hM
      rw [show (((i + 1 : Nat) : Int) - 1) = i by omega]
      go_wp2_with fail
      exact ⟨⟨i, by omega, rfl, by rw [hstep.out, HM.out]⟩, by simp [intOf]⟩
    · obtain rfl : j = 0 := by omega
      go_wp2
      go_ret2
      exact ⟨rfl, HB.out⟩
set_option maxHeartbeats 2000000 in
theorem rload_4 (v : Value) (D : List UInt8) (mv ev : Value) (k : Nat) (w : World) (hd : DAt w v D) (hks : k + 4 ≤ D.length) :
    Calls Try.prog 16 #[.agg #[v, mv, ev], .int .u64 (k + 2147483648), .int .i64 4] w fun e w' => e = .returned (.tuple #[.int .u64 (le ((D.drop k).take 4)), .int .i64 0]) ∧ Below w.heap.size w w' := by
  have hn := hd.le
  obtain ⟨b, off, cap, rfl, _, _, hb, hc⟩ := hd.cell (by omega)
  have HC := Lib.hid hc
  clear hc
  have hsp : spotV D.length (k + 2147483648) 4 = k + 2147483648 - 2147483648 := if_pos ⟨by omega, there_iff.2 ⟨by omega, by omega, by omega⟩⟩
  rw [show ((k : Int) + 2147483648 - 2147483648) = k by omega] at hsp
  have HSP := Lib.hid hsp
  have hk0 : decide ((k : Int) < 0) = false := decide_eq_false (by omega)
  clear hsp
  go_enter Try.func16, Try.ntmps16
  go_wp2_with fail
  refine (spot_any _ _ _ _ _ _ _ _ hn (by omega) (by omega) (by omega) (by omega)).mono ?_
  rintro e w1 ⟨rfl, hb1⟩
  rw [HSP.out]
  have hbw := below_then (below1 w _) hb1
  have f0 := hb1.cell (p := ⟨w.heap.size, 0, none⟩) (by simp)
  rw [World.cell?_alloc_new] at f0
  have HB := Lib.hid hbw
  clear hbw hb1
  go_wp2_with fail
  have f1 : ∀ j, j < D.length → w1.cell? ⟨b, off + j, none⟩ = some (.int .u8 ((D.getD j 0).toNat : Int)) := fun j hj => by
    rw [HB.out.cell (p := ⟨b, off + j, none⟩) hb, HC.out j hj, List.getD_eq_getElem?_getD, List.getElem?_eq_getElem hj]; rfl
  have F1 := Lib.hid f1
  clear f1
  have hlen : ((D.drop k).take 4).length = 4 := by simp; omega
  have hx : le (((D.drop k).take 4).drop 4) = 0 := by rw [List.drop_eq_nil_of_le (by omega)]; rfl
  have HX := Lib.hid hx
  clear hx hlen
  go_loop [9, 10] (fun n i => ∃ j : Nat, j ≤ 4 ∧ i = .int .i64 ((j : Int) - 1) ∧ n = .int .u64 (le (((D.drop k).take 4).drop j))) (fun _ i => (intOf i + 1).toNat)
  case atStart => exact ⟨4, Nat.le_refl _, rfl, by rw [HX.out]; rfl⟩
  case round =>
    obtain ⟨j, hj, rfl, rfl⟩ := hrel
    by_cases hj0 : 0 < j
    · obtain ⟨i, rfl⟩ : ∃ i, j = i + 1 := ⟨j - 1, by omega⟩
      have g1 := F1.out (k + i) (by omega)
      have hstep := Lib.hid (load_step D k 4 i (by omega) (by omega) hj)
      generalize le (((D.drop k).take 4).drop (i + 1)) = N at *
      generalize hM : le (((D.drop k).take 4).drop i) = M at *
      have HM := Lib.hid hM
      clear hM
      rw [show (((i + 1 : Nat) : Int) - 1) = i by omega]
      go_wp2_with fail
      exact ⟨⟨i, by omega, rfl, by rw [hstep.out, HM.out]⟩, by simp [intOf]⟩
    · obtain rfl : j = 0 := by omega
      go_wp2
      go_ret2
      exact ⟨rfl, HB.out⟩
set_option maxHeartbeats 2000000 in
theorem rload_8 (v : Value) (D : List UInt8) (mv ev : Value) (k : Nat) (w : World) (hd : DAt w v D) (hks : k + 8 ≤ D.length) :
    Calls Try.prog 16 #[.agg #[v, mv, ev], .int .u64 (k + 2147483648), .int .i64 8] w fun e w' => e = .returned (.tuple #[.int .u64 (le ((D.drop k).take 8)), .int .i64 0]) ∧ Below w.heap.size w w' := by
  have hn := hd.le
  obtain ⟨b, off, cap, rfl, _, _, hb, hc⟩ := hd.cell (by omega)
  have HC := Lib.hid hc
  clear hc
  have hsp : spotV D.length (k + 2147483648) 8 = k + 2147483648 - 2147483648 := if_pos ⟨by omega, there_iff.2 ⟨by omega, by omega, by omega⟩⟩
  rw [show ((k : Int) + 2147483648 - 2147483648) = k by omega] at hsp
  have HSP := Lib.hid hsp
  have hk0 : decide ((k : Int) < 0) = false := decide_eq_false (by omega)
  clear hsp
  go_enter Try.func16, Try.ntmps16
  go_wp2_with fail
  refine (spot_any _ _ _ _ _ _ _ _ hn (by omega) (by omega) (by omega) (by omega)).mono ?_
  rintro e w1 ⟨rfl, hb1⟩
  rw [HSP.out]
  have hbw := below_then (below1 w _) hb1
  have f0 := hb1.cell (p := ⟨w.heap.size, 0, none⟩) (by simp)
  rw [World.cell?_alloc_new] at f0
  have HB := Lib.hid hbw
  clear hbw hb1
  go_wp2_with fail
  have f1 : ∀ j, j < D.length → w1.cell? ⟨b, off + j, none⟩ = some (.int .u8 ((D.getD j 0).toNat : Int)) := fun j hj => by
    rw [HB.out.cell (p := ⟨b, off + j, none⟩) hb, HC.out j hj, List.getD_eq_getElem?_getD, List.getElem?_eq_getElem hj]; rfl
  have F1 := Lib.hid f1
  clear f1
  have hlen : ((D.drop k).take 8).length = 8 := by simp; omega
  have hx : le (((D.drop k).take 8).drop 8) = 0 := by rw [List.drop_eq_nil_of_le (by omega)]; rfl
  have HX := Lib.hid hx
  clear hx hlen
  go_loop [9, 10] (fun n i => ∃ j : Nat, j ≤ 8 ∧ i = .int .i64 ((j : Int) - 1) ∧ n = .int .u64 (le (((D.drop k).take 8).drop j))) (fun _ i => (intOf i + 1).toNat)
  case atStart => exact ⟨8, Nat.le_refl _, rfl, by rw [HX.out]; rfl⟩
  case round =>
    obtain ⟨j, hj, rfl, rfl⟩ := hrel
    by_cases hj0 : 0 < j
    · obtain ⟨i, rfl⟩ : ∃ i, j = i + 1 := ⟨j - 1, by omega⟩
      have g1 := F1.out (k + i) (by omega)
      have hstep := Lib.hid (load_step D k 8 i (by omega) (by omega) hj)
      generalize le (((D.drop k).take 8).drop (i + 1)) = N at *
      generalize hM : le (((D.drop k).take 8).drop i) = M at *
      have HM := Lib.hid hM
      clear hM
      rw [show (((i + 1 : Nat) : Int) - 1) = i by omega]
      go_wp2_with fail
      exact ⟨⟨i, by omega, rfl, by rw [hstep.out, HM.out]⟩, by simp [intOf]⟩
    · obtain rfl : j = 0 := by omega
      go_wp2
      go_ret2
      exact ⟨rfl, HB.out⟩
theorem rload_any (v : Value) (D : List UInt8) (mv ev : Value) (t size : Int) (w : World) (hd : DAt w v D) (hl : loadsB size = true) (hth : thereB D.length t size = true) :
    Calls Try.prog 16 #[.agg #[v, mv, ev], .int .u64 t, .int .i64 size] w fun e w' => e = .returned (.tuple #[.int .u64 (le ((D.drop (t - 2147483648).toNat).take size.toNat)), .int .i64 0]) ∧ Below w.heap.size w w' := by
  obtain ⟨h0, h1, h2⟩ := there_iff.1 hth
  have hs : size = 1 ∨ size = 2 ∨ size = 4 ∨ size = 8 := by unfold loadsB at hl; simpa using hl
  obtain ⟨k, rfl⟩ : ∃ k : Nat, t = k + 2147483648 := ⟨(t - 2147483648).toNat, by omega⟩
  rw [show ((k : Int) + 2147483648 - 2147483648).toNat = k by omega]
  rcases hs with rfl | rfl | rfl | rfl
  · exact rload_1 v D mv ev k w hd (by omega)
  · exact rload_2 v D mv ev k w hd (by omega)
  · exact rload_4 v D mv ev k w hd (by omega)
  · exact rload_8 v D mv ev k w hd (by omega)
end Go.Proofs.Ytnedhjaphfjdmaa
