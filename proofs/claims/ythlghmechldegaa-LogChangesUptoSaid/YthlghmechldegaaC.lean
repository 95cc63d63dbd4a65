/- Count and Majority of both sides. -/
import Derived.Test.YthlghmechldegaaB
namespace Go.Proofs.Ythlghmechldegaa
open Go.RowKit Go.Deep Go.Joins
theorem pos_one (k : Nat) : (k : Int) + 1 = ((k + 1 : Nat) : Int) := rfl
set_option maxRecDepth 100000 in
set_option maxHeartbeats 1000000 in
theorem count_any (f : Nat → Bool) (W : World) : Calls Try.prog 33 #[setV f] W fun e W' => e = .returned (.int .i64 (cn f 7)) ∧ Below W.heap.size W W' := by
  go_enter Try.func33, Try.ntmps33
  go_upto_region 1 with (fail)
  have X0 := Lib.hid (SBox.new W f)
  have B0 := Lib.hid (show Below W.heap.size W (W.alloc (setO f)) from (Below.refl _ _).alloc (Nat.le_refl _) _)
  generalize W.alloc (setO f) = w0 at *
  go_wp2_with (first | (with_reducible refine wpList_load_by rfl rfl X0.out.load rfl ?_) | fail)
  go_loopw [3, 7] (fun n i wr => ∃ (k : Nat), k ≤ 7 ∧ n = .int .i64 (cn f k) ∧ i = .int .i64 k ∧ RowKit.Hid (w0 = wr)) (fun _ i _ => 7 - (intOf i).toNat)
  case atStart => exact ⟨0, by omega, rfl, rfl, Lib.hid rfl⟩
  case round =>
    obtain ⟨k, hk, rfl, rfl, HW⟩ := hrel
    cases HW.out
    clear HW
    by_cases h7 : k < 7
    · have hn := cn_max f k
      have hl : ((k : Int) < 7) := by omega
      cases hf : f k
      · have he : cn f (k + 1) = cn f k := by simp [cn, hf]
        have hix : ∀ w : World, _ := idx_set f k h7
        rw [hf] at hix
        generalize cn f k = c at *
        go_wp2_with (first | fail | fail)
        go_round
        case rel => exact ⟨k + 1, by omega, by rw [he], rfl, Lib.hid (by trivial)⟩
        case measure => simp [intOf]; omega
      · have he : cn f (k + 1) = cn f k + 1 := by simp [cn, hf]
        have hix : ∀ w : World, _ := idx_set f k h7
        rw [hf] at hix
        generalize cn f k = c at *
        go_wp2_with (first | fail | fail)
        go_round
        case rel => exact ⟨k + 1, by omega, by rw [he]; rfl, rfl, Lib.hid (by trivial)⟩
        case measure => simp [intOf]; omega
    · obtain rfl : k = 7 := by omega
      go_wp2
      go_ret
      exact ⟨rfl, B0.out⟩
set_option maxRecDepth 100000 in
set_option maxHeartbeats 1000000 in
theorem rcount_any (f : Nat → Bool) (W : World) : Calls Try.prog 34 #[setV f] W fun e W' => e = .returned (.int .i64 (cn f 7)) ∧ Below W.heap.size W W' := by
  go_enter Try.func34, Try.ntmps34
  go_upto_region 1 with (fail)
  have X0 := Lib.hid (SBox.new W f)
  have B0 := Lib.hid (show Below W.heap.size W (W.alloc (setO f)) from (Below.refl _ _).alloc (Nat.le_refl _) _)
  generalize W.alloc (setO f) = w0 at *
  go_wp2_with (first | (with_reducible refine wpList_load_by rfl rfl X0.out.load rfl ?_) | fail)
  go_loopw [3, 4] (fun n i wr => ∃ (k : Nat), k ≤ 7 ∧ n = .int .i64 (cn f k) ∧ i = .int .i64 k ∧ RowKit.Hid (w0 = wr)) (fun _ i _ => 7 - (intOf i).toNat)
  case atStart => exact ⟨0, by omega, rfl, rfl, Lib.hid rfl⟩
  case round =>
    obtain ⟨k, hk, rfl, rfl, HW⟩ := hrel
    cases HW.out
    clear HW
    by_cases h7 : k < 7
    · have hn := cn_max f k
      have hl : ((k : Int) < 7) := by omega
      cases hf : f k
      · have he : cn f (k + 1) = cn f k := by simp [cn, hf]
        have hx := Lib.hid (hf ▸ X0.out.cell k h7)
        generalize cn f k = c at *
        go_wp2_with (first | (with_reducible refine wpList_load_by rfl rfl hx.out rfl ?_) | fail)
        go_round
        case rel => exact ⟨k + 1, by omega, by rw [he], rfl, Lib.hid (by trivial)⟩
        case measure => simp [intOf]; omega
      · have he : cn f (k + 1) = cn f k + 1 := by simp [cn, hf]
        have hx := Lib.hid (hf ▸ X0.out.cell k h7)
        generalize cn f k = c at *
        go_wp2_with (first | (with_reducible refine wpList_load_by rfl rfl hx.out rfl ?_) | fail)
        go_round
        case rel => exact ⟨k + 1, by omega, by rw [he]; rfl, rfl, Lib.hid (by trivial)⟩
        case measure => simp [intOf]; omega
    · obtain rfl : k = 7 := by omega
      go_wp2
      go_ret
      exact ⟨rfl, B0.out⟩
set_option maxRecDepth 100000 in
set_option maxHeartbeats 1000000 in
theorem maj_any (s a : Nat → Bool) (W : World) : Calls Try.prog 35 #[setV s, setV a] W fun e W' => e = .returned (.bool (mj s a)) ∧ Below W.heap.size W W' := by
  have HJ : RowKit.Hid (decide ((2 : Int) * (cn (fun j => s j && a j) 7 : Nat) > (cn s 7 : Nat)) = mj s a) := Lib.hid (by unfold mj; exact decide_eq_decide.2 ⟨fun h => by omega, fun h => by omega⟩)
  have hm1 := cn_max (fun j => s j && a j) 7
  have hm2 := cn_max s 7
  have C0 := Lib.hid (fun W' => count_any s W')
  go_enter Try.func35, Try.ntmps35
  go_upto_region 1 with (fail)
  have X0 := Lib.hid ((SBox.new W s).alloc (setO a))
  have X1 := Lib.hid (show SBox ((W.alloc (setO s)).alloc (setO a)) (W.heap.size + 1) a from by have := SBox.new (W.alloc (setO s)) a; rwa [show (W.alloc (setO s)).heap.size = W.heap.size + 1 from by simp] at this)
  have B0 := Lib.hid (show Below W.heap.size W ((W.alloc (setO s)).alloc (setO a)) from ((Below.refl _ _).alloc (Nat.le_refl _) _).alloc (by simp) _)
  generalize (W.alloc (setO s)).alloc (setO a) = w0 at *
  go_wp2_with (first | (with_reducible refine wpList_load_by rfl rfl X0.out.load rfl ?_) | fail)
  go_loopw [5, 9] (fun n i wr => ∃ (k : Nat), k ≤ 7 ∧ n = .int .i64 (cn (fun j => s j && a j) k) ∧ i = .int .i64 k ∧ RowKit.Hid (w0 = wr)) (fun _ i _ => 7 - (intOf i).toNat)
  case atStart => exact ⟨0, by omega, rfl, rfl, Lib.hid rfl⟩
  case round =>
    obtain ⟨k, hk, rfl, rfl, HW⟩ := hrel
    cases HW.out
    clear HW
    by_cases h7 : k < 7
    · have hn := cn_max (fun j => s j && a j) k
      have hl : ((k : Int) < 7) := by omega
      clear hm1 hm2 HJ C0
      rcases Bool.eq_false_or_eq_true (s k) with hs | hs
      · rcases Bool.eq_false_or_eq_true (a k) with ha | ha
        · have hs : s k = true := hs
          have ha : a k = true := ha
          have he : cn (fun j => s j && a j) (k + 1) = cn (fun j => s j && a j) k + 1 := by simp [cn, hs, ha]
          have hix : ∀ w : World, _ := idx_set s k h7
          rw [hs] at hix
          have hy := Lib.hid (ha ▸ X1.out.cell k h7)
          generalize cn (fun j => s j && a j) k = c at *
          go_wp2_with (first | (with_reducible refine wpList_load_wanted rfl rfl hy.out rfl ?_) | fail)
          go_round
          case rel => exact ⟨k + 1, by omega, by rw [he]; rfl, rfl, Lib.hid (by trivial)⟩
          case measure => simp [intOf]; omega
        · have hs : s k = true := hs
          have ha : a k = false := ha
          have he : cn (fun j => s j && a j) (k + 1) = cn (fun j => s j && a j) k := by simp [cn, hs, ha]
          have hix : ∀ w : World, _ := idx_set s k h7
          rw [hs] at hix
          have hy := Lib.hid (ha ▸ X1.out.cell k h7)
          generalize cn (fun j => s j && a j) k = c at *
          go_wp2_with (first | (with_reducible refine wpList_load_wanted rfl rfl hy.out rfl ?_) | fail)
          go_round
          case rel => exact ⟨k + 1, by omega, by rw [he], rfl, Lib.hid (by trivial)⟩
          case measure => simp [intOf]; omega
      · have hs : s k = false := hs
        have he : cn (fun j => s j && a j) (k + 1) = cn (fun j => s j && a j) k := by simp [cn, hs]
        have hix : ∀ w : World, _ := idx_set s k h7
        rw [hs] at hix
        have hy := Lib.hid (X1.out.cell k h7)
        generalize cn (fun j => s j && a j) k = c at *
        go_wp2_with (first | (with_reducible refine wpList_load_wanted rfl rfl hy.out rfl ?_) | fail)
        go_round
        case rel => exact ⟨k + 1, by omega, by rw [he], rfl, Lib.hid (by trivial)⟩
        case measure => simp [intOf]; omega
    · obtain rfl : k = 7 := by omega
      generalize cn (fun j => s j && a j) 7 = c at *
      generalize cn s 7 = d at *
      go_wp2_with (first | (with_reducible refine wpList_load_by rfl rfl X0.out.load rfl ?_) | (go_at_call 33; (with_reducible refine (C0.out _).mono ?_); rintro e wb ⟨rfl, kk⟩; have HB := Lib.hid (below_then B0.out (by have := B0.out.size; omega) kk); clear kk) | fail)
      go_ret
      exact ⟨ret_bool HJ.out, HB.out⟩
set_option maxRecDepth 100000 in
set_option maxHeartbeats 1000000 in
theorem rmaj_any (s a : Nat → Bool) (W : World) : Calls Try.prog 36 #[setV s, setV a] W fun e W' => e = .returned (.bool (mj s a)) ∧ Below W.heap.size W W' := by
  have HJ : RowKit.Hid (decide ((2 : Int) * (cn (fun j => s j && a j) 7 : Nat) > (cn s 7 : Nat)) = mj s a) := Lib.hid (by unfold mj; exact decide_eq_decide.2 ⟨fun h => by omega, fun h => by omega⟩)
  have hm1 := cn_max (fun j => s j && a j) 7
  have hm2 := cn_max s 7
  have C0 := Lib.hid (fun W' => rcount_any s W')
  go_enter Try.func36, Try.ntmps36
  go_upto_region 1 with (fail)
  have X0 := Lib.hid ((SBox.new W s).alloc (setO a))
  have X1 := Lib.hid (show SBox ((W.alloc (setO s)).alloc (setO a)) (W.heap.size + 1) a from by have := SBox.new (W.alloc (setO s)) a; rwa [show (W.alloc (setO s)).heap.size = W.heap.size + 1 from by simp] at this)
  have B0 := Lib.hid (show Below W.heap.size W ((W.alloc (setO s)).alloc (setO a)) from ((Below.refl _ _).alloc (Nat.le_refl _) _).alloc (by simp) _)
  generalize (W.alloc (setO s)).alloc (setO a) = w0 at *
  go_wp2_with (first | (with_reducible refine wpList_load_by rfl rfl X0.out.load rfl ?_) | fail)
  go_loopw [5, 6] (fun n i wr => ∃ (k : Nat), k ≤ 7 ∧ n = .int .i64 (cn (fun j => s j && a j) k) ∧ i = .int .i64 k ∧ RowKit.Hid (w0 = wr)) (fun _ i _ => 7 - (intOf i).toNat)
  case atStart => exact ⟨0, by omega, rfl, rfl, Lib.hid rfl⟩
  case round =>
    obtain ⟨k, hk, rfl, rfl, HW⟩ := hrel
    cases HW.out
    clear HW
    by_cases h7 : k < 7
    · have hn := cn_max (fun j => s j && a j) k
      have hl : ((k : Int) < 7) := by omega
      clear hm1 hm2 HJ C0
      rcases Bool.eq_false_or_eq_true (s k) with hs | hs
      · rcases Bool.eq_false_or_eq_true (a k) with ha | ha
        · have hs : s k = true := hs
          have ha : a k = true := ha
          have he : cn (fun j => s j && a j) (k + 1) = cn (fun j => s j && a j) k + 1 := by simp [cn, hs, ha]
          have hx := Lib.hid (hs ▸ X0.out.cell k h7)
          have hy := Lib.hid (ha ▸ X1.out.cell k h7)
          generalize cn (fun j => s j && a j) k = c at *
          go_wp2_with (first | (with_reducible refine wpList_load_by rfl rfl hx.out rfl ?_) | (with_reducible refine wpList_load_wanted rfl rfl hy.out rfl ?_) | fail)
          go_round
          case rel => exact ⟨k + 1, by omega, by rw [he]; rfl, rfl, Lib.hid (by trivial)⟩
          case measure => simp [intOf]; omega
        · have hs : s k = true := hs
          have ha : a k = false := ha
          have he : cn (fun j => s j && a j) (k + 1) = cn (fun j => s j && a j) k := by simp [cn, hs, ha]
          have hx := Lib.hid (hs ▸ X0.out.cell k h7)
          have hy := Lib.hid (ha ▸ X1.out.cell k h7)
          generalize cn (fun j => s j && a j) k = c at *
          go_wp2_with (first | (with_reducible refine wpList_load_by rfl rfl hx.out rfl ?_) | (with_reducible refine wpList_load_wanted rfl rfl hy.out rfl ?_) | fail)
          go_round
          case rel => exact ⟨k + 1, by omega, by rw [he], rfl, Lib.hid (by trivial)⟩
          case measure => simp [intOf]; omega
      · have hs : s k = false := hs
        have he : cn (fun j => s j && a j) (k + 1) = cn (fun j => s j && a j) k := by simp [cn, hs]
        have hx := Lib.hid (hs ▸ X0.out.cell k h7)
        have hy := Lib.hid (X1.out.cell k h7)
        generalize cn (fun j => s j && a j) k = c at *
        go_wp2_with (first | (with_reducible refine wpList_load_by rfl rfl hx.out rfl ?_) | (with_reducible refine wpList_load_wanted rfl rfl hy.out rfl ?_) | fail)
        go_round
        case rel => exact ⟨k + 1, by omega, by rw [he], rfl, Lib.hid (by trivial)⟩
        case measure => simp [intOf]; omega
    · obtain rfl : k = 7 := by omega
      generalize cn (fun j => s j && a j) 7 = c at *
      generalize cn s 7 = d at *
      go_wp2_with (first | (with_reducible refine wpList_load_by rfl rfl X0.out.load rfl ?_) | (go_at_call 34; (with_reducible refine (C0.out _).mono ?_); rintro e wb ⟨rfl, kk⟩; have HB := Lib.hid (below_then B0.out (by have := B0.out.size; omega) kk); clear kk) | fail)
      go_ret
      exact ⟨ret_bool HJ.out, HB.out⟩
end Go.Proofs.Ythlghmechldegaa
