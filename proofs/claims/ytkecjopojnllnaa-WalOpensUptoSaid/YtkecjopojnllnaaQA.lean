/- Prefixes: may it be one? What begins with one. -/
import Derived.Test.YtkecjopojnllnaaPA
namespace Go.Proofs.Ytkecjopojnllnaa
open Go.RowKit Go.Deep Go.Joins

def smallB (c : Int) : Bool := decide (97 ≤ c) && decide (c ≤ 122)
def prefB (p : ByteArray) : Bool := decide (1 ≤ p.size) && decide (p.size ≤ 8) && p.data.toList.all (fun c => smallB c.toNat)
theorem small_not {c : Int} : smallB c = false ↔ c < 97 ∨ 122 < c := by
  unfold smallB
  simp only [Bool.and_eq_false_iff, decide_eq_false_iff_not]
  omega
theorem mayBe_any (s : ByteArray) (w : World) :
    Calls Try.prog 30 #[.string s] w fun e w' => e = .returned (.bool (prefB s)) ∧ w = w' := by
  by_cases h0 : s.size < 1
  · go_enter Try.func30, Try.ntmps30
    go_wp2
    go_ret
    exact ⟨ret_bool (by unfold prefB; rw [show decide (1 ≤ s.size) = false from decide_eq_false (by omega)]; simp), rfl⟩
  by_cases h1 : 8 < s.size
  · go_enter Try.func30, Try.ntmps30
    go_wp2
    go_ret
    exact ⟨ret_bool (by unfold prefB; rw [show decide (s.size ≤ 8) = false from decide_eq_false (by omega)]; simp), rfl⟩
  have e : prefB s = s.data.toList.all fun c => smallB c.toNat := by
    unfold prefB
    rw [show decide (1 ≤ s.size) = true from decide_eq_true (by omega), show decide (s.size ≤ 8) = true from decide_eq_true (by omega)]
    rfl
  have E := Lib.hid e
  clear e
  go_enter Try.func30, Try.ntmps30
  go_wp2
  go_loop [14] (fun i => ∃ k : Nat, k ≤ s.size ∧ i = .int .i64 k ∧ Hid ((s.data.toList.take k).all (fun c => smallB c.toNat) = true)) (fun i => s.size - (intOf i).toNat)
  case atStart => exact ⟨0, Nat.zero_le _, rfl, rfl⟩
  case round =>
    obtain ⟨k, hk, rfl, Hall⟩ := hrel
    by_cases hlt : k < s.size
    · have hts := take_snoc s k hlt
      have Hts := Lib.hid hts
      clear hts
      have hbad : smallB (s[k].toNat : Int) = false → prefB s = false := fun hl => by
        rw [E.out, List.all_eq_false]
        exact ⟨s[k], mem_at s k hlt, by simp [hl]⟩
      have hgood : smallB (s[k].toNat : Int) = true → Hid ((s.data.toList.take (k + 1)).all (fun c => smallB c.toNat) = true) := fun hl => by
        show _ = _
        rw [Hts.out, List.all_append, Hall.out]
        simp [hl]
      have HBAD := Lib.hid hbad
      have HGOOD := Lib.hid hgood
      clear hbad hgood
      by_cases a1 : (s[k].toNat : Int) < 97
      · have hb := HBAD.out (small_not.2 (.inl a1))
        have HB := Lib.hid hb
        clear hb
        go_wp2_with fail
        go_ret
        exact ⟨ret_bool HB.out.symm, rfl⟩
      · by_cases a2 : 122 < (s[k].toNat : Int)
        · have hb := HBAD.out (small_not.2 (.inr a2))
          have HB := Lib.hid hb
          clear hb
          go_wp2_with fail
          go_ret
          exact ⟨ret_bool HB.out.symm, rfl⟩
        · have hg := HGOOD.out (by rcases Bool.eq_false_or_eq_true (smallB (s[k].toNat : Int)) with h | h; exact h; have := small_not.1 h; omega)
          go_wp2_with fail
          go_round
          case rel => exact ⟨k + 1, by omega, by go_num, hg⟩
          case measure => simp [intOf]; omega
    · go_wp2
      go_ret
      exact ⟨ret_bool (by rw [E.out, ← Hall.out, List.take_of_length_le (by rw [len_eq]; omega)]), rfl⟩
theorem prefix_any (s : ByteArray) (w : World) :
    Calls Try.prog 36 #[.string s] w fun e w' => e = .returned (.bool (prefB s)) ∧ w = w' := by
  by_cases h0 : s.size < 1
  · go_enter Try.func36, Try.ntmps36
    go_wp2
    go_ret
    exact ⟨ret_bool (by unfold prefB; rw [show decide (1 ≤ s.size) = false from decide_eq_false (by omega)]; simp), rfl⟩
  by_cases h1 : 8 < s.size
  · go_enter Try.func36, Try.ntmps36
    go_wp2
    go_ret
    exact ⟨ret_bool (by unfold prefB; rw [show decide (s.size ≤ 8) = false from decide_eq_false (by omega)]; simp), rfl⟩
  have e : prefB s = s.data.toList.all fun c => smallB c.toNat := by
    unfold prefB
    rw [show decide (1 ≤ s.size) = true from decide_eq_true (by omega), show decide (s.size ≤ 8) = true from decide_eq_true (by omega)]
    rfl
  have E := Lib.hid e
  clear e
  go_enter Try.func36, Try.ntmps36
  go_wp2
  go_loop [3] (fun i => ∃ k : Nat, k ≤ s.size ∧ i = .int .i64 k ∧ Hid ((s.data.toList.take k).all (fun c => smallB c.toNat) = true)) (fun i => s.size - (intOf i).toNat)
  case atStart => exact ⟨0, Nat.zero_le _, rfl, rfl⟩
  case round =>
    obtain ⟨k, hk, rfl, Hall⟩ := hrel
    by_cases hlt : k < s.size
    · have hts := take_snoc s k hlt
      have Hts := Lib.hid hts
      clear hts
      have hbad : smallB (s[k].toNat : Int) = false → prefB s = false := fun hl => by
        rw [E.out, List.all_eq_false]
        exact ⟨s[k], mem_at s k hlt, by simp [hl]⟩
      have hgood : smallB (s[k].toNat : Int) = true → Hid ((s.data.toList.take (k + 1)).all (fun c => smallB c.toNat) = true) := fun hl => by
        show _ = _
        rw [Hts.out, List.all_append, Hall.out]
        simp [hl]
      have HBAD := Lib.hid hbad
      have HGOOD := Lib.hid hgood
      clear hbad hgood
      by_cases a1 : (s[k].toNat : Int) < 97
      · have hb := HBAD.out (small_not.2 (.inl a1))
        have HB := Lib.hid hb
        clear hb
        go_wp2_with fail
        go_ret
        exact ⟨ret_bool HB.out.symm, rfl⟩
      · by_cases a2 : 122 < (s[k].toNat : Int)
        · have hb := HBAD.out (small_not.2 (.inr a2))
          have HB := Lib.hid hb
          clear hb
          go_wp2_with fail
          go_ret
          exact ⟨ret_bool HB.out.symm, rfl⟩
        · have hg := HGOOD.out (by rcases Bool.eq_false_or_eq_true (smallB (s[k].toNat : Int)) with h | h; exact h; have := small_not.1 h; omega)
          go_wp2_with fail
          go_round
          case rel => exact ⟨k + 1, by omega, by go_num, hg⟩
          case measure => simp [intOf]; omega
    · go_wp2
      go_ret
      exact ⟨ret_bool (by rw [E.out, ← Hall.out, List.take_of_length_le (by rw [len_eq]; omega)]), rfl⟩

/-! ### What begins with a prefix -/
def begB (s p : ByteArray) : Bool := decide (p.size ≤ s.size) && ((s.extract 0 p.size).toList == p.toList)
theorem hasPrefix_any (s p : ByteArray) (w : World) :
    Calls Try.prog 82 #[.string s, .string p] w fun e w' => e = .returned (.bool (begB s p)) ∧ w = w' := by
  by_cases h : p.size ≤ s.size
  · have h1 : (p.size : Int) ≤ (s.size : Int) := by omega
    go_enter Try.func82, Try.ntmps82
    go_wp2
    go_ret
    exact ⟨ret_bool (by unfold begB; simp [h]), rfl⟩
  · have h1 : ¬ (p.size : Int) ≤ (s.size : Int) := by omega
    go_enter Try.func82, Try.ntmps82
    go_wp2
    go_ret
    exact ⟨ret_bool (by unfold begB; simp [h]), rfl⟩
theorem cutPrefix_any (s p : ByteArray) (w : World) :
    Calls Try.prog 76 #[.string s, .string p] w fun e w' => e = .returned (.tuple #[.string (if begB s p = true then s.extract p.size s.size else s), .bool (begB s p)]) ∧ w = w' := by
  rcases Bool.eq_false_or_eq_true (begB s p) with h | h
  · have hle : p.size ≤ s.size := by unfold begB at h; simp at h; exact h.1
    have hle2 : (p.size : Int) ≤ (s.size : Int) := by omega
    have H := hasPrefix_any s p w
    rw [h] at H ⊢
    have HH := Lib.hid H
    clear H h
    go_enter Try.func76, Try.ntmps76
    go_wp2_with (go_at_call 82; refine HH.out.mono ?_; rintro e w1 ⟨rfl, rfl⟩)
    go_ret2
    exact ⟨rfl, rfl⟩
  · have H := hasPrefix_any s p w
    rw [h] at H ⊢
    have HH := Lib.hid H
    clear H h
    go_enter Try.func76, Try.ntmps76
    go_wp2_with (go_at_call 82; refine HH.out.mono ?_; rintro e w1 ⟨rfl, rfl⟩)
    go_ret2
    exact ⟨rfl, rfl⟩
theorem cut_any (s p : ByteArray) (w : World) :
    Calls Try.prog 69 #[.string s, .string p] w fun e w' => e = .returned (.tuple #[.string (if begB s p = true then s.extract p.size s.size else s), .bool (begB s p)]) ∧ w = w' := by
  have H := cutPrefix_any s p w
  rcases Bool.eq_false_or_eq_true (begB s p) with h | h
  all_goals
    rw [h] at H ⊢
    have HH := Lib.hid H
    clear H h
    go_enter Try.func69, Try.ntmps69
    go_wp2_with (go_at_call 76; refine HH.out.mono ?_; rintro e w1 ⟨rfl, rfl⟩)
    go_ret2
    exact ⟨rfl, rfl⟩
end Go.Proofs.Ytkecjopojnllnaa
