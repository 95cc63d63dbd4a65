/- The reference's Name, and its place for a new file. -/
import Derived.Test.YtfpdfhncifcghaaSf
namespace Go.Proofs.Ytfpdfhncifcghaa
open Go.RowKit Go.Deep Go.Joins

theorem letter_not {c : Int} : letterB c = false ↔ (c < 97 ∨ 122 < c) ∧ (c < 48 ∨ 57 < c) ∧ c ≠ 46 := by
  unfold letterB
  simp only [Bool.or_eq_false_iff, Bool.and_eq_false_iff, decide_eq_false_iff_not, beq_eq_false_iff_ne]
  omega
theorem name2_any (s : ByteArray) (w : World) (hs : s.size ≤ 1099511627776) :
    Calls Try.prog 11 #[.string s] w fun e w' => e = .returned (.bool (nameB s)) ∧ w = w' := by
  by_cases h0 : s.size < 1
  · go_enter Try.func11, Try.ntmps11
    go_wp2
    go_ret
    exact ⟨ret_bool (by unfold nameB; rw [show decide (1 ≤ s.size) = false from decide_eq_false (by omega)]; simp), rfl⟩
  by_cases h1 : 16 < s.size
  · go_enter Try.func11, Try.ntmps11
    go_wp2
    go_ret
    exact ⟨ret_bool (by unfold nameB; rw [show decide (s.size ≤ 16) = false from decide_eq_false (by omega)]; simp), rfl⟩
  have e : nameB s = s.data.toList.all fun c => letterB c.toNat := by
    unfold nameB
    rw [show decide (1 ≤ s.size) = true from decide_eq_true (by omega), show decide (s.size ≤ 16) = true from decide_eq_true (by omega)]
    rfl
  have E := Lib.hid e
  clear e
  go_enter Try.func11, Try.ntmps11
  go_wp2
  go_loop [3] (fun i => ∃ k : Nat, k ≤ s.size ∧ i = .int .i64 k ∧ Hid ((s.data.toList.take k).all (fun c => letterB c.toNat) = true)) (fun i => s.size - (intOf i).toNat)
  case atStart => exact ⟨0, Nat.zero_le _, rfl, rfl⟩
  case round =>
    obtain ⟨k, hk, rfl, Hall⟩ := hrel
    by_cases hlt : k < s.size
    · have hts := take_snoc s k hlt
      have Hts := Lib.hid hts
      clear hts
      have hbad : letterB (s[k].toNat : Int) = false → nameB s = false := fun hl => by
        rw [E.out, List.all_eq_false]
        exact ⟨s[k], mem_at s k hlt, by simp [hl]⟩
      have hgood : letterB (s[k].toNat : Int) = true → Hid ((s.data.toList.take (k + 1)).all (fun c => letterB c.toNat) = true) := fun hl => by
        show _ = _
        rw [Hts.out, List.all_append, Hall.out]
        simp [hl]
      have HBAD := Lib.hid hbad
      have HGOOD := Lib.hid hgood
      clear hbad hgood
      by_cases a1 : (s[k].toNat : Int) < 97
      · by_cases a2 : (s[k].toNat : Int) < 48
        · by_cases a3 : (s[k].toNat : Int) = 46
          · have hg := HGOOD.out (by unfold letterB; rw [a3]; rfl)
            have b3 : ((s[k].toNat : Int) != 46) = false := by rw [a3]; rfl
            have hn : s[k].toNat = 46 := by omega
            go_wp2_with fail
            go_round
            case rel => exact ⟨k + 1, by omega, by go_num, hg⟩
            case measure => simp [intOf]; omega
          · have hb := HBAD.out (letter_not.2 ⟨.inl a1, .inl a2, a3⟩)
            have HB := Lib.hid hb
            have b3 : ((s[k].toNat : Int) != 46) = true := by simpa using a3
            clear hb
            go_wp2_with fail
            go_ret
            exact ⟨ret_bool HB.out.symm, rfl⟩
        · by_cases a4 : 57 < (s[k].toNat : Int)
          · have hb := HBAD.out (letter_not.2 ⟨.inl a1, .inr a4, by omega⟩)
            have HB := Lib.hid hb
            have b3 : ((s[k].toNat : Int) != 46) = true := by simp; omega
            clear hb
            go_wp2_with fail
            go_ret
            exact ⟨ret_bool HB.out.symm, rfl⟩
          · have hg := HGOOD.out (by rcases Bool.eq_false_or_eq_true (letterB (s[k].toNat : Int)) with h | h; exact h; have := letter_not.1 h; omega)
            go_wp2_with fail
            go_round
            case rel => exact ⟨k + 1, by omega, by go_num, hg⟩
            case measure => simp [intOf]; omega
      · by_cases a2 : 122 < (s[k].toNat : Int)
        · have hb := HBAD.out (letter_not.2 ⟨.inr a2, .inr (by omega), by omega⟩)
          have HB := Lib.hid hb
          have b3 : ((s[k].toNat : Int) != 46) = true := by simp; omega
          have b4 : ¬ (s[k].toNat : Int) < 48 := by omega
          have b5 : 57 < (s[k].toNat : Int) := by omega
          clear hb
          go_wp2_with fail
          go_ret
          exact ⟨ret_bool HB.out.symm, rfl⟩
        · have hg := HGOOD.out (by rcases Bool.eq_false_or_eq_true (letterB (s[k].toNat : Int)) with h | h; exact h; have := letter_not.1 h; omega)
          go_wp2_with fail
          go_round
          case rel => exact ⟨k + 1, by omega, by go_num, hg⟩
          case measure => simp [intOf]; omega
    · go_wp2
      go_ret
      exact ⟨ret_bool (by rw [E.out, ← Hall.out, List.take_of_length_le (by rw [len_eq]; omega)]), rfl⟩
end Go.Proofs.Ytfpdfhncifcghaa
