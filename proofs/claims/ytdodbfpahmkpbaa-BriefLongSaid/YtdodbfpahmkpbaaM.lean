/- BriefLong walked. -/
import Derived.Test.YtdodbfpahmkpbaaK
import Derived.Test.YtdodbfpahmkpbaaL
namespace Go.Proofs.Ytdodbfpahmkpbaa
open Go.RowKit Go.Deep Go.Joins

theorem long_of (h : Nat) (hh : h < 65536) : longB h = true := allB_spec longB 16 0 long_all h (by omega)
theorem long_parts {h : Nat} (hh : h < 65536) (z : wordN h ≠ 0) : wordN h % 4 = 3 ∧ shortB h = true ∧ wordN h < 4294967296 ∧ 1 ≤ (rOI (wordN h)).1 ∧ (rOI (wordN h)).1 ≤ 98 := by
  have H := long_of h hh
  unfold longB at H
  rw [beqF z, Bool.false_or, Bool.and_eq_true, Bool.and_eq_true, Bool.and_eq_true] at H
  obtain ⟨h1, h2, h3, h4⟩ := H
  refine ⟨Nat.eq_of_beq_eq_true h1, h2, ?_, of_decide_eq_true h4⟩
  simp [Nat.blt] at h3
  omega
set_option maxHeartbeats 1000000 in
theorem long_y (h : Nat) (W : World) (hh : h < 65536) (z : wordN h = 0) : Calls Try.prog 5 #[.int .u16 h] W fun e W' => e = .returned (.bool true) ∧ Below W.heap.size W W' := by
  go_enter Try.func5, Try.ntmps5
  go_wp2_with (first | (go_at_call 6; (with_reducible refine (awake_any _).mono ?_); rintro e w' ⟨rfl, rfl⟩) | (go_at_call 9; (with_reducible refine (pword_y h _ hh z).mono ?_); rintro e w' ⟨rfl, rfl⟩) | fail)
  go_ret
  exact ⟨rfl, Below.refl _ _⟩
set_option maxHeartbeats 2000000 in
theorem long_n (h : Nat) (W : World) (hh : h < 65536) (z : wordN h ≠ 0) : Calls Try.prog 5 #[.int .u16 h] W fun e W' => e = .returned (.bool true) ∧ Below W.heap.size W W' := by
  obtain ⟨h1, h2, h3, h4⟩ := long_parts hh z
  have c9 : ∀ W, Calls Try.prog 9 #[.int .u16 h] W fun e W' => e = .returned (.tuple #[.int .u32 ((wordN h : Nat) : Int), .int .i64 0]) ∧ W = W' := fun W => pword_n h W hh z
  have p3 : (bits .and .u32 ((wordN h : Nat) : Int) 3 == 3) = true := by
    rw [show bits .and .u32 ((wordN h : Nat) : Int) 3 = ((wordN h % 4 : Nat) : Int) from bits_and_nat (wordN h) 2 (by omega), h1]; rfl
  have cs : ∀ W, Calls Try.prog 7 #[.int .u16 h] W fun e W' => e = .returned (.bool true) ∧ W = W' := fun W => by
    have c := short_any h W
    rw [h2] at c
    exact c
  have cg : ∀ W, Calls Try.prog 11 #[.int .u32 ((wordN h : Nat) : Int)] W _ := fun W => rword_good (wordN h) W h3 h4
  clear h1 h2 h4 z
  generalize wordN h = w at *
  go_enter Try.func5, Try.ntmps5
  go_wp2_with (first | (go_at_call 6; (with_reducible refine (awake_any _).mono ?_); rintro e w' ⟨rfl, rfl⟩) | (go_at_call 9; (with_reducible refine (c9 _).mono ?_); rintro e w' ⟨rfl, rfl⟩) | (go_at_call 11; (with_reducible refine (cg _).mono ?_); rintro e w3 ⟨⟨a, b, c, d, f, rfl⟩, hb3⟩; have H3 := Lib.hid hb3; clear hb3) | (go_at_call 7; (with_reducible refine (cs _).mono ?_); rintro e w' ⟨rfl, rfl⟩) | fail)
  go_ret
  exact ⟨rfl, H3.out.alloc H3.out.size _⟩
theorem long_any (h : Nat) (W : World) (hh : h < 65536) : Calls Try.prog 5 #[.int .u16 h] W fun e W' => e = .returned (.bool true) ∧ Below W.heap.size W W' := by
  by_cases z : wordN h = 0
  · exact long_y h W hh z
  · exact long_n h W hh z

end Go.Proofs.Ytdodbfpahmkpbaa
