/- The reference: the instruction of a word; the law awake. -/
import Derived.Test.YtnbpadnbmbdfeaaDoorQ
import Derived.Test.YtnbpadnbmbdfeaaDoorR
import Derived.Test.YtnbpadnbmbdfeaaDoorS
namespace Go.Proofs.YtnbpadnbmbdfeaaDoor
open Go.RowKit Go.Deep Go.Joins

theorem rword_any (w : Nat) (W : World) (hw : w < 4294967296) : Calls Tryd.prog 10 #[.int .u32 w] W fun e W' => e = .returned (.tuple #[.agg #[.int .i64 (wI w).op, .int .i64 (wI w).rd, .int .i64 (wI w).rs1, .int .i64 (wI w).rs2, .int .i64 (wI w).imm], .int .i64 (wE w)]) ∧ Below W.heap.size W W' := by
  have A := agree w
  have HY : ∀ O I : Int, rOI w = (O, I) → ¬ O = 0 → (1 ≤ O ∧ O ≤ 98) ∧ wI w = plainI ⟨O, (cutN w 7 5 : Nat), (cutN w 15 5 : Nat), (cutN w 20 5 : Nat), I⟩ ∧ wE w = 0 := by
    intro O I e h
    rw [e] at A
    obtain ⟨a1, a2⟩ := A
    dsimp only at a1 a2
    rcases a2 with a2 | ⟨h1, h2, h3⟩
    · exact absurd a2 h
    · exact ⟨⟨h1, h2⟩, by unfold wI; rw [if_neg (by omega)]; exact h3, by unfold wE; rw [if_neg (by omega)]⟩
  have HN : ∀ O I : Int, rOI w = (O, I) → O = 0 → wI w = ⟨0, 0, 0, 0, 0⟩ ∧ wE w = 60 := by
    intro O I e h
    rw [e] at A
    obtain ⟨a1, a2⟩ := A
    dsimp only at a1 a2
    exact ⟨by unfold wI; rw [if_pos (by omega)], by unfold wE; rw [if_pos (by omega)]⟩
  by_cases e : cutN w 0 7 = 55
  · obtain ⟨h1, h2, h3⟩ := HY _ _ (rOI_55 e) (by omega)
    rw [h2, h3]
    exact rw_55 w W hw  (qt e) h1
  have n55 := e
  clear e
  by_cases e : cutN w 0 7 = 23
  · obtain ⟨h1, h2, h3⟩ := HY _ _ (rOI_23 e) (by omega)
    rw [h2, h3]
    exact rw_23 w W hw (qf n55) (qt e) h1
  have n23 := e
  clear e
  by_cases e : cutN w 0 7 = 111
  · obtain ⟨h1, h2, h3⟩ := HY _ _ (rOI_111 e) (by omega)
    rw [h2, h3]
    exact rw_111 w W hw (qf n55) (qf n23) (qt e) h1
  have n111 := e
  clear e
  by_cases e : cutN w 0 7 = 103
  · by_cases h : (rOI w).1 = 0
    · rw [rOI_103 e] at h
      obtain ⟨h2, h3⟩ := HN _ _ (rOI_103 e) h
      rw [h2, h3]
      exact rw_103n w W hw (qf n55) (qf n23) (qf n111) (qt e) (by rw [beq_iff_eq]; exact h)
    · rw [rOI_103 e] at h
      obtain ⟨h1, h2, h3⟩ := HY _ _ (rOI_103 e) h
      rw [h2, h3]
      exact rw_103y w W hw (qf n55) (qf n23) (qf n111) (qt e) (by rw [beq_eq_false_iff_ne]; exact h) h1
  have n103 := e
  clear e
  by_cases e : cutN w 0 7 = 99
  · by_cases h : (rOI w).1 = 0
    · rw [rOI_99 e] at h
      obtain ⟨h2, h3⟩ := HN _ _ (rOI_99 e) h
      rw [h2, h3]
      exact rw_99n w W hw (qf n55) (qf n23) (qf n111) (qf n103) (qt e) (by rw [beq_iff_eq]; exact h)
    · rw [rOI_99 e] at h
      obtain ⟨h1, h2, h3⟩ := HY _ _ (rOI_99 e) h
      rw [h2, h3]
      exact rw_99y w W hw (qf n55) (qf n23) (qf n111) (qf n103) (qt e) (by rw [beq_eq_false_iff_ne]; exact h) h1
  have n99 := e
  clear e
  by_cases e : cutN w 0 7 = 3
  · by_cases h : (rOI w).1 = 0
    · rw [rOI_3 e] at h
      obtain ⟨h2, h3⟩ := HN _ _ (rOI_3 e) h
      rw [h2, h3]
      exact rw_3n w W hw (qf n55) (qf n23) (qf n111) (qf n103) (qf n99) (qt e) (by rw [beq_iff_eq]; exact h)
    · rw [rOI_3 e] at h
      obtain ⟨h1, h2, h3⟩ := HY _ _ (rOI_3 e) h
      rw [h2, h3]
      exact rw_3y w W hw (qf n55) (qf n23) (qf n111) (qf n103) (qf n99) (qt e) (by rw [beq_eq_false_iff_ne]; exact h) h1
  have n3 := e
  clear e
  by_cases e : cutN w 0 7 = 35
  · by_cases h : (rOI w).1 = 0
    · rw [rOI_35 e] at h
      obtain ⟨h2, h3⟩ := HN _ _ (rOI_35 e) h
      rw [h2, h3]
      exact rw_35n w W hw (qf n55) (qf n23) (qf n111) (qf n103) (qf n99) (qf n3) (qt e) (by rw [beq_iff_eq]; exact h)
    · rw [rOI_35 e] at h
      obtain ⟨h1, h2, h3⟩ := HY _ _ (rOI_35 e) h
      rw [h2, h3]
      exact rw_35y w W hw (qf n55) (qf n23) (qf n111) (qf n103) (qf n99) (qf n3) (qt e) (by rw [beq_eq_false_iff_ne]; exact h) h1
  have n35 := e
  clear e
  by_cases e : cutN w 0 7 = 19
  · by_cases h : (rOI w).1 = 0
    · rw [rOI_19 e] at h
      obtain ⟨h2, h3⟩ := HN _ _ (rOI_19 e) h
      rw [h2, h3]
      exact rw_19n w W hw (qf n55) (qf n23) (qf n111) (qf n103) (qf n99) (qf n3) (qf n35) (qt e) (by rw [beq_iff_eq]; exact h)
    · rw [rOI_19 e] at h
      obtain ⟨h1, h2, h3⟩ := HY _ _ (rOI_19 e) h
      rw [h2, h3]
      exact rw_19y w W hw (qf n55) (qf n23) (qf n111) (qf n103) (qf n99) (qf n3) (qf n35) (qt e) (by rw [beq_eq_false_iff_ne]; exact h) h1
  have n19 := e
  clear e
  by_cases e : cutN w 0 7 = 27
  · by_cases h : (rOI w).1 = 0
    · rw [rOI_27 e] at h
      obtain ⟨h2, h3⟩ := HN _ _ (rOI_27 e) h
      rw [h2, h3]
      exact rw_27n w W hw (qf n55) (qf n23) (qf n111) (qf n103) (qf n99) (qf n3) (qf n35) (qf n19) (qt e) (by rw [beq_iff_eq]; exact h)
    · rw [rOI_27 e] at h
      obtain ⟨h1, h2, h3⟩ := HY _ _ (rOI_27 e) h
      rw [h2, h3]
      exact rw_27y w W hw (qf n55) (qf n23) (qf n111) (qf n103) (qf n99) (qf n3) (qf n35) (qf n19) (qt e) (by rw [beq_eq_false_iff_ne]; exact h) h1
  have n27 := e
  clear e
  by_cases e : cutN w 0 7 = 51
  · by_cases h : (rOI w).1 = 0
    · rw [rOI_51 e] at h
      obtain ⟨h2, h3⟩ := HN _ _ (rOI_51 e) h
      rw [h2, h3]
      exact rw_51n w W hw (qf n55) (qf n23) (qf n111) (qf n103) (qf n99) (qf n3) (qf n35) (qf n19) (qf n27) (qt e) (by rw [beq_iff_eq]; exact h)
    · rw [rOI_51 e] at h
      obtain ⟨h1, h2, h3⟩ := HY _ _ (rOI_51 e) h
      rw [h2, h3]
      exact rw_51y w W hw (qf n55) (qf n23) (qf n111) (qf n103) (qf n99) (qf n3) (qf n35) (qf n19) (qf n27) (qt e) (by rw [beq_eq_false_iff_ne]; exact h) h1
  have n51 := e
  clear e
  by_cases e : cutN w 0 7 = 59
  · by_cases h : (rOI w).1 = 0
    · rw [rOI_59 e] at h
      obtain ⟨h2, h3⟩ := HN _ _ (rOI_59 e) h
      rw [h2, h3]
      exact rw_59n w W hw (qf n55) (qf n23) (qf n111) (qf n103) (qf n99) (qf n3) (qf n35) (qf n19) (qf n27) (qf n51) (qt e) (by rw [beq_iff_eq]; exact h)
    · rw [rOI_59 e] at h
      obtain ⟨h1, h2, h3⟩ := HY _ _ (rOI_59 e) h
      rw [h2, h3]
      exact rw_59y w W hw (qf n55) (qf n23) (qf n111) (qf n103) (qf n99) (qf n3) (qf n35) (qf n19) (qf n27) (qf n51) (qt e) (by rw [beq_eq_false_iff_ne]; exact h) h1
  have n59 := e
  clear e
  by_cases e : cutN w 0 7 = 15
  · by_cases h : (rOI w).1 = 0
    · rw [rOI_15 e] at h
      obtain ⟨h2, h3⟩ := HN _ _ (rOI_15 e) h
      rw [h2, h3]
      exact rw_15n w W hw (qf n55) (qf n23) (qf n111) (qf n103) (qf n99) (qf n3) (qf n35) (qf n19) (qf n27) (qf n51) (qf n59) (qt e) (by rw [beq_iff_eq]; exact h)
    · rw [rOI_15 e] at h
      obtain ⟨h1, h2, h3⟩ := HY _ _ (rOI_15 e) h
      rw [h2, h3]
      exact rw_15y w W hw (qf n55) (qf n23) (qf n111) (qf n103) (qf n99) (qf n3) (qf n35) (qf n19) (qf n27) (qf n51) (qf n59) (qt e) (by rw [beq_eq_false_iff_ne]; exact h) h1
  have n15 := e
  clear e
  by_cases e : cutN w 0 7 = 47
  · by_cases h : (rOI w).1 = 0
    · rw [rOI_47 e] at h
      obtain ⟨h2, h3⟩ := HN _ _ (rOI_47 e) h
      rw [h2, h3]
      exact rw_47n w W hw (qf n55) (qf n23) (qf n111) (qf n103) (qf n99) (qf n3) (qf n35) (qf n19) (qf n27) (qf n51) (qf n59) (qf n15) (qt e) (by rw [beq_iff_eq]; exact h)
    · rw [rOI_47 e] at h
      obtain ⟨h1, h2, h3⟩ := HY _ _ (rOI_47 e) h
      rw [h2, h3]
      exact rw_47y w W hw (qf n55) (qf n23) (qf n111) (qf n103) (qf n99) (qf n3) (qf n35) (qf n19) (qf n27) (qf n51) (qf n59) (qf n15) (qt e) (by rw [beq_eq_false_iff_ne]; exact h) h1
  have n47 := e
  clear e
  by_cases e : cutN w 0 7 = 115
  · by_cases h : (rOI w).1 = 0
    · rw [rOI_115 e] at h
      obtain ⟨h2, h3⟩ := HN _ _ (rOI_115 e) h
      rw [h2, h3]
      exact rw_115n w W hw (qf n55) (qf n23) (qf n111) (qf n103) (qf n99) (qf n3) (qf n35) (qf n19) (qf n27) (qf n51) (qf n59) (qf n15) (qf n47) (qt e) (by rw [beq_iff_eq]; exact h)
    · rw [rOI_115 e] at h
      obtain ⟨h1, h2, h3⟩ := HY _ _ (rOI_115 e) h
      rw [h2, h3]
      exact rw_115y w W hw (qf n55) (qf n23) (qf n111) (qf n103) (qf n99) (qf n3) (qf n35) (qf n19) (qf n27) (qf n51) (qf n59) (qf n15) (qf n47) (qt e) (by rw [beq_eq_false_iff_ne]; exact h) h1
  have n115 := e
  clear e
  obtain ⟨h2, h3⟩ := HN _ _ (rOI_no n55 n23 n111 n103 n99 n3 n35 n19 n27 n51 n59 n15 n47 n115) rfl
  rw [h2, h3]
  exact rw_no w W hw (qf n55) (qf n23) (qf n111) (qf n103) (qf n99) (qf n3) (qf n35) (qf n19) (qf n27) (qf n51) (qf n59) (qf n15) (qf n47) (qf n115)

theorem w_first : wI 5243027 = ⟨22, 1, 0, 0, 5⟩ ∧ wE 5243027 = 0 := ⟨by rfl, by rfl⟩
theorem w_zero : wI 0 = ⟨0, 0, 0, 0, 0⟩ ∧ wE 0 = 60 := ⟨by rfl, by rfl⟩
theorem word_first (W : World) (hL : Laid W) : Calls Tryd.prog 9 #[.int .u32 5243027] W fun e W' => e = .returned (.tuple #[.agg #[.int .i64 22, .int .i64 1, .int .i64 0, .int .i64 0, .int .i64 5], .int .i64 0]) ∧ Below W.heap.size W W' := by
  have h := word_any 5243027 W hL
  rw [w_first.1, w_first.2] at h
  exact h
theorem word_zero (W : World) (hL : Laid W) : Calls Tryd.prog 9 #[.int .u32 0] W fun e W' => e = .returned (.tuple #[.agg #[.int .i64 0, .int .i64 0, .int .i64 0, .int .i64 0, .int .i64 0], .int .i64 60]) ∧ Below W.heap.size W W' := by
  have h := word_any 0 W hL
  rw [w_zero.1, w_zero.2] at h
  exact h
theorem five {w1 w2 : World} {a b c d e : Value} (hb : Below (w1.alloc (.cells #[a, b, c, d, e] 25)).heap.size (w1.alloc (.cells #[a, b, c, d, e] 25)) w2) :
    w2.cell? ⟨w1.heap.size, 0, none⟩ = some a ∧ w2.cell? ⟨w1.heap.size, 1, none⟩ = some b ∧ w2.cell? ⟨w1.heap.size, 2, none⟩ = some c ∧ w2.cell? ⟨w1.heap.size, 3, none⟩ = some d ∧ w2.cell? ⟨w1.heap.size, 4, none⟩ = some e ∧ w1.heap.size < w2.heap.size := by
  have hl : w1.heap.size < (w1.alloc (.cells #[a, b, c, d, e] 25)).heap.size := by simp
  have hc := fun i => hb.cell (p := ⟨w1.heap.size, i, none⟩) hl
  exact ⟨(hc 0).trans (by simp), (hc 1).trans (by simp), (hc 2).trans (by simp), (hc 3).trans (by simp), (hc 4).trans (by simp), Nat.lt_of_lt_of_le hl hb.size⟩
set_option maxHeartbeats 2000000 in
theorem awake_any (W : World) (hL : Laid W) : Calls Tryd.prog 8 #[] W fun e W' => e = .returned (.bool true) ∧ Below W.heap.size W W' := by
  have HL := Lib.hid hL
  clear hL
  go_enter Tryd.func8, Tryd.ntmps8
  go_wp2_with (first | (go_at_call 9; (with_reducible refine (word_first _ HL.out).mono ?_); rintro e w1 ⟨rfl, hb1⟩; have H1 := Lib.hid hb1; clear hb1) | (go_at_call 9; (with_reducible refine (word_zero _ (HL.out.below (H1.out.alloc H1.out.size _))).mono ?_); rintro e w2 ⟨rfl, hb2⟩; obtain ⟨f0, f1, f2, f3, f4, fl⟩ := five hb2; have H2 := Lib.hid hb2; clear hb2) | fail)
  go_ret
  have hq := H1.out.alloc H1.out.size (.cells #[.int .i64 22, .int .i64 1, .int .i64 0, .int .i64 0, .int .i64 5] 25)
  have hr := hq.trans (H2.out.mono hq.size)
  exact ⟨rfl, hr.alloc hr.size _⟩

end Go.Proofs.YtnbpadnbmbdfeaaDoor
