/- The reference tells an instruction where its operation is one. -/
import Derived.Test.YtdodbfpahmkpbaaJQ
import Derived.Test.YtdodbfpahmkpbaaJR
import Derived.Test.YtdodbfpahmkpbaaJS
namespace Go.Proofs.Ytdodbfpahmkpbaa
open Go.RowKit Go.Deep Go.Joins

theorem rword_good (w : Nat) (W : World) (hw : w < 4294967296) (hg : 1 ≤ (rOI w).1 ∧ (rOI w).1 ≤ 98) :
    Calls Try.prog 11 #[.int .u32 w] W fun e W' => (∃ a b c d f : Int, e = .returned (.tuple #[.agg #[.int .i64 a, .int .i64 b, .int .i64 c, .int .i64 d, .int .i64 f], .int .i64 0])) ∧ Below W.heap.size W W' := by
  by_cases e : cutN w 0 7 = 55
  · rw [rOI_55 e] at hg
    exact (rw_55 w W hw  (qt e) hg).mono fun e W' h => ⟨⟨_, _, _, _, _, h.1⟩, h.2⟩
  have n55 := e
  clear e
  by_cases e : cutN w 0 7 = 23
  · rw [rOI_23 e] at hg
    exact (rw_23 w W hw (qf n55) (qt e) hg).mono fun e W' h => ⟨⟨_, _, _, _, _, h.1⟩, h.2⟩
  have n23 := e
  clear e
  by_cases e : cutN w 0 7 = 111
  · rw [rOI_111 e] at hg
    exact (rw_111 w W hw (qf n55) (qf n23) (qt e) hg).mono fun e W' h => ⟨⟨_, _, _, _, _, h.1⟩, h.2⟩
  have n111 := e
  clear e
  by_cases e : cutN w 0 7 = 103
  · rw [rOI_103 e] at hg
    exact (rw_103y w W hw (qf n55) (qf n23) (qf n111) (qt e) (by rw [beq_eq_false_iff_ne]; intro h; rw [h] at hg; omega) hg).mono fun e W' h => ⟨⟨_, _, _, _, _, h.1⟩, h.2⟩
  have n103 := e
  clear e
  by_cases e : cutN w 0 7 = 99
  · rw [rOI_99 e] at hg
    exact (rw_99y w W hw (qf n55) (qf n23) (qf n111) (qf n103) (qt e) (by rw [beq_eq_false_iff_ne]; intro h; rw [h] at hg; omega) hg).mono fun e W' h => ⟨⟨_, _, _, _, _, h.1⟩, h.2⟩
  have n99 := e
  clear e
  by_cases e : cutN w 0 7 = 3
  · rw [rOI_3 e] at hg
    exact (rw_3y w W hw (qf n55) (qf n23) (qf n111) (qf n103) (qf n99) (qt e) (by rw [beq_eq_false_iff_ne]; intro h; rw [h] at hg; omega) hg).mono fun e W' h => ⟨⟨_, _, _, _, _, h.1⟩, h.2⟩
  have n3 := e
  clear e
  by_cases e : cutN w 0 7 = 35
  · rw [rOI_35 e] at hg
    exact (rw_35y w W hw (qf n55) (qf n23) (qf n111) (qf n103) (qf n99) (qf n3) (qt e) (by rw [beq_eq_false_iff_ne]; intro h; rw [h] at hg; omega) hg).mono fun e W' h => ⟨⟨_, _, _, _, _, h.1⟩, h.2⟩
  have n35 := e
  clear e
  by_cases e : cutN w 0 7 = 19
  · rw [rOI_19 e] at hg
    exact (rw_19y w W hw (qf n55) (qf n23) (qf n111) (qf n103) (qf n99) (qf n3) (qf n35) (qt e) (by rw [beq_eq_false_iff_ne]; intro h; rw [h] at hg; omega) hg).mono fun e W' h => ⟨⟨_, _, _, _, _, h.1⟩, h.2⟩
  have n19 := e
  clear e
  by_cases e : cutN w 0 7 = 27
  · rw [rOI_27 e] at hg
    exact (rw_27y w W hw (qf n55) (qf n23) (qf n111) (qf n103) (qf n99) (qf n3) (qf n35) (qf n19) (qt e) (by rw [beq_eq_false_iff_ne]; intro h; rw [h] at hg; omega) hg).mono fun e W' h => ⟨⟨_, _, _, _, _, h.1⟩, h.2⟩
  have n27 := e
  clear e
  by_cases e : cutN w 0 7 = 51
  · rw [rOI_51 e] at hg
    exact (rw_51y w W hw (qf n55) (qf n23) (qf n111) (qf n103) (qf n99) (qf n3) (qf n35) (qf n19) (qf n27) (qt e) (by rw [beq_eq_false_iff_ne]; intro h; rw [h] at hg; omega) hg).mono fun e W' h => ⟨⟨_, _, _, _, _, h.1⟩, h.2⟩
  have n51 := e
  clear e
  by_cases e : cutN w 0 7 = 59
  · rw [rOI_59 e] at hg
    exact (rw_59y w W hw (qf n55) (qf n23) (qf n111) (qf n103) (qf n99) (qf n3) (qf n35) (qf n19) (qf n27) (qf n51) (qt e) (by rw [beq_eq_false_iff_ne]; intro h; rw [h] at hg; omega) hg).mono fun e W' h => ⟨⟨_, _, _, _, _, h.1⟩, h.2⟩
  have n59 := e
  clear e
  by_cases e : cutN w 0 7 = 15
  · rw [rOI_15 e] at hg
    exact (rw_15y w W hw (qf n55) (qf n23) (qf n111) (qf n103) (qf n99) (qf n3) (qf n35) (qf n19) (qf n27) (qf n51) (qf n59) (qt e) (by rw [beq_eq_false_iff_ne]; intro h; rw [h] at hg; omega) hg).mono fun e W' h => ⟨⟨_, _, _, _, _, h.1⟩, h.2⟩
  have n15 := e
  clear e
  by_cases e : cutN w 0 7 = 47
  · rw [rOI_47 e] at hg
    exact (rw_47y w W hw (qf n55) (qf n23) (qf n111) (qf n103) (qf n99) (qf n3) (qf n35) (qf n19) (qf n27) (qf n51) (qf n59) (qf n15) (qt e) (by rw [beq_eq_false_iff_ne]; intro h; rw [h] at hg; omega) hg).mono fun e W' h => ⟨⟨_, _, _, _, _, h.1⟩, h.2⟩
  have n47 := e
  clear e
  by_cases e : cutN w 0 7 = 115
  · rw [rOI_115 e] at hg
    exact (rw_115y w W hw (qf n55) (qf n23) (qf n111) (qf n103) (qf n99) (qf n3) (qf n35) (qf n19) (qf n27) (qf n51) (qf n59) (qf n15) (qf n47) (qt e) (by rw [beq_eq_false_iff_ne]; intro h; rw [h] at hg; omega) hg).mono fun e W' h => ⟨⟨_, _, _, _, _, h.1⟩, h.2⟩
  have n115 := e
  clear e
  rw [rOI_no n55 n23 n111 n103 n99 n3 n35 n19 n27 n51 n59 n15 n47 n115] at hg
  exact absurd hg.1 (by decide)

end Go.Proofs.Ytdodbfpahmkpbaa
