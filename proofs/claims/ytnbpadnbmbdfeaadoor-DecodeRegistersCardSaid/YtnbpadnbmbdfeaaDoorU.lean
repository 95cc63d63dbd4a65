/- DecodeTells, walked. -/
import Derived.Test.YtnbpadnbmbdfeaaDoorT
namespace Go.Proofs.YtnbpadnbmbdfeaaDoor
open Go.RowKit Go.Deep Go.Joins

set_option maxHeartbeats 2000000 in
theorem tells_any (w : Nat) (W : World) (hw : w < 4294967296) (hL : Laid W) : Calls Tryd.prog 3 #[.int .u32 w] W fun e W' => e = .returned (.bool true) ∧ Below W.heap.size W W' := by
  have HL := Lib.hid hL
  clear hL
  go_enter Tryd.func3, Tryd.ntmps3
  go_wp2_with (first | (go_at_call 8; (with_reducible refine (awake_any _ HL.out).mono ?_); rintro e w1 ⟨rfl, hb1⟩; have H1 := Lib.hid hb1; clear hb1) | (go_at_call 9; (with_reducible refine (word_any w _ (HL.out.below H1.out)).mono ?_); rintro e w2 ⟨rfl, hb2⟩; have H2 := Lib.hid hb2; clear hb2) | (go_at_call 10; (with_reducible refine (rword_any w _ hw).mono ?_); rintro e w3 ⟨rfl, hb3⟩; obtain ⟨f0, f1, f2, f3, f4, fl⟩ := five hb3; have H3 := Lib.hid hb3; clear hb3) | fail)
  go_ret
  have h12 := H1.out.trans (H2.out.mono H1.out.size)
  have hq := h12.alloc h12.size (.cells #[.int .i64 (wI w).op, .int .i64 (wI w).rd, .int .i64 (wI w).rs1, .int .i64 (wI w).rs2, .int .i64 (wI w).imm] 25)
  have hr := hq.trans (H3.out.mono hq.size)
  exact ⟨rfl, hr.alloc hr.size _⟩

end Go.Proofs.YtnbpadnbmbdfeaaDoor
