/- The program: an operation with its registers. -/
import Derived.Test.YtnbpadnbmbdfeaaDoorB
import Derived.Handy
namespace Go.Proofs.YtnbpadnbmbdfeaaDoor
open Go.RowKit Go.Deep Go.Joins
set_option maxHeartbeats 400000 in
theorem withRd (w : Nat) (op imm : Int) (W : World) :
    Calls Tryd.prog 25 #[.int .u32 w, .int .i64 op, .int .i64 imm] W fun e W' => e = .returned (.agg #[.int .i64 op, .int .i64 (cutN w 7 5 : Nat), .int .i64 0, .int .i64 0, .int .i64 imm]) ∧ Below W.heap.size W W' := by
  go_enter Tryd.func25, Tryd.ntmps25
  go_wp2_with (first | (go_at_call 40; (first | (with_reducible refine (rd_any w _).mono ?_) | fail); rintro e w' ⟨rfl, rfl⟩) | fail)
  go_returns
  exact ⟨rfl, below1 W _⟩
set_option maxHeartbeats 400000 in
theorem withRdRs1 (w : Nat) (op imm : Int) (W : World) :
    Calls Tryd.prog 28 #[.int .u32 w, .int .i64 op, .int .i64 imm] W fun e W' => e = .returned (.agg #[.int .i64 op, .int .i64 (cutN w 7 5 : Nat), .int .i64 (cutN w 15 5 : Nat), .int .i64 0, .int .i64 imm]) ∧ Below W.heap.size W W' := by
  go_enter Tryd.func28, Tryd.ntmps28
  go_wp2_with (first | (go_at_call 40; (first | (with_reducible refine (rd_any w _).mono ?_) | fail); rintro e w' ⟨rfl, rfl⟩) | (go_at_call 42; (first | (with_reducible refine (rs1_any w _).mono ?_) | fail); rintro e w' ⟨rfl, rfl⟩) | fail)
  go_returns
  exact ⟨rfl, below1 W _⟩
set_option maxHeartbeats 400000 in
theorem withRs1Rs2 (w : Nat) (op imm : Int) (W : World) :
    Calls Tryd.prog 30 #[.int .u32 w, .int .i64 op, .int .i64 imm] W fun e W' => e = .returned (.agg #[.int .i64 op, .int .i64 0, .int .i64 (cutN w 15 5 : Nat), .int .i64 (cutN w 20 5 : Nat), .int .i64 imm]) ∧ Below W.heap.size W W' := by
  go_enter Tryd.func30, Tryd.ntmps30
  go_wp2_with (first | (go_at_call 42; (first | (with_reducible refine (rs1_any w _).mono ?_) | fail); rintro e w' ⟨rfl, rfl⟩) | (go_at_call 43; (first | (with_reducible refine (rs2_any w _).mono ?_) | fail); rintro e w' ⟨rfl, rfl⟩) | fail)
  go_returns
  exact ⟨rfl, below1 W _⟩
set_option maxHeartbeats 400000 in
theorem withAll (w : Nat) (op : Int) (W : World) :
    Calls Tryd.prog 35 #[.int .u32 w, .int .i64 op] W fun e W' => e = .returned (.agg #[.int .i64 op, .int .i64 (cutN w 7 5 : Nat), .int .i64 (cutN w 15 5 : Nat), .int .i64 (cutN w 20 5 : Nat), .int .i64 0]) ∧ Below W.heap.size W W' := by
  go_enter Tryd.func35, Tryd.ntmps35
  go_wp2_with (first | (go_at_call 40; (first | (with_reducible refine (rd_any w _).mono ?_) | fail); rintro e w' ⟨rfl, rfl⟩) | (go_at_call 42; (first | (with_reducible refine (rs1_any w _).mono ?_) | fail); rintro e w' ⟨rfl, rfl⟩) | (go_at_call 43; (first | (with_reducible refine (rs2_any w _).mono ?_) | fail); rintro e w' ⟨rfl, rfl⟩) | fail)
  go_returns
  exact ⟨rfl, below1 W _⟩

end Go.Proofs.YtnbpadnbmbdfeaaDoor
