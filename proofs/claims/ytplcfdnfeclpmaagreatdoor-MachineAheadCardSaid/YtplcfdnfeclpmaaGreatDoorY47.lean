/- MachineAhead,part 47. -/
import Derived.Test.YtplcfdnfeclpmaaGreatDoorRows
import Derived.Test.YtplcfdnfeclpmaaGreatDoorTie
import Derived.ProofKit
import Derived.Test.YtplcfdnfeclpmaaGreatDoorY01
set_option maxHeartbeats 40000000
set_option maxRecDepth 100000
namespace Go.Proofs.YtplcfdnfeclpmaaGreatDoor
theorem zuA {a b:Bool} (h:a=true) (k:b=true):(a && b)=true:=by rw [h,k];rfl
theorem zrd:joinedFacts Tryz.prog 5 Tryz.f5 Rows.machineAheadSpec Rows.machineAheadRow=true:=by
 unfold joinedFacts
 repeat' (with_reducible refine zuA ?_ ?_)
 all_goals as_aux_lemma=>kernel_rfl
end Go.Proofs.YtplcfdnfeclpmaaGreatDoor
