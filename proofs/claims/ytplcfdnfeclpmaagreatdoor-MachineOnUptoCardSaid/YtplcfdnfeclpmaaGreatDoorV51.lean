/- MachineOn, part 51. -/
import Derived.Test.YtplcfdnfeclpmaaGreatDoorRows
import Derived.Test.YtplcfdnfeclpmaaGreatDoorTie
import Derived.ProofKit
import Derived.Test.YtplcfdnfeclpmaaGreatDoorV01
set_option maxHeartbeats 40000000
set_option maxRecDepth 100000
namespace Go.Proofs.YtplcfdnfeclpmaaGreatDoor
theorem zn5 {a b:Bool} (h:a=true) (k:b=true):(a && b)=true:=by rw [h,k];rfl
theorem zvz:joinedFacts Tryz.prog 4 Tryz.f4 (Rows.OpenSpec.upto Rows.machineOnSpec).bare Rows.machineOnUptoRow=true:=by
 unfold joinedFacts
 repeat' (with_reducible refine zn5 ?_ ?_)
 all_goals as_aux_lemma=>kernel_rfl
end Go.Proofs.YtplcfdnfeclpmaaGreatDoor
