/- MachineNumbers, part 49. -/
import Derived.Test.YtplcfdnfeclpmaaGreatDoorRows
import Derived.Test.YtplcfdnfeclpmaaGreatDoorTie
import Derived.ProofKit
import Derived.Test.YtplcfdnfeclpmaaGreatDoorV01
set_option maxHeartbeats 40000000
set_option maxRecDepth 100000
namespace Go.Proofs.YtplcfdnfeclpmaaGreatDoor
theorem zqN {a b:Bool} (h:a=true) (k:b=true):(a && b)=true:=by rw [h,k];rfl
theorem zsN:joinedFacts Tryz.prog 6 Tryz.f6 Rows.machineNumbersSpec Rows.machineNumbersRow=true:=by
 unfold joinedFacts
 repeat' (with_reducible refine zqN ?_ ?_)
 all_goals as_aux_lemma=>kernel_rfl
end Go.Proofs.YtplcfdnfeclpmaaGreatDoor
