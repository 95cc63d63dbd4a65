/- HartQuiet,part 47. -/
import Derived.Test.YtmjjpgaeboaamaaGreatDoorRows
import Derived.Test.YtmjjpgaeboaamaaGreatDoorTie
import Derived.ProofKit
import Derived.Test.YtmjjpgaeboaamaaGreatDoorY01
set_option maxHeartbeats 40000000
set_option maxRecDepth 100000
namespace Go.Proofs.YtmjjpgaeboaamaaGreatDoor
theorem zue {a b:Bool} (h:a=true) (k:b=true):(a && b)=true:=by rw [h,k];rfl
theorem zk3:joinedFacts Tryz.prog 4 Tryz.f4 Rows.hartQuietSpec Rows.hartQuietRow=true:=by
 unfold joinedFacts
 repeat' (with_reducible refine zue ?_ ?_)
 all_goals as_aux_lemma=>kernel_rfl
end Go.Proofs.YtmjjpgaeboaamaaGreatDoor
