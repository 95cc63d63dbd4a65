/- HartQuiet,part 48. -/
import Derived.Test.YtmjjpgaeboaamaaGreatDoorY46
import Derived.Test.YtmjjpgaeboaamaaGreatDoorY47
set_option maxHeartbeats 4000000
set_option maxRecDepth 100000
open Go.Lib (hid)
namespace Go.Proofs.YtmjjpgaeboaamaaGreatDoor
open Go.RowKit Go.Deep Go.Joins Go.ChangeShapes Go.WideShapes Go.ChangeAt Go.WideMaps Go.WideElems
theorem ztB:Tryz.pinned.checked.prog.funcNamed Rows.hartQuietRow.func=some 4:=by kernel_rfl
theorem zoo:Rows.HartQuietSaid :=
 OpenClaim.holds_of_wide 4 Tryz.f4 rfl rfl rfl rfl rfl rfl rfl ⟨rfl,rfl,rfl,rfl,rfl⟩ rfl rfl rfl rfl rfl ztB Tryz.func4 zk3
  (of_decide_eq_true (by as_aux_lemma=>kernel_rfl)) (by unfold Func.isWrapper;first | (rw [if_pos (by decide +kernel)];kernel_rfl) | (rw [if_neg (by decide +kernel)];exact ⟨rfl,rfl⟩))
  (fun os started H enc _=>zp1 os started H enc)
end Go.Proofs.YtmjjpgaeboaamaaGreatDoor
