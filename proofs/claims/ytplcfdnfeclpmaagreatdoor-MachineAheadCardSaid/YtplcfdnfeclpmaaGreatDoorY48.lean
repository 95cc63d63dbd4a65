/- MachineAhead,the given statement: one input more changes nothing of what went out ahead of it,of every program,every size of memory and every list of inputs: for every input;the rows of operations start as the text of the program lays them (tied). -/
import Derived.Test.YtplcfdnfeclpmaaGreatDoorY46
import Derived.Test.YtplcfdnfeclpmaaGreatDoorY47
set_option maxHeartbeats 4000000
set_option maxRecDepth 100000
open Go.Lib (hid)
namespace Go.Proofs.YtplcfdnfeclpmaaGreatDoor
open Go.RowKit Go.Deep Go.Joins Go.ChangeShapes Go.WideShapes Go.ChangeAt Go.WideMaps Go.WideElems
theorem zj1:Tryz.pinned.checked.prog.funcNamed Rows.machineAheadRow.func=some 5:=by kernel_rfl
theorem zuQ:Rows.MachineAheadSaid :=
 OpenClaim.holds_of_wide 5 Tryz.f5 rfl rfl rfl rfl rfl rfl rfl ⟨rfl,rfl,rfl,rfl,rfl⟩ rfl rfl rfl rfl rfl zj1 Tryz.func5 zrd
  (of_decide_eq_true (by as_aux_lemma=>kernel_rfl)) (by unfold Func.isWrapper;first | (rw [if_pos (by decide +kernel)];kernel_rfl) | (rw [if_neg (by decide +kernel)];exact ⟨rfl,rfl⟩))
  (fun os started H enc _=>zum os started H enc)
theorem machineAhead_card:Rows.MachineAheadCardSaid :=
 Claim7.holds_tied_plain_at .later [] [.data,.data,.data,.data,.data,.data,.data,.data,.data,.data,.data,.data] true (true, "17b9d322e37afffd30134b847fbcf94c2b0d0631e96988515a1d45a95de00870") false
  zuQ (fun _ h=>by cases h) (by as_aux_lemma=>kernel_rfl) (fun _ h=>by cases h) machineAhead_row_tie rfl ⟨rfl,rfl⟩ (by as_aux_lemma=>kernel_rfl) rfl
  (fun f fn hf hfn=>by
   obtain rfl:f=5:=Option.some.inj ((show Tryz.prog.funcNamed "tandem/tandemlaw16.MachineAhead"=some 5 from zj1).symm.trans hf) |>.symm
   obtain rfl:fn=Tryz.f5:=(Option.some.inj (Tryz.func5.symm.trans hfn)).symm
   exact ⟨by as_aux_lemma=>kernel_rfl,fun j t ht=>by
    rw [Tryz.params5] at ht
    have hm:t∈[9,3,57]:=by simpa using Array.mem_of_getElem? ht
    have hall:([9,3,57].all fun u=>!Tryz.prog.wantsStandIn u)=true:=by as_aux_lemma=>kernel_rfl
    exact (show Tryz.prog.wantsStandIn t=false by simpa using List.all_eq_true.1 hall t hm)⟩)
  (by as_aux_lemma=>kernel_rfl)
end Go.Proofs.YtplcfdnfeclpmaaGreatDoor
