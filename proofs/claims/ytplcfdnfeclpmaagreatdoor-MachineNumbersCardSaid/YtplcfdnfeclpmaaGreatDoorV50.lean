/- MachineNumbers, the given statement: records are numbered 0, 1, 2 and so on, none is empty, the count is that of all steps, and the machine is one that may be, of every program, every size of memory and every list of inputs: for every input; the rows of operations start as the text of the program lays them (tied). -/
import Derived.Test.YtplcfdnfeclpmaaGreatDoorV48
import Derived.Test.YtplcfdnfeclpmaaGreatDoorV49
set_option maxHeartbeats 4000000
set_option maxRecDepth 100000
open Go.Lib (hid)
namespace Go.Proofs.YtplcfdnfeclpmaaGreatDoor
open Go.RowKit Go.Deep Go.Joins Go.ChangeShapes Go.WideShapes Go.ChangeAt Go.WideMaps Go.WideElems
theorem zjk:Tryz.pinned.checked.prog.funcNamed Rows.machineNumbersRow.func=some 6:=by kernel_rfl
theorem zsi:Rows.MachineNumbersSaid :=
 OpenClaim.holds_of_wide 6 Tryz.f6 rfl rfl rfl rfl rfl rfl rfl ⟨rfl,rfl,rfl,rfl,rfl⟩ rfl rfl rfl rfl rfl zjk Tryz.func6 zsN
  (of_decide_eq_true (by as_aux_lemma=>kernel_rfl)) (by unfold Func.isWrapper;first | (rw [if_pos (by decide +kernel)];kernel_rfl) | (rw [if_neg (by decide +kernel)];exact ⟨rfl,rfl⟩))
  (fun os started H enc _=>zug os started H enc)
theorem machineNumbers_card:Rows.MachineNumbersCardSaid :=
 Claim7.holds_tied_plain_at .later [] [.data,.data,.data,.data,.data,.data,.data,.data,.data,.data,.data,.data] true (true, "17b9d322e37afffd30134b847fbcf94c2b0d0631e96988515a1d45a95de00870") false
  zsi (fun _ h=>by cases h) (by as_aux_lemma=>kernel_rfl) (fun _ h=>by cases h) machineNumbers_row_tie rfl ⟨rfl,rfl⟩ (by as_aux_lemma=>kernel_rfl) rfl
  (fun f fn hf hfn=>by
   obtain rfl:f=6:=Option.some.inj ((show Tryz.prog.funcNamed "tandem/tandemlaw16.MachineNumbers"=some 6 from zjk).symm.trans hf) |>.symm;obtain rfl:fn=Tryz.f6:=(Option.some.inj (Tryz.func6.symm.trans hfn)).symm
   exact ⟨by as_aux_lemma=>kernel_rfl,fun j t ht=>by
    rw [Tryz.params6] at ht;have hm:t∈[9,3,57]:=by simpa using Array.mem_of_getElem? ht
    have hall:([9,3,57].all fun u=>!Tryz.prog.wantsStandIn u)=true:=by as_aux_lemma=>kernel_rfl
    exact (show Tryz.prog.wantsStandIn t=false by simpa using List.all_eq_true.1 hall t hm)⟩)
  (by as_aux_lemma=>kernel_rfl)
end Go.Proofs.YtplcfdnfeclpmaaGreatDoor
