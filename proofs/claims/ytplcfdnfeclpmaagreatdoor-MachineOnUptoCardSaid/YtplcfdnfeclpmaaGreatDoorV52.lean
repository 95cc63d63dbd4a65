/- MachineOn, the given statement in its second form: some steps, and then some more, are all of them at once, of every machine and any two numbers of steps, where what is read is of bulk at most 1048576; the rows of operations start as the text of the program lays them (tied). -/
import Derived.Test.YtplcfdnfeclpmaaGreatDoorV50
import Derived.Test.YtplcfdnfeclpmaaGreatDoorV51
set_option maxHeartbeats 4000000
set_option maxRecDepth 100000
open Go.Lib (hid)
namespace Go.Proofs.YtplcfdnfeclpmaaGreatDoor
open Go.RowKit Go.Deep Go.Joins Go.ChangeShapes Go.WideShapes Go.ChangeAt Go.WideMaps Go.WideElems
theorem zkA:Tryz.pinned.checked.prog.funcNamed Rows.machineOnUptoRow.func=some 4:=by kernel_rfl
theorem zmr:Rows.MachineOnUptoSaid :=
 OpenClaim.holds_of_cond 4 Tryz.f4 rfl rfl rfl rfl rfl rfl rfl ⟨rfl,rfl,rfl,rfl,rfl⟩ rfl rfl rfl rfl rfl zkA Tryz.func4 zvz
  (of_decide_eq_true (by as_aux_lemma=>kernel_rfl)) (by unfold Func.isWrapper;first | (rw [if_pos (by decide +kernel)];kernel_rfl) | (rw [if_neg (by decide +kernel)];exact ⟨rfl,rfl⟩))
  (fun os started H enc _ F=>by rw [OpenClaim.pre_eq_preRow];exact zzp os started H enc F)
theorem machineOn_card:Rows.MachineOnUptoCardSaid :=
 Claim7.holds_tied_plain_at .later [] [.data,.data,.data,.data,.data,.data,.data,.data,.data,.data,.data,.data] true (true, "17b9d322e37afffd30134b847fbcf94c2b0d0631e96988515a1d45a95de00870") false
  zmr (fun _ h=>by cases h) (by as_aux_lemma=>kernel_rfl) (fun _ h=>by cases h) machineOnUpto_row_tie rfl ⟨rfl,rfl⟩ (by as_aux_lemma=>kernel_rfl) rfl
  (fun f fn hf hfn=>by
   obtain rfl:f=4:=Option.some.inj ((show Tryz.prog.funcNamed "tandem/tandemlaw16.MachineOn"=some 4 from zkA).symm.trans hf) |>.symm;obtain rfl:fn=Tryz.f4:=(Option.some.inj (Tryz.func4.symm.trans hfn)).symm
   exact ⟨by as_aux_lemma=>kernel_rfl,fun j t ht=>by
    rw [Tryz.params4] at ht;have hm:t∈[42,3,3]:=by simpa using Array.mem_of_getElem? ht
    have hall:([42,3,3].all fun u=>!Tryz.prog.wantsStandIn u)=true:=by as_aux_lemma=>kernel_rfl
    exact (show Tryz.prog.wantsStandIn t=false by simpa using List.all_eq_true.1 hall t hm)⟩)
  (by as_aux_lemma=>kernel_rfl)
end Go.Proofs.YtplcfdnfeclpmaaGreatDoor
