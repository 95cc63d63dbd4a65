/- MachineOn, part 50. -/
import Derived.Test.YtplcfdnfeclpmaaGreatDoorV48
import Derived.Test.YtplcfdnfeclpmaaGreatDoorV49
set_option maxHeartbeats 4000000
set_option maxRecDepth 100000
open Go.Lib (hid)
namespace Go.Proofs.YtplcfdnfeclpmaaGreatDoor
open Go.RowKit Go.Deep Go.Joins Go.ChangeShapes Go.WideShapes Go.ChangeAt Go.WideMaps Go.WideElems
theorem zuo {m:Mc} {q:Pt} (h:OkH m.h) (hc:U64 m.cnt) (ok:OkB m.b) (hs:∀ s∈q.F,s.size≤maxLen) (hN:q.F.length*16≤140737488351232∧q.D.length≤140737488351232∧q.M.length*8≤140737488351232∧q.O.length*32≤140737488351232):VOk m q:=by
 have hz:∀ x:Int,U64 x→Al.U64 x:=fun x hx=>⟨hx.1,by have:=hx.2;omega⟩
 refine ⟨⟨fun n=>?_,hz _ h.pc,⟨hz _ h.c.u0,hz _ h.c.u1,hz _ h.c.u2,hz _ h.c.u3,hz _ h.c.u4,hz _ h.c.u5,hz _ h.c.u6,hz _ h.c.u7,hz _ h.c.u8,hz _ h.c.u9,hz _ h.c.u10,hz _ h.c.u11,hz _ h.c.u12,hz _ h.c.u13,hz _ h.c.u14,hz _ h.c.u15⟩,hz _ h.rat⟩,⟨hz _ ok.cmp,hz _ ok.nicL⟩,⟨⟨ok.addr,ok.nicA,ok.sector⟩,ok.pl.c,(fun f hf=>by have:=hs f hf;unfold maxLen at this;omega),by omega,hN.2.1,by omega⟩,hz _ hc⟩
 unfold xV;rw [List.getD_eq_getElem?_getD]
 by_cases hn:n.toNat<m.h.x.length
 ·rw [List.getElem?_eq_getElem hn]
  exact hz _ (h.x _ (List.getElem_mem hn))
 ·rw [List.getElem?_eq_none (by omega)]
  exact Al.zap
theorem zpl {α:Type} (o:Option α) (h:o.isSome=true):o=some (o.get h):=by simp
section
variable {H : Type} {enc : TypeId × Value → H}
noncomputable def zeG:Array Value:=#[.agg Tryz.zeroCells42,.int .i64 0,.int .i64 0]
noncomputable def zhn (os:Os):World:=((World.doorLaid Tryz.prog 69 os).forCall (fun _ _=>0) ⟨#[],zeG,[]⟩).memory
theorem zhA (os:Os):(DataW.whole enc Tryz.prog (zhn os) Tryz.f4.params.toList (Rows.OpenSpec.upto Rows.machineOnSpec).vars false zeG.toList 8).isSome=true:=by kernel_rfl
theorem zrE (os:Os):Rows.uptoSmall H (((DataW.whole enc Tryz.prog (zhn os) Tryz.f4.params.toList (Rows.OpenSpec.upto Rows.machineOnSpec).vars false zeG.toList 8).get (zhA os)).1 ++ ((DataW.whole enc Tryz.prog (zhn os) Tryz.f4.params.toList (Rows.OpenSpec.upto Rows.machineOnSpec).vars false zeG.toList 8).get (zhA os)).2.1)=true:=by kernel_rfl
theorem zjf (os:Os):Input.okWideB Tryz.checked.prog ((World.doorLaid Tryz.prog 69 os).forCall (fun _ _=>0) ⟨#[],zeG,[]⟩) 4 ⟨#[],zeG,[]⟩=true:=by kernel_rfl
theorem zx3 (os:Os):∃ (w:World) (tape:Tape) (i:Input),w.os=os∧(w.forCall tape i).Shaped Tryz.checked.prog∧i.vars=[]∧Input.okWide Tryz.checked.prog (w.forCall tape i) .any w.heap.size 4 i ∧
  (Rows.OpenSpec.upto Rows.machineOnSpec).preRow enc Tryz.checked.prog Tryz.f4 [] false zgg (w.forCall tape i).memory i.args∧({}:Assume).holds Tryz.checked.prog (lone (Frame.enter Tryz.checked.prog 4 i.args .normal) [] (w.forCall tape i)) :=
 ⟨World.doorLaid Tryz.prog 69 os,fun _ _=>0,⟨#[],zeG,[]⟩,rfl,World.shaped_of_RefB (by kernel_rfl) (by kernel_rfl),(Input.okWide_of_okWideB (base:=0) (zjf os)).1,(Input.okWide_of_okWideB (zjf os)).2,
  OpenSpec.preRow_of_cond 8 (zpl _ (zhA os)) rfl (fun k hk=>by obtain rfl:Rows.uptoSmall=k:=Option.some.inj hk;exact zrE os) (by kernel_rfl) (zvU os _),by
  simp only [Assume.holds];exact ⟨by simp,by simp,fun h=>by simp at h,by simp,by simp⟩⟩
end
theorem zzp (os:Os) (started:os.Started) (H:Type) (enc:TypeId × Value→H) (F:Stop.Interp) :
  ReturnsInHanded {} Tryz.checked os 4 .any ((Rows.OpenSpec.upto Rows.machineOnSpec).preRow enc Tryz.checked.prog Tryz.f4 [] false zgg) (((Rows.OpenSpec.upto Rows.machineOnSpec).at F).post enc Tryz.checked.prog Tryz.f4 false true false false):=by
 refine zua (C:=Tryz.checked) (s:=Rows.OpenSpec.upto Rows.machineOnSpec) (k:=Rows.uptoSmall) rfl own started (by kernel_rfl) Tryz.func4 (zx3 os) ?_
 intro W base args ds gs before hval0 hW hk hsz hL;have hW':=hW;obtain ⟨p,q,hA0,hV,rfl,hfz,hnd⟩:=hW;have hval:∀ (j:Nat) t v,Tryz.f4.params[j]?=some t→args[j]?=some v→Value.okWide Tryz.prog W .any base t v:=hval0;have hA:DataW.TrodAll enc Tryz.prog W 0 (fun _=>true) true Tryz.f4.params.toList args.toList ds p:=hA0;rw [Tryz.params4] at hA hval;obtain ⟨v0,v1,v2,d0,d1,d2,p0,p1,p2,rfl,rfl,rfl,h0,h1,h2⟩:=trodAll_three hA;obtain ⟨rfl,rfl⟩:=trodVars_none hV;have hlt:∀ x∈p0,x.block<W.heap.size:=fun x hx=>hW'.lt x (by simp [hx])
 obtain ⟨m,q,rfl,hr,okh,okc,ok,hs,hwt,hO⟩:=zvd (hval 0 42 v0 rfl rfl) h0
 have hN:∀ x∈d0.weights Tryz.prog 42,x≤140737488351232:=fun x hx=>by
  have:=List.all_eq_true.1 hsz x (by
   show x∈DataW.weightsEach Tryz.prog (Tryz.f4.params.toList ++ _) _
   rw [Tryz.params4]
   simp [DataW.weightsEach,hx])
  exact of_decide_eq_true this
 obtain ⟨n1,n2,n3,n4⟩:=hwt _ hN;have hbulk:Rows.uptoBulkAll ([d0,d1,d2] ++ [])≤1048576:=of_decide_eq_true hk
 have hO2:q.O.length≤1048576:=by
  refine Nat.le_trans hO (Nat.le_trans ?_ hbulk)
  simp only [List.append_nil,Rows.uptoBulkAll];omega
 have hO3:(q.O.length+200)*32≤140737488355328:=Nat.le_trans (Nat.mul_le_mul_right 32 (Nat.add_le_add_right hO2 200)) (by decide);clear hbulk hO hO2;obtain ⟨k1,rfl,rfl,rfl,w1⟩:=open_int Tryz.underlying3 (hval 1 3 v1 rfl rfl) h1;obtain ⟨k2,rfl,rfl,rfl,w2⟩:=open_int Tryz.underlying3 (hval 2 3 v2 rfl rfl) h2;have hLd:=zxl hL;simp only [List.append_nil] at hW';refine (zvq m q k1 k2 W hr (zuo okh okc ok hs ⟨n1,n2,n3,n4⟩) hO3 hLd).mono fun e W' ⟨he,hb⟩=>?_
 subst he;refine ⟨_,rfl,_,_,_,[],p0 ++ ([] ++ []),[],hW',trodAll_mk1 (shut_bool Tryz.underlying4 _),trodAll_mk3 (Below.trod zix (by kernel_rfl) (of_decide_eq_true (by kernel_rfl)) h0 hb hlt) (shut_int Tryz.underlying3 w1) (shut_int Tryz.underlying3 w2),rfl,hb.frame _,fun h=>by cases h⟩
end Go.Proofs.YtplcfdnfeclpmaaGreatDoor
