/- MachineNumbers, part 48. -/
import Derived.Test.YtplcfdnfeclpmaaGreatDoorV46
import Derived.Test.YtplcfdnfeclpmaaGreatDoorV47
set_option maxHeartbeats 4000000
set_option maxRecDepth 100000
open Go.Lib (hid)
namespace Go.Proofs.YtplcfdnfeclpmaaGreatDoor
open Go.RowKit Go.Deep Go.Joins Go.ChangeShapes Go.WideShapes Go.ChangeAt Go.WideMaps Go.WideElems
theorem zug (os:Os) (started:os.Started) (H:Type) (enc:TypeId × Value→H) :
  ReturnsInHanded {} Tryz.checked os 6 .any (fun w args=>(Rows.machineNumbersSpec.pre enc Tryz.prog Tryz.f6 [] false w args∧laidMetH Tryz.prog zfs w)∧sizedMet enc Tryz.prog Tryz.f6 (OpenSpec.ofChange Rows.machineNumbersSpec) false w args)
   (Rows.machineNumbersSpec.post enc Tryz.prog Tryz.f6 false true false false):=by
 refine returnsInHanded_of_change_and (C:=Tryz.checked) (X:=fun w _=>laidMetH Tryz.prog zfs w) (fun _ _ _ hh h=>h.of_heap hh) own started (by kernel_rfl) Tryz.func6
  (ChangeSpec.witness_shaped (enc:=enc) (C:=Tryz.checked) (os:=os) (X:=fun w _=>laidMetH Tryz.prog zfs w) false (World.doorLaid Tryz.prog 69 os) #[.string ⟨#[]⟩,.int .i64 0,.slice none 0 0] 8 rfl (World.shaped_of_RefB (by kernel_rfl) (by kernel_rfl)) (by kernel_rfl) (by kernel_rfl) (by kernel_rfl) (zwm os _)) ?_
 intro W base args ds gs before hval0 hW _ hsz hL _;have hW':=hW;obtain ⟨p,q,hA0,hV,rfl,hfz,hnd⟩:=hW;have hval:∀ (j:Nat) t v,Tryz.f6.params[j]?=some t→args[j]?=some v→Value.okWide Tryz.prog W .any base t v:=hval0;have hA:DataW.TrodAll enc Tryz.prog W 0 (fun _=>true) true Tryz.f6.params.toList args.toList ds p:=hA0;rw [Tryz.params6] at hA hval;obtain ⟨v0,v1,v2,d0,d1,d2,p0,p1,p2,rfl,rfl,rfl,h0,h1,h2⟩:=trodAll_three hA;obtain ⟨rfl,rfl⟩:=trodVars_none hV;obtain ⟨s,rfl,rfl,rfl,hsl⟩:=Go.ChangeMaps.open_string Tryz.underlying9 (hval 0 9 v0 rfl rfl) h0;obtain ⟨n1,rfl,rfl,rfl,w1⟩:=open_int Tryz.underlying3 (hval 1 3 v1 rfl rfl) h1;have hlt:∀ x∈p2,x.block<W.heap.size:=fun x hx=>hW'.lt x (by simp [hx])
 obtain ⟨L,lq,lc,rfl,hR,hu⟩:=(show ∃ (L:List Inp) (q:Option Addr) (n:Nat),v2=.slice q L.length n∧zbb W (.slice q L.length n) 4 L.length (inR L)∧∀ l∈L,l.s.size≤maxLen from by
  obtain ⟨fuel,hf⟩:=h2;obtain ⟨q,n,c,rfl⟩:=okWide_slice Tryz.underlying57 (hval 2 57 v2 rfl rfl);exact zq1 hf)
 have hLd:=zwe hL;simp only [List.append_nil] at hW';refine (zqV s n1 L lq lc W hR hu hLd).mono fun e W' ⟨he,hb⟩=>?_
 subst he;refine ⟨_,rfl,_,_,_,[],[] ++ ([] ++ p2),[],hW',trodAll_mk1 (shut_bool Tryz.underlying4 _),trodAll_mk3 (Go.ChangeMaps.shut_string Tryz.underlying9 hsl) (shut_int Tryz.underlying3 w1) (Below.trod zkB (by kernel_rfl) (of_decide_eq_true (by kernel_rfl)) h2 hb hlt),rfl,hb.frame _,fun h=>by cases h⟩
end Go.Proofs.YtplcfdnfeclpmaaGreatDoor
