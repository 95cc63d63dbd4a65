/- MachineAhead,part 46. -/
import Derived.Test.YtplcfdnfeclpmaaGreatDoorTie
import Derived.Test.YtplcfdnfeclpmaaGreatDoorCards
import Derived.LaidMore
import Derived.Stop.Joined
import Derived.SevenTiedAt
import Derived.SizedLaws
import Derived.Carry
import Derived.ChangeMaps5
import Derived.Test.YtplcfdnfeclpmaaGreatDoorY45
set_option maxHeartbeats 4000000
set_option maxRecDepth 100000
open Go.Lib (hid)
namespace Go.Proofs.YtplcfdnfeclpmaaGreatDoor
open Go.RowKit Go.Deep Go.Joins Go.ChangeShapes Go.WideShapes Go.ChangeAt Go.WideMaps Go.WideElems
def zfc:List (String × DataW Unit):=Rows.machineAheadRow.laid
theorem zqb:Tryz.prog.globalNamed "tandem/decode.branches"=some 0:=by kernel_rfl
theorem zwG:(Tryz.prog.globals[0]?).map (·.type)=some 149:=by kernel_rfl
theorem zxg:Tryz.prog.globalNamed "tandem/decode.loads"=some 1:=by kernel_rfl
theorem zsn:(Tryz.prog.globals[1]?).map (·.type)=some 149:=by kernel_rfl
theorem znr:Tryz.prog.globalNamed "tandem/decode.stores"=some 2:=by kernel_rfl
theorem zuE:(Tryz.prog.globals[2]?).map (·.type)=some 149:=by kernel_rfl
theorem zuR:Tryz.prog.globalNamed "tandem/decode.numbers"=some 4:=by kernel_rfl
theorem zxc:(Tryz.prog.globals[4]?).map (·.type)=some 149:=by kernel_rfl
theorem zrL:Tryz.prog.globalNamed "tandem/decode.sums"=some 5:=by kernel_rfl
theorem znA:(Tryz.prog.globals[5]?).map (·.type)=some 149:=by kernel_rfl
theorem zpZ:Tryz.prog.globalNamed "tandem/decode.products"=some 6:=by kernel_rfl
theorem zmy:(Tryz.prog.globals[6]?).map (·.type)=some 149:=by kernel_rfl
theorem zml:Tryz.prog.globalNamed "tandem/decode.others"=some 7:=by kernel_rfl
theorem zqk:(Tryz.prog.globals[7]?).map (·.type)=some 149:=by kernel_rfl
theorem zmN:Tryz.prog.globalNamed "tandem/decode.wordSums"=some 8:=by kernel_rfl
theorem zlX:(Tryz.prog.globals[8]?).map (·.type)=some 149:=by kernel_rfl
theorem zsy:Tryz.prog.globalNamed "tandem/decode.wordProducts"=some 9:=by kernel_rfl
theorem zyl:(Tryz.prog.globals[9]?).map (·.type)=some 149:=by kernel_rfl
theorem zsu:Tryz.prog.globalNamed "tandem/decode.wordOthers"=some 10:=by kernel_rfl
theorem zo8:(Tryz.prog.globals[10]?).map (·.type)=some 149:=by kernel_rfl
theorem zls:Tryz.prog.globalNamed "tandem/decode.fences"=some 3:=by kernel_rfl
theorem zyq:(Tryz.prog.globals[3]?).map (·.type)=some 149:=by kernel_rfl
theorem zkz:Tryz.prog.globalNamed "tandem/decode.registers"=some 11:=by kernel_rfl
theorem znX:(Tryz.prog.globals[11]?).map (·.type)=some 149:=by kernel_rfl
theorem c3:Tryz.prog.cellsOf 3=1:=by kernel_rfl
theorem zcT {W:World} {n:String} {g0:Nat} {L:List Int} {rest:List (String × DataW Unit)} {ps:List MemPlace} (hn:Tryz.prog.globalNamed n=some g0) (ht0:(Tryz.prog.globals[g0]?).map (·.type)=some 149) (hL:L.length=8)
  (h:DataW.LaidVars Tryz.prog W ((n,.agg (L.map fun x=>.lit (.int .i64 x))) :: rest) ps) :
  (∀ (j:Nat) (v:Int),L[j]?=some v→W.cell? ⟨g0,j,none⟩=some (.int .i64 v))∧∃ ps',DataW.LaidVars Tryz.prog W rest ps':=by
 obtain ⟨g,t,cs,f,p,q,hg,ht,hv,hd,hr,_⟩:=h
 obtain rfl:=Option.some.inj (hn.symm.trans hg)
 obtain rfl:=Option.some.inj (ht0.symm.trans ht)
 refine ⟨?_,_,hr⟩
 obtain ⟨xs,m,rfl,hx,hlen,hn8,hel⟩:=DataW.trod_array Tryz.underlying149 hd
 intro j v hv'
 have hj:j<8:=by
  have:=(List.getElem?_eq_some_iff.1 hv').1
  omega
 have h1:=hel j hj
 rw [c3,Nat.mul_one] at h1
 have hxs:xs[j]?=some (xs[j]'(by omega)):=List.getElem?_eq_getElem _
 rw [hxs] at h1
 obtain ⟨k,e1,e2,_⟩:=DataW.trod_int Tryz.underlying3 h1
 have hL2:L.map (fun x=>(DataW.lit (Lit.int IntKind.i64 x):DataW Unit))=xs.map (fun x=>x.fst):=by
  have:=congrArg Prod.fst hx
  injection this
 have hLj:=congrArg (fun l=>l[j]?) hL2
 simp only [List.getElem?_map,hv',hxs,Option.map_some] at hLj
 rw [e2] at hLj
 have hk:v=k:=by
  have h2:(DataW.lit (Lit.int IntKind.i64 v):DataW Unit)=DataW.lit (Lit.int IntKind.i64 k):=Option.some.inj hLj
  have h3:Lit.int IntKind.i64 v=Lit.int IntKind.i64 k:=DataW.lit.inj h2
  exact (Lit.int.inj h3).2
 subst hk
 rw [World.var?_cell hn hv j]
 have h2:cs.toList[j]?=some (.int .i64 v):=by
  have h3:(List.take 1 (List.drop j cs.toList))[0]?=some (.int .i64 v):=by rw [e1];rfl
  rw [List.getElem?_take_of_lt (by omega),List.getElem?_drop,Nat.add_zero] at h3
  exact h3
 rw [← Array.getElem?_toList]
 exact h2
theorem zxJ {W:World} (h:laidMetH Tryz.prog zfc W):De.Laid W:=by
 rw [MakeChecks.laidMetH_plain _ _ _ (by kernel_rfl)] at h
 obtain ⟨ps,h,_⟩:=h
 obtain ⟨r0,_,h⟩:=zcT (L:=De.tab 0) zqb zwG rfl h
 obtain ⟨r1,_,h⟩:=zcT (L:=De.tab 1) zxg zsn rfl h
 obtain ⟨r2,_,h⟩:=zcT (L:=De.tab 2) znr zuE rfl h
 obtain ⟨r4,_,h⟩:=zcT (L:=De.tab 4) zuR zxc rfl h
 obtain ⟨r5,_,h⟩:=zcT (L:=De.tab 5) zrL znA rfl h
 obtain ⟨r6,_,h⟩:=zcT (L:=De.tab 6) zpZ zmy rfl h
 obtain ⟨r7,_,h⟩:=zcT (L:=De.tab 7) zml zqk rfl h
 obtain ⟨r8,_,h⟩:=zcT (L:=De.tab 8) zmN zlX rfl h
 obtain ⟨r9,_,h⟩:=zcT (L:=De.tab 9) zsy zyl rfl h
 obtain ⟨r10,_,h⟩:=zcT (L:=De.tab 10) zsu zo8 rfl h
 obtain ⟨r3,_,h⟩:=zcT (L:=De.tab 3) zls zyq rfl h
 obtain ⟨r11,_,h⟩:=zcT (L:=De.tab 11) zkz znX rfl h
 have hall:∀ g j:Nat,g<12→j<8→W.cell? ⟨g,j,none⟩=some (.int .i64 (De.row g j)):=by
  intro g j hg hj
  have hget:∀ g<12,∀ j<8,(De.tab g)[j]?=some (De.row g j):=by decide
  have hq:=hget g hg j hj
  rcases (show g=0∨g=1∨g=2∨g=3∨g=4∨g=5∨g=6∨g=7∨g=8∨g=9∨g=10∨g=11 by omega) with rfl | rfl | rfl | rfl | rfl | rfl | rfl | rfl | rfl | rfl | rfl | rfl
  ·exact r0 j _ hq
  ·exact r1 j _ hq
  ·exact r2 j _ hq
  ·exact r3 j _ hq
  ·exact r4 j _ hq
  ·exact r5 j _ hq
  ·exact r6 j _ hq
  ·exact r7 j _ hq
  ·exact r8 j _ hq
  ·exact r9 j _ hq
  ·exact r10 j _ hq
  ·exact r11 j _ hq
 refine ⟨?_,hall⟩
 exact World.block_lt_of_cell? W ⟨11,0,none⟩ (hall 11 0 (by omega) (by omega))
theorem zv5 (os:Os) (args:Array Value):laidMetH Tryz.prog zfc ((World.doorLaid Tryz.prog 69 os).forCall (fun _ _=>0) ⟨#[],args,[]⟩).memory :=
 laidMetH_of_parts3 (fuel:=8) (laidMet_of_run' 8 (by kernel_rfl) (by kernel_rfl)) (by kernel_rfl) (by kernel_rfl)
theorem ziJ {P:Nat→Inp→Prop}:∀ n,(∀ i,i<n→∃ r,P i r)→∃ O:List Inp,O.length=n∧∀ i (h:i<O.length),P i O[i]
 | 0,_=>⟨[],rfl,fun i h=>by cases h⟩
 | n+1,h=>by
  obtain ⟨O,hl,hO⟩:=ziJ n fun i hi=>h i (by omega)
  obtain ⟨r,hr⟩:=h n (by omega)
  refine ⟨O ++ [r],by simp [hl],fun i hi=>?_⟩
  by_cases e:i<O.length
  ·rw [List.getElem_append_left e];exact hO i e
  ·have:i=n:=by simp at hi;omega
   subst this
   rw [List.getElem_append_right (by omega)]
   simpa using hr
section
variable {H : Type} {enc : TypeId × Value → H} {w : World} {base : Nat} {spare : Nat → Bool} {held : Bool}
theorem zhW:Tryz.prog.cellsOf 63=4:=by kernel_rfl
theorem zw3 {n:Nat} {cs:List Value} {y:DataW H × List MemPlace} (h:DataW.trod enc Tryz.prog w base spare held n 63 cs=some y):∃ r:Inp,cs=inL r∧r.s.size≤maxLen:=by
 obtain ⟨xs,m,_,_,hlen,hxs,hg⟩:=DataW.trod_struct Tryz.underlying63 h
 rw [zhW] at hlen
 match cs,hlen,xs,hxs with
 | [c0,c1,c2,c3],_,[y0,y1,y2,y3],_ =>
  have g0:DataW.trod enc Tryz.prog w base spare held m 22 (([c0,c1,c2,c3].drop 0).take (Tryz.prog.cellsOf 22))=some y0:=hg 0 _ rfl
  have g1:DataW.trod enc Tryz.prog w base spare held m 3 (([c0,c1,c2,c3].drop 1).take (Tryz.prog.cellsOf 3))=some y1:=hg 1 _ rfl
  have g2:DataW.trod enc Tryz.prog w base spare held m 3 (([c0,c1,c2,c3].drop 2).take (Tryz.prog.cellsOf 3))=some y2:=hg 2 _ rfl
  have g3:DataW.trod enc Tryz.prog w base spare held m 9 (([c0,c1,c2,c3].drop 3).take (Tryz.prog.cellsOf 9))=some y3:=hg 3 _ rfl
  rw [zs5] at g0
  rw [zvZ] at g1 g2
  rw [zqO] at g3
  obtain ⟨k0,e0,o0⟩:=zn9 g0
  obtain ⟨k1,e1,_,_⟩:=DataW.trod_int Tryz.underlying3 g1
  obtain ⟨k2,e2,_,_⟩:=DataW.trod_int Tryz.underlying3 g2
  obtain ⟨s3,e3,_,o3⟩:=DataW.trod_string Tryz.underlying9 g3
  simp at e0 e1 e2 e3
  exact ⟨⟨k0,k1,k2,s3⟩,by rw [e0,e1,e2,e3];rfl,o3⟩
theorem zky {fuel:Nat} {c:Value} {x:DataW H × List MemPlace} (h:DataW.trod enc Tryz.prog w base spare held fuel 57 [c]=some x) :
  ∃ (L:List Inp) (q:Option Addr) (n:Nat),c=.slice q L.length n∧zaY w (.slice q L.length n) 4 L.length (inR L)∧∀ l∈L,l.s.size≤maxLen:=by
 rcases DataW.trod_slice Tryz.underlying57 h with ⟨hcs,rfl⟩ | ⟨a,len,cap,elems,rest,n,_,hcs,rfl,hb,hl,hm,hlen,hel,hsp,hns⟩
 ·simp only [List.cons.injEq,and_true] at hcs
  subst hcs
  exact ⟨[],none,0,rfl,⟨rfl,.inl ⟨rfl,rfl⟩⟩,fun l hl=>by cases hl⟩
 ·simp only [List.cons.injEq,and_true] at hcs
  subst hcs
  obtain ⟨O,hO,hP⟩:=ziJ (P:=fun i r=>(∀ j v,(inL r)[j]?=some v→w.cell? ((a.add (i*4)).add j)=some v)∧r.s.size≤maxLen) len fun i hi=>by
   have k:=hel i hi
   rw [List.getElem?_eq_getElem (by omega),Option.bind_eq_some_iff,zhW] at k
   obtain ⟨cs',h1,h2⟩:=k
   obtain ⟨r,rfl,u1⟩:=zw3 h2
   exact ⟨r,fun j v hj=>by
    have k2:=World.cells?_some h1
    exact (k2.2.2 j (by have:=(List.getElem?_eq_some_iff.1 hj).1;simpa [inL] using this)).trans hj,u1⟩
  refine ⟨O,some a,cap,by rw [hO],⟨zhd O,.inr ⟨a,cap,rfl,by rw [hO];exact hl,hm,fun j u hu=>?_⟩⟩,fun l hl=>?_⟩
  ·have hj:j<O.length*4:=by have:=(List.getElem?_eq_some_iff.1 hu).1;rwa [zhd] at this
   have hk:j / 4<O.length:=by omega
   have hu':(inL O[j / 4])[j % 4]?=some u:=by rw [← zir O (j / 4) hk (j % 4) (by omega),show 4*(j / 4)+j % 4=j by omega];exact hu
   have:=(hP (j / 4) hk).1 (j % 4) u hu'
   rwa [Addr.add_add,show j / 4*4+j % 4=j by omega] at this
  ·obtain ⟨i,hi,rfl⟩:=List.getElem_of_mem hl
   exact (hP i hi).2
end
theorem zum (os:Os) (started:os.Started) (H:Type) (enc:TypeId × Value→H) :
  ReturnsInHanded {} Tryz.checked os 5 .any (fun w args=>(Rows.machineAheadSpec.pre enc Tryz.prog Tryz.f5 [] false w args∧laidMetH Tryz.prog zfc w)∧sizedMet enc Tryz.prog Tryz.f5 (OpenSpec.ofChange Rows.machineAheadSpec) false w args)
   (Rows.machineAheadSpec.post enc Tryz.prog Tryz.f5 false true false false):=by
 refine returnsInHanded_of_change_and (C:=Tryz.checked) (X:=fun w _=>laidMetH Tryz.prog zfc w) (fun _ _ _ hh h=>h.of_heap hh) own started (by kernel_rfl) Tryz.func5
  (ChangeSpec.witness_shaped (enc:=enc) (C:=Tryz.checked) (os:=os) (X:=fun w _=>laidMetH Tryz.prog zfc w) false (World.doorLaid Tryz.prog 69 os) #[.string ⟨#[]⟩,.int .i64 0,.slice none 0 0] 8 rfl (World.shaped_of_RefB (by kernel_rfl) (by kernel_rfl)) (by kernel_rfl) (by kernel_rfl) (by kernel_rfl) (zv5 os _)) ?_
 intro W base args ds gs before hval0 hW _ hsz hL _
 have hW':=hW
 obtain ⟨p,q,hA0,hV,rfl,hfz,hnd⟩:=hW
 have hval:∀ (j:Nat) t v,Tryz.f5.params[j]?=some t→args[j]?=some v→Value.okWide Tryz.prog W .any base t v:=hval0
 have hA:DataW.TrodAll enc Tryz.prog W 0 (fun _=>true) true Tryz.f5.params.toList args.toList ds p:=hA0
 rw [Tryz.params5] at hA hval
 obtain ⟨v0,v1,v2,d0,d1,d2,p0,p1,p2,rfl,rfl,rfl,h0,h1,h2⟩:=trodAll_three hA
 obtain ⟨rfl,rfl⟩:=trodVars_none hV
 obtain ⟨s,rfl,rfl,rfl,hsl⟩:=Go.ChangeMaps.open_string Tryz.underlying9 (hval 0 9 v0 rfl rfl) h0
 obtain ⟨n1,rfl,rfl,rfl,w1⟩:=open_int Tryz.underlying3 (hval 1 3 v1 rfl rfl) h1
 have hlt:∀ x∈p2,x.block<W.heap.size:=fun x hx=>hW'.lt x (by simp [hx])
 obtain ⟨L,lq,lc,rfl,hR,hu⟩:=(show ∃ (L:List Inp) (q:Option Addr) (n:Nat),v2=.slice q L.length n∧zaY W (.slice q L.length n) 4 L.length (inR L)∧∀ l∈L,l.s.size≤maxLen from by
  obtain ⟨fuel,hf⟩:=h2
  obtain ⟨q,n,c,rfl⟩:=okWide_slice Tryz.underlying57 (hval 2 57 v2 rfl rfl)
  exact zky hf)
 have hLd:=zxJ hL
 simp only [List.append_nil] at hW'
 refine (zvM s n1 L lq lc W hR hu hLd).mono fun e W' ⟨he,hb⟩=>?_
 subst he
 refine ⟨_,rfl,_,_,_,[],[] ++ ([] ++ p2),[],hW',trodAll_mk1 (shut_bool Tryz.underlying4 _),trodAll_mk3 (Go.ChangeMaps.shut_string Tryz.underlying9 hsl) (shut_int Tryz.underlying3 w1) (Below.trod zi3 (by kernel_rfl) (of_decide_eq_true (by kernel_rfl)) h2 hb hlt),rfl,hb.frame _,fun h=>by cases h⟩
end Go.Proofs.YtplcfdnfeclpmaaGreatDoor
