/- HartQuiet,part 46. -/
import Derived.Test.YtmjjpgaeboaamaaGreatDoorTie
import Derived.Test.YtmjjpgaeboaamaaGreatDoorCards
import Derived.LaidMore
import Derived.Stop.Joined
import Derived.SevenTiedAt
import Derived.SizedLaws
import Derived.Carry
import Derived.Test.YtmjjpgaeboaamaaGreatDoorY44
import Derived.Test.YtmjjpgaeboaamaaGreatDoorY45
set_option maxHeartbeats 4000000
set_option maxRecDepth 100000
open Go.Lib (hid)
namespace Go.Proofs.YtmjjpgaeboaamaaGreatDoor
open Go.RowKit Go.Deep Go.Joins Go.ChangeShapes Go.WideShapes Go.ChangeAt Go.WideMaps Go.WideElems
def zfx:List (String × DataW Unit):=Rows.hartQuietRow.laid
theorem zqA:Tryz.prog.globalNamed "tandem/decode.branches"=some 0:=by kernel_rfl
theorem zxo:(Tryz.prog.globals[0]?).map (·.type)=some 178:=by kernel_rfl
theorem zxz:Tryz.prog.globalNamed "tandem/decode.loads"=some 1:=by kernel_rfl
theorem zvV:(Tryz.prog.globals[1]?).map (·.type)=some 178:=by kernel_rfl
theorem zpv:Tryz.prog.globalNamed "tandem/decode.stores"=some 2:=by kernel_rfl
theorem zrg:(Tryz.prog.globals[2]?).map (·.type)=some 178:=by kernel_rfl
theorem zwM:Tryz.prog.globalNamed "tandem/decode.numbers"=some 4:=by kernel_rfl
theorem zqa:(Tryz.prog.globals[4]?).map (·.type)=some 178:=by kernel_rfl
theorem zkF:Tryz.prog.globalNamed "tandem/decode.sums"=some 5:=by kernel_rfl
theorem zme:(Tryz.prog.globals[5]?).map (·.type)=some 178:=by kernel_rfl
theorem zrh:Tryz.prog.globalNamed "tandem/decode.products"=some 6:=by kernel_rfl
theorem zko:(Tryz.prog.globals[6]?).map (·.type)=some 178:=by kernel_rfl
theorem ztV:Tryz.prog.globalNamed "tandem/decode.others"=some 7:=by kernel_rfl
theorem zkt:(Tryz.prog.globals[7]?).map (·.type)=some 178:=by kernel_rfl
theorem zo8:Tryz.prog.globalNamed "tandem/decode.wordSums"=some 8:=by kernel_rfl
theorem zmC:(Tryz.prog.globals[8]?).map (·.type)=some 178:=by kernel_rfl
theorem zwk:Tryz.prog.globalNamed "tandem/decode.wordProducts"=some 9:=by kernel_rfl
theorem zkp:(Tryz.prog.globals[9]?).map (·.type)=some 178:=by kernel_rfl
theorem zvG:Tryz.prog.globalNamed "tandem/decode.wordOthers"=some 10:=by kernel_rfl
theorem zoe:(Tryz.prog.globals[10]?).map (·.type)=some 178:=by kernel_rfl
theorem zmb:Tryz.prog.globalNamed "tandem/decode.fences"=some 3:=by kernel_rfl
theorem zs1:(Tryz.prog.globals[3]?).map (·.type)=some 178:=by kernel_rfl
theorem zwE:Tryz.prog.globalNamed "tandem/decode.registers"=some 11:=by kernel_rfl
theorem zna:(Tryz.prog.globals[11]?).map (·.type)=some 178:=by kernel_rfl
theorem c3:Tryz.prog.cellsOf 3=1:=by kernel_rfl
theorem zc6 {W:World} {n:String} {g0:Nat} {L:List Int} {rest:List (String × DataW Unit)} {ps:List MemPlace} (hn:Tryz.prog.globalNamed n=some g0) (ht0:(Tryz.prog.globals[g0]?).map (·.type)=some 178) (hL:L.length=8)
  (h:DataW.LaidVars Tryz.prog W ((n,.agg (L.map fun x=>.lit (.int .i64 x))) :: rest) ps) :
  (∀ (j:Nat) (v:Int),L[j]?=some v→W.cell? ⟨g0,j,none⟩=some (.int .i64 v))∧∃ ps',DataW.LaidVars Tryz.prog W rest ps':=by
 obtain ⟨g,t,cs,f,p,q,hg,ht,hv,hd,hr,_⟩:=h
 obtain rfl:=Option.some.inj (hn.symm.trans hg)
 obtain rfl:=Option.some.inj (ht0.symm.trans ht)
 refine ⟨?_,_,hr⟩
 obtain ⟨xs,m,rfl,hx,hlen,hn8,hel⟩:=DataW.trod_array Tryz.underlying178 hd
 intro j v hv'
 have hj:j<8:=by
  have:=(List.getElem?_eq_some_iff.1 hv').1
  omega
 have h1:=hel j hj
 rw [c3,Nat.mul_one] at h1
 have hxs:xs[j]?=some (xs[j]'(by omega)):=List.getElem?_eq_getElem _
 rw [hxs] at h1
 obtain ⟨k,e1,e2,_⟩:=DataW.trod_int Tryz.underlying3 h1
 have hL2:L.map (fun x=>(DataW.lit (Lit.int IntKind.i64 x):DataW Unit))=xs.map (fun x=>x.fst):=by
  have:=congrArg Prod.fst hx
  injection this
 have hLj:=congrArg (fun l=>l[j]?) hL2
 simp only [List.getElem?_map,hv',hxs,Option.map_some] at hLj
 rw [e2] at hLj
 have hk:v=k:=by
  have h2:(DataW.lit (Lit.int IntKind.i64 v):DataW Unit)=DataW.lit (Lit.int IntKind.i64 k):=Option.some.inj hLj
  have h3:Lit.int IntKind.i64 v=Lit.int IntKind.i64 k:=DataW.lit.inj h2
  exact (Lit.int.inj h3).2
 subst hk
 rw [World.var?_cell hn hv j]
 have h2:cs.toList[j]?=some (.int .i64 v):=by
  have h3:(List.take 1 (List.drop j cs.toList))[0]?=some (.int .i64 v):=by rw [e1];rfl
  rw [List.getElem?_take_of_lt (by omega),List.getElem?_drop,Nat.add_zero] at h3
  exact h3
 rw [← Array.getElem?_toList]
 exact h2
theorem zty {W:World} (h:laidMetH Tryz.prog zfx W):De.Laid W:=by
 rw [MakeChecks.laidMetH_plain _ _ _ (by kernel_rfl)] at h
 obtain ⟨ps,h,_⟩:=h
 obtain ⟨r0,_,h⟩:=zc6 (L:=De.tab 0) zqA zxo rfl h
 obtain ⟨r1,_,h⟩:=zc6 (L:=De.tab 1) zxz zvV rfl h
 obtain ⟨r2,_,h⟩:=zc6 (L:=De.tab 2) zpv zrg rfl h
 obtain ⟨r4,_,h⟩:=zc6 (L:=De.tab 4) zwM zqa rfl h
 obtain ⟨r5,_,h⟩:=zc6 (L:=De.tab 5) zkF zme rfl h
 obtain ⟨r6,_,h⟩:=zc6 (L:=De.tab 6) zrh zko rfl h
 obtain ⟨r7,_,h⟩:=zc6 (L:=De.tab 7) ztV zkt rfl h
 obtain ⟨r8,_,h⟩:=zc6 (L:=De.tab 8) zo8 zmC rfl h
 obtain ⟨r9,_,h⟩:=zc6 (L:=De.tab 9) zwk zkp rfl h
 obtain ⟨r10,_,h⟩:=zc6 (L:=De.tab 10) zvG zoe rfl h
 obtain ⟨r3,_,h⟩:=zc6 (L:=De.tab 3) zmb zs1 rfl h
 obtain ⟨r11,_,h⟩:=zc6 (L:=De.tab 11) zwE zna rfl h
 have hall:∀ g j:Nat,g<12→j<8→W.cell? ⟨g,j,none⟩=some (.int .i64 (De.row g j)):=by
  intro g j hg hj
  have hget:∀ g<12,∀ j<8,(De.tab g)[j]?=some (De.row g j):=by decide
  have hq:=hget g hg j hj
  rcases (show g=0∨g=1∨g=2∨g=3∨g=4∨g=5∨g=6∨g=7∨g=8∨g=9∨g=10∨g=11 by omega) with rfl | rfl | rfl | rfl | rfl | rfl | rfl | rfl | rfl | rfl | rfl | rfl
  ·exact r0 j _ hq
  ·exact r1 j _ hq
  ·exact r2 j _ hq
  ·exact r3 j _ hq
  ·exact r4 j _ hq
  ·exact r5 j _ hq
  ·exact r6 j _ hq
  ·exact r7 j _ hq
  ·exact r8 j _ hq
  ·exact r9 j _ hq
  ·exact r10 j _ hq
  ·exact r11 j _ hq
 refine ⟨?_,hall⟩
 exact World.block_lt_of_cell? W ⟨11,0,none⟩ (hall 11 0 (by omega) (by omega))
theorem zkk (os:Os) (args:Array Value):laidMetH Tryz.prog zfx ((World.doorLaid Tryz.prog 69 os).forCall (fun _ _=>0) ⟨#[],args,[]⟩).memory :=
 laidMetH_of_parts3 (fuel:=8) (laidMet_of_run' 8 (by kernel_rfl) (by kernel_rfl)) (by kernel_rfl) (by kernel_rfl)
section
variable {H : Type} {enc : TypeId × Value → H} {w : World} {base : Nat} {spare : Nat → Bool} {held : Bool}
theorem zrQ {fuel:Nat} {c:Value} {x:DataW H × List MemPlace} (h:DataW.trod enc Tryz.prog w base spare held fuel 43 [c]=some x) :
  ∃ (L:List Int) (q:Option Addr) (n:Nat),c=.slice q L.length n∧zaY w (.slice q L.length n) 1 L.length (L.map (.int .u32))∧∀ n∈L,0≤n∧n<4294967296:=by
 rcases open_ints Tryz.underlying43 Tryz.underlying29 Pc.zgg h with ⟨hcs,rfl⟩ | ⟨a,len,cap,zs,hcs,_,hl,hm,hz,rfl,hcell,hwf⟩
 ·simp only [List.cons.injEq,and_true] at hcs
  subst hcs
  exact ⟨[],none,0,rfl,⟨rfl,.inl ⟨rfl,rfl⟩⟩,fun n hn=>by (cases hn)⟩
 ·simp only [List.cons.injEq,and_true] at hcs
  subst hcs
  have hlen:len≤zs.length:=by rw [hz];split <;> omega
  have hb:∀ n∈zs,0≤n∧n<4294967296:=fun n hn=>by have b:=bounds_u32 (hwf n hn);exact ⟨b.1,by omega⟩
  have hDl:(zs.take len).length=len:=by simp;omega
  refine ⟨zs.take len,some a,cap,by rw [hDl],⟨by rw [List.length_map,Nat.mul_one],.inr ⟨a,cap,by rw [hDl],by rw [hDl];exact hl,hm,fun j u hu=>?_⟩⟩,fun n hn=>hb n (List.mem_of_mem_take hn)⟩
  have hj:j<len:=by
   have:=(List.getElem?_eq_some_iff.1 hu).1
   rw [List.length_map,hDl] at this
   exact this
  rw [hcell j (by omega),← hu]
  simp only [List.getElem?_map,List.getElem?_take_of_lt hj,List.getElem?_eq_getElem (show j<zs.length by omega),List.getD_eq_getElem?_getD,Option.map_some,Option.getD_some]
end
theorem zrf {m:Mc} {q:Pt} (h:OkH m.h) (hc:U64 m.cnt) (ok:OkB m.b) (hs:∀ s∈q.F,s.size≤maxLen) (hN:q.F.length*16≤140737488351232∧q.D.length≤140737488351232∧q.M.length*8≤140737488351232∧q.O.length*32≤140737488351232):VOk m q:=by
 have hz:∀ x:Int,U64 x→Al.U64 x:=fun x hx=>⟨hx.1,by have:=hx.2;omega⟩
 refine ⟨⟨fun n=>?_,hz _ h.pc,⟨hz _ h.c.u0,hz _ h.c.u1,hz _ h.c.u2,hz _ h.c.u3,hz _ h.c.u4,hz _ h.c.u5,hz _ h.c.u6,hz _ h.c.u7,hz _ h.c.u8,hz _ h.c.u9,hz _ h.c.u10,hz _ h.c.u11,hz _ h.c.u12,hz _ h.c.u13,hz _ h.c.u14,hz _ h.c.u15⟩,hz _ h.rat⟩,⟨hz _ ok.cmp,hz _ ok.nicL⟩,⟨⟨ok.addr,ok.nicA,ok.sector⟩,ok.pl.c,(fun f hf=>by have:=hs f hf;unfold maxLen at this;omega),by omega,hN.2.1,by omega⟩,hz _ hc⟩
 unfold xV
 rw [List.getD_eq_getElem?_getD]
 by_cases hn:n.toNat<m.h.x.length
 ·rw [List.getElem?_eq_getElem hn]
  exact hz _ (h.x _ (List.getElem_mem hn))
 ·rw [List.getElem?_eq_none (by omega)]
  exact Al.zap
theorem zp1 (os:Os) (started:os.Started) (H:Type) (enc:TypeId × Value→H) :
  ReturnsInHanded {} Tryz.checked os 4 .any (fun w args=>(Rows.hartQuietSpec.pre enc Tryz.prog Tryz.f4 [] false w args∧laidMetH Tryz.prog zfx w)∧sizedMet enc Tryz.prog Tryz.f4 (OpenSpec.ofChange Rows.hartQuietSpec) false w args)
   (Rows.hartQuietSpec.post enc Tryz.prog Tryz.f4 false true false false):=by
 refine returnsInHanded_of_change_and (C:=Tryz.checked) (X:=fun w _=>laidMetH Tryz.prog zfx w) (fun _ _ _ hh h=>h.of_heap hh) own started (by kernel_rfl) Tryz.func4
  (ChangeSpec.witness_shaped (enc:=enc) (C:=Tryz.checked) (os:=os) (X:=fun w _=>laidMetH Tryz.prog zfx w) false (World.doorLaid Tryz.prog 69 os) #[.agg Tryz.zeroCells42,.slice none 0 0] 8 rfl (World.shaped_of_RefB (by kernel_rfl) (by kernel_rfl)) (by kernel_rfl) (by kernel_rfl) (by kernel_rfl) (zkk os _)) ?_
 intro W base args ds gs before hval0 hW _ hsz hL _
 have hW':=hW
 obtain ⟨p,q,hA0,hV,rfl,hfz,hnd⟩:=hW
 have hval:∀ (j:Nat) t v,Tryz.f4.params[j]?=some t→args[j]?=some v→Value.okWide Tryz.prog W .any base t v:=hval0
 have hA:DataW.TrodAll enc Tryz.prog W 0 (fun _=>true) true Tryz.f4.params.toList args.toList ds p:=hA0
 rw [Tryz.params4] at hA hval
 obtain ⟨v0,v1,d0,d1,p0,p1,rfl,rfl,rfl,h0,h1⟩:=trodAll_two hA
 obtain ⟨rfl,rfl⟩:=trodVars_none hV
 have hlt:∀ x∈p0 ++ p1,x.block<W.heap.size:=fun x hx=>hW'.lt x (by simpa using hx)
 obtain ⟨m,q,rfl,hr,okh,okc,ok,hs,hwt⟩:=zuB (hval 0 42 v0 rfl rfl) h0
 have hN:∀ x∈d0.weights Tryz.prog 42,x≤140737488351232:=fun x hx=>by
  have:=List.all_eq_true.1 hsz x (by
   show x∈DataW.weightsEach Tryz.prog (Tryz.f4.params.toList ++ _) _
   rw [Tryz.params4]
   simp [DataW.weightsEach,hx])
  exact of_decide_eq_true this
 obtain ⟨n1,n2,n3,n4⟩:=hwt _ hN
 obtain ⟨L,lq,lc,rfl,hR,hu⟩:=(show ∃ (L:List Int) (q:Option Addr) (n:Nat),v1=.slice q L.length n∧zaY W (.slice q L.length n) 1 L.length (L.map (.int .u32))∧∀ n∈L,0≤n∧n<4294967296 from by
  obtain ⟨fuel,hf⟩:=h1
  obtain ⟨q,n,c,rfl⟩:=okWide_slice Tryz.underlying43 (hval 1 43 v1 rfl rfl)
  exact zrQ hf)
 have hLd:=zty hL
 simp only [List.append_nil] at hW'
 refine (zsz m q L lq lc W hr (zrf okh okc ok hs ⟨n1,n2,n3,n4⟩) (by omega) hLd hR hu).mono fun e W' ⟨he,hb⟩=>?_
 subst he
 refine ⟨_,rfl,_,_,_,[],p0 ++ p1,[],hW',trodAll_mk1 (shut_bool Tryz.underlying4 _),trodAll_mk2 (Below.trod zg1 (by kernel_rfl) (of_decide_eq_true (by kernel_rfl)) h0 hb fun x hx=>hlt x (by simp [hx])) (Below.trod zg1 (by kernel_rfl) (of_decide_eq_true (by kernel_rfl)) h1 hb fun x hx=>hlt x (by simp [hx])),rfl,hb.frame _,fun h=>by cases h⟩
end Go.Proofs.YtmjjpgaeboaamaaGreatDoor
