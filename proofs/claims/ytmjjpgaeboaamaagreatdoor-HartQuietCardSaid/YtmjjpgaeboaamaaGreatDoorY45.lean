/- HartQuiet,part 45. -/
import Derived.Test.YtmjjpgaeboaamaaGreatDoorY44
set_option maxHeartbeats 4000000
set_option maxRecDepth 100000
open Go.Lib (hid)
namespace Go.Proofs.YtmjjpgaeboaamaaGreatDoor
set_option maxRecDepth 100000
open Go.RowKit Go.Deep Go.Joins
structure OkR (c:Reg):Prop where
 u0:U64 c.s0
 u1:U64 c.s1
 u2:U64 c.s2
 u3:U64 c.s3
 u4:U64 c.s4
 u5:U64 c.s5
 u6:U64 c.s6
 u7:U64 c.s7
 u8:U64 c.s8
 u9:U64 c.s9
 u10:U64 c.s10
 u11:U64 c.s11
 u12:U64 c.s12
 u13:U64 c.s13
 u14:U64 c.s14
 u15:U64 c.s15
structure OkH (h:Hart):Prop where
 x:∀ n∈h.x,U64 n
 pc:U64 h.pc
 c:OkR h.c
 rat:U64 h.rat
end Go.Proofs.YtmjjpgaeboaamaaGreatDoor
namespace Go.Proofs.YtmjjpgaeboaamaaGreatDoor
set_option maxRecDepth 100000
open Go.RowKit Go.Deep Go.Joins
open Go.WideShapes Go.ChangeShapes Go.ChangeAt
theorem ziE:Tryz.prog.cellsOf 27=52:=by kernel_rfl
theorem zhQ:Tryz.prog.cellsOf 25=16:=by kernel_rfl
theorem zjW:Tryz.prog.cellsOf 23=32:=by kernel_rfl
def zmK:Value→Int
 | .int _ a=>a
 | _=>0
section
variable {H : Type} {enc : TypeId × Value → H} {w : World} {base : Nat} {spare : Nat → Bool} {held : Bool}
theorem ztm {n:Nat} {cs:List Value} {y:DataW H × List MemPlace} (h:DataW.trod enc Tryz.prog w base spare held n 23 cs=some y):∃ x:List Int,x.length=32∧cs=x.map (.int .u64)∧∀ n∈x,U64 n:=by
 obtain ⟨xs,m,_,_,hlen,hxs,hg⟩:=DataW.trod_array Tryz.underlying23 h
 rw [zjW] at hlen
 have key:∀ i (h1:i<cs.length),∃ k,cs[i]=.int .u64 k∧U64 k:=fun i h1=>by
  have hi:i<32:=by omega
  have g:=hg i hi
  rw [zbl,Nat.mul_one,List.getElem?_eq_getElem (by omega)] at g
  obtain ⟨k,hk,hu⟩:=zbh g
  have e:(cs.drop i).take 1=[cs[i]]:=by
   rw [List.drop_eq_getElem_cons h1]
   rfl
  rw [e] at hk
  exact ⟨k,by simpa using hk,hu⟩
 refine ⟨cs.map zmK,by rw [List.length_map,hlen],?_,fun n hn=>?_⟩
 ·rw [List.map_map]
  refine List.ext_getElem (by rw [List.length_map]) fun i h1 _=>?_
  obtain ⟨k,hk,_⟩:=key i h1
  rw [List.getElem_map,hk]
  rfl
 ·obtain ⟨c,hc,rfl⟩:=List.mem_map.1 hn
  obtain ⟨i,h1,rfl⟩:=List.mem_iff_getElem.1 hc
  obtain ⟨k,hk,hu⟩:=key i h1
  rw [hk]
  exact hu
theorem zpj {n:Nat} {cs:List Value} {y:DataW H × List MemPlace} (h:DataW.trod enc Tryz.prog w base spare held n 25 cs=some y):∃ c:Reg,cs=[.int .u64 c.s0,.int .u64 c.s1,.int .u64 c.s2,.int .u64 c.s3,.int .u64 c.s4,.int .u64 c.s5,.int .u64 c.s6,.int .u64 c.s7,.int .u64 c.s8,.int .u64 c.s9,.int .u64 c.s10,.int .u64 c.s11,.int .u64 c.s12,.int .u64 c.s13,.int .u64 c.s14,.int .u64 c.s15]∧OkR c:=by
 obtain ⟨xs,m,_,_,hlen,hxs,hg⟩:=DataW.trod_struct Tryz.underlying25 h
 rw [zhQ] at hlen
 match cs,hlen,xs,hxs with
 | [c0,c1,c2,c3,c4,c5,c6,c7,c8,c9,c10,c11,c12,c13,c14,c15],_,[y0,y1,y2,y3,y4,y5,y6,y7,y8,y9,y10,y11,y12,y13,y14,y15],_ =>
  have g0:=hg 0 _ rfl
  have g1:=hg 1 _ rfl
  have g2:=hg 2 _ rfl
  have g3:=hg 3 _ rfl
  have g4:=hg 4 _ rfl
  have g5:=hg 5 _ rfl
  have g6:=hg 6 _ rfl
  have g7:=hg 7 _ rfl
  have g8:=hg 8 _ rfl
  have g9:=hg 9 _ rfl
  have g10:=hg 10 _ rfl
  have g11:=hg 11 _ rfl
  have g12:=hg 12 _ rfl
  have g13:=hg 13 _ rfl
  have g14:=hg 14 _ rfl
  have g15:=hg 15 _ rfl
  simp only [List.getElem?_cons_succ,List.getElem?_cons_zero] at g0 g1 g2 g3 g4 g5 g6 g7 g8 g9 g10 g11 g12 g13 g14 g15
  obtain ⟨k0,e0,o0⟩:=zbh g0
  obtain ⟨k1,e1,o1⟩:=zbh g1
  obtain ⟨k2,e2,o2⟩:=zbh g2
  obtain ⟨k3,e3,o3⟩:=zbh g3
  obtain ⟨k4,e4,o4⟩:=zbh g4
  obtain ⟨k5,e5,o5⟩:=zbh g5
  obtain ⟨k6,e6,o6⟩:=zbh g6
  obtain ⟨k7,e7,o7⟩:=zbh g7
  obtain ⟨k8,e8,o8⟩:=zbh g8
  obtain ⟨k9,e9,o9⟩:=zbh g9
  obtain ⟨k10,e10,o10⟩:=zbh g10
  obtain ⟨k11,e11,o11⟩:=zbh g11
  obtain ⟨k12,e12,o12⟩:=zbh g12
  obtain ⟨k13,e13,o13⟩:=zbh g13
  obtain ⟨k14,e14,o14⟩:=zbh g14
  obtain ⟨k15,e15,o15⟩:=zbh g15
  obtain rfl:c0=.int .u64 k0:=by simpa [zbl] using e0
  obtain rfl:c1=.int .u64 k1:=by simpa [zbl] using e1
  obtain rfl:c2=.int .u64 k2:=by simpa [zbl] using e2
  obtain rfl:c3=.int .u64 k3:=by simpa [zbl] using e3
  obtain rfl:c4=.int .u64 k4:=by simpa [zbl] using e4
  obtain rfl:c5=.int .u64 k5:=by simpa [zbl] using e5
  obtain rfl:c6=.int .u64 k6:=by simpa [zbl] using e6
  obtain rfl:c7=.int .u64 k7:=by simpa [zbl] using e7
  obtain rfl:c8=.int .u64 k8:=by simpa [zbl] using e8
  obtain rfl:c9=.int .u64 k9:=by simpa [zbl] using e9
  obtain rfl:c10=.int .u64 k10:=by simpa [zbl] using e10
  obtain rfl:c11=.int .u64 k11:=by simpa [zbl] using e11
  obtain rfl:c12=.int .u64 k12:=by simpa [zbl] using e12
  obtain rfl:c13=.int .u64 k13:=by simpa [zbl] using e13
  obtain rfl:c14=.int .u64 k14:=by simpa [zbl] using e14
  obtain rfl:c15=.int .u64 k15:=by simpa [zbl] using e15
  exact ⟨⟨k0,k1,k2,k3,k4,k5,k6,k7,k8,k9,k10,k11,k12,k13,k14,k15⟩,rfl,⟨o0,o1,o2,o3,o4,o5,o6,o7,o8,o9,o10,o11,o12,o13,o14,o15⟩⟩
theorem zoW {fuel:Nat} {cs:List Value} {y:DataW H × List MemPlace} (hf:DataW.trod enc Tryz.prog w base spare held fuel 27 cs=some y):∃ h:Hart,cs=zbk h∧OkH h:=by
 obtain ⟨xs,n,_,hd,hsz,hlen,hg⟩:=DataW.trod_struct Tryz.underlying27 hf
 rw [ziE] at hsz
 match xs,hlen with
 | [y0,y1,y2,y3,y4,y5],_ =>
  have g0:DataW.trod enc Tryz.prog w base spare held n 23 ((cs.drop 0).take (Tryz.prog.cellsOf 23))=some y0:=hg 0 _ rfl
  have g1:DataW.trod enc Tryz.prog w base spare held n 22 ((cs.drop 32).take (Tryz.prog.cellsOf 22))=some y1:=hg 1 _ rfl
  have g2:DataW.trod enc Tryz.prog w base spare held n 3 ((cs.drop 33).take (Tryz.prog.cellsOf 3))=some y2:=hg 2 _ rfl
  have g3:DataW.trod enc Tryz.prog w base spare held n 25 ((cs.drop 34).take (Tryz.prog.cellsOf 25))=some y3:=hg 3 _ rfl
  have g4:DataW.trod enc Tryz.prog w base spare held n 4 ((cs.drop 50).take (Tryz.prog.cellsOf 4))=some y4:=hg 4 _ rfl
  have g5:DataW.trod enc Tryz.prog w base spare held n 22 ((cs.drop 51).take (Tryz.prog.cellsOf 22))=some y5:=hg 5 _ rfl
  obtain ⟨x,hx,e0,ox⟩:=ztm g0
  obtain ⟨pc,e1,opc⟩:=zbh g1
  obtain ⟨mode,e2,_,_⟩:=DataW.trod_int Tryz.underlying3 g2
  obtain ⟨c,e3,oc⟩:=zpj g3
  obtain ⟨held,e4,_⟩:=DataW.trod_bool Tryz.underlying4 g4
  obtain ⟨rat,e5,orat⟩:=zbh g5
  rw [zjW] at e0
  rw [zbl] at e1 e5
  rw [zh8] at e2
  rw [zhQ] at e3
  rw [ze3] at e4
  refine ⟨⟨x,hx,pc,mode,c,held,rat⟩,?_,⟨ox,opc,oc,orat⟩⟩
  have e:cs=zbk ⟨x,hx,pc,mode,c,held,rat⟩:=by
   have a0:=zbd cs 0 32
   have a1:=zbd cs 32 1
   have a2:=zbd cs 33 1
   have a3:=zbd cs 34 16
   have a4:=zbd cs 50 1
   have a5:=zbd cs 51 1
   have z:cs.drop 52=[]:=List.drop_eq_nil_of_le (by omega)
   rw [show 51+1=52 from rfl,z,e5] at a5
   rw [show 50+1=51 from rfl,a5,e4] at a4
   rw [show 34+16=50 from rfl,a4,e3] at a3
   rw [show 33+1=34 from rfl,a3,e2] at a2
   rw [show 32+1=33 from rfl,a2,e1] at a1
   rw [show 0+32=32 from rfl,a1,e0] at a0
   exact a0
  exact e
end
end Go.Proofs.YtmjjpgaeboaamaaGreatDoor
namespace Go.Proofs.YtmjjpgaeboaamaaGreatDoor
set_option maxRecDepth 100000
open Go.RowKit Go.Deep Go.Joins Go.WideShapes Go.ChangeShapes Go.ChangeAt
theorem ziT:Tryz.prog.cellsOf 80=3:=by kernel_rfl
theorem zqt:Tryz.prog.bytesOf 80=32:=by kernel_rfl
theorem zjo {P:Nat→Rec→Prop}:∀ n,(∀ i,i<n→∃ r,P i r)→∃ O:List Rec,O.length=n∧∀ i (h:i<O.length),P i O[i]
 | 0,_=>⟨[],rfl,fun i h=>by cases h⟩
 | n+1,h=>by
  obtain ⟨O,hl,hO⟩:=zjo n fun i hi=>h i (by omega)
  obtain ⟨r,hr⟩:=h n (by omega)
  refine ⟨O ++ [r],by simp [hl],fun i hi=>?_⟩
  by_cases e:i<O.length
  ·rw [List.getElem_append_left e];exact hO i e
  ·have:i=n:=by simp at hi;omega
   subst this
   rw [List.getElem_append_right (by omega)]
   simpa using hr
section
variable {H : Type} {enc : TypeId × Value → H} {w : World} {base : Nat} {spare : Nat → Bool} {held : Bool}
theorem zsw {n:Nat} {cs:List Value} {y:DataW H × List MemPlace} (h:DataW.trod enc Tryz.prog w base spare held n 80 cs=some y):∃ r:Rec,cs=rcL r:=by
 obtain ⟨xs,m,_,_,hlen,hxs,hg⟩:=DataW.trod_struct Tryz.underlying80 h
 rw [ziT] at hlen
 match cs,hlen,xs,hxs with
 | [c0,c1,c2],_,[y0,y1,y2],_ =>
  have g0:DataW.trod enc Tryz.prog w base spare held m 22 (([c0,c1,c2].drop 0).take (Tryz.prog.cellsOf 22))=some y0:=hg 0 _ rfl
  have g1:DataW.trod enc Tryz.prog w base spare held m 3 (([c0,c1,c2].drop 1).take (Tryz.prog.cellsOf 3))=some y1:=hg 1 _ rfl
  have g2:DataW.trod enc Tryz.prog w base spare held m 9 (([c0,c1,c2].drop 2).take (Tryz.prog.cellsOf 9))=some y2:=hg 2 _ rfl
  rw [zbl] at g0
  rw [zh8] at g1
  rw [zfI] at g2
  obtain ⟨k0,e0,_⟩:=zbh g0
  obtain ⟨k1,e1,_,_⟩:=DataW.trod_int Tryz.underlying3 g1
  obtain ⟨k2,e2,_,_⟩:=DataW.trod_string Tryz.underlying9 g2
  simp at e0 e1 e2
  exact ⟨(k0,k1,k2),by rw [e0,e1,e2];rfl⟩
theorem zom {fuel:Nat} {c:Value} {x:DataW H × List MemPlace} (h:DataW.trod enc Tryz.prog w base spare held fuel 40 [c]=some x) :
  ∃ O:List Rec,zaY w c 3 O.length (oC O)∧∀ N,(∀ k∈x.1.weights Tryz.prog 40,k≤N)→O.length*32≤N:=by
 rcases DataW.trod_slice Tryz.underlying40 h with ⟨hcs,rfl⟩ | ⟨a,len,cap,elems,rest,n,_,hcs,rfl,hb,hl,hm,hlen,hel,hsp,hns⟩
 ·simp only [List.cons.injEq,and_true] at hcs
  subst hcs
  exact ⟨[],⟨rfl,.inl ⟨rfl,rfl⟩⟩,fun N _=>Nat.zero_le _⟩
 ·simp only [List.cons.injEq,and_true] at hcs
  subst hcs
  obtain ⟨O,hO,hP⟩:=zjo (P:=fun i r=>∀ j v,(rcL r)[j]?=some v→w.cell? ((a.add (i*3)).add j)=some v) len fun i hi=>by
   have k:=hel i hi
   rw [List.getElem?_eq_getElem (by omega),Option.bind_eq_some_iff,ziT] at k
   obtain ⟨cs',h1,h2⟩:=k
   obtain ⟨r,rfl⟩:=zsw h2
   exact ⟨r,fun j v hj=>by
    have k2:=World.cells?_some h1
    exact (k2.2.2 j (by have:=(List.getElem?_eq_some_iff.1 hj).1;simpa [rcL] using this)).trans hj⟩
  refine ⟨O,⟨ze1 O,.inr ⟨a,cap,by rw [hO],by rw [hO];exact hl,hm,fun j u hu=>?_⟩⟩,fun N hN=>?_⟩
  ·have hj:j<O.length*3:=by have:=(List.getElem?_eq_some_iff.1 hu).1;rwa [ze1] at this
   have hk:j / 3<O.length:=by omega
   have hu':(rcL O[j / 3])[j % 3]?=some u:=by rw [← zqx O (j / 3) hk (j % 3) (by omega),show 3*(j / 3)+j % 3=j by omega];exact hu
   have:=hP (j / 3) hk (j % 3) u hu'
   rwa [Addr.add_add,show j / 3*3+j % 3=j by omega] at this
  ·have:=hN _ (by simp only [DataW.weights,Tryz.underlying40,List.mem_cons];exact .inl rfl)
   rw [zqt] at this
   simp at this
   omega
theorem zv8:Tryz.prog.cellsOf 36=1:=by kernel_rfl
theorem ztk:Tryz.prog.cellsOf 37=1:=by kernel_rfl
theorem zh4:Tryz.prog.cellsOf 40=1:=by kernel_rfl
theorem zsQ:Tryz.prog.cellsOf 42=79:=by kernel_rfl
theorem zsm {fuel:Nat} {cs:List Value} {y:DataW H × List MemPlace} (h:DataW.trod enc Tryz.prog w base spare held fuel 39 cs=some y):∃ dv mv E D M,cs=[dv,mv,.int .u64 E]∧DAt w dv D∧MAt w mv M∧∀ N,(∀ k∈y.1.weights Tryz.prog 39,k≤N)→D.length≤N∧M.length*8≤N:=by
 obtain ⟨xs,m,_,hd,hlen,hxs,hg⟩:=DataW.trod_struct Tryz.underlying39 h
 rw [zhF] at hlen
 subst hd
 match cs,hlen,xs,hxs with
 | [c0,c1,c2],_,[y0,y1,y2],_ =>
  have g0:DataW.trod enc Tryz.prog w base spare held m 36 (([c0,c1,c2].drop 0).take (Tryz.prog.cellsOf 36))=some y0:=hg 0 _ rfl
  have g1:DataW.trod enc Tryz.prog w base spare held m 37 (([c0,c1,c2].drop 1).take (Tryz.prog.cellsOf 37))=some y1:=hg 1 _ rfl
  have g2:DataW.trod enc Tryz.prog w base spare held m 22 (([c0,c1,c2].drop 2).take (Tryz.prog.cellsOf 22))=some y2:=hg 2 _ rfl
  rw [zv8] at g0
  rw [ztk] at g1
  rw [zbl] at g2
  obtain ⟨D,hD,wD⟩:=zpB (c:=c0) g0
  obtain ⟨M,hM,_,wM⟩:=ztw (c:=c1) g1
  obtain ⟨E,e2,_⟩:=zbh g2
  simp at e2
  refine ⟨c0,c1,E,D,M,by rw [e2],hD,hM,fun N hN=>⟨wD N fun k hk=>hN k ?_,wM N fun k hk=>hN k ?_⟩⟩
  ·simp [DataW.weights,Tryz.underlying39,DataW.weightsEach,hk]
  ·simp [DataW.weights,Tryz.underlying39,DataW.weightsEach,hk]
theorem zuB {r:Reach} {b0:Nat} {v:Value} {d:DataW H} {p:List MemPlace} (hv:Value.okWide Tryz.prog w r b0 42 v) (h:DataW.Trod enc Tryz.prog w base spare held 42 v d p) :
  ∃ (m:Mc) (q:Pt),v=mcV m∧MR w m q∧OkH m.h∧U64 m.cnt∧OkB m.b∧(∀ s∈q.F,s.size≤maxLen)∧∀ N,(∀ k∈d.weights Tryz.prog 42,k≤N)→q.F.length*16≤N∧q.D.length≤N∧q.M.length*8≤N∧q.O.length*32≤N:=by
 obtain ⟨cs0,rfl,hsz⟩:=okWide_struct Tryz.underlying42 hv
 rw [zsQ] at hsz
 obtain ⟨fuel,hf⟩:=h
 obtain ⟨xs,n,_,hd,_,hlen,hg⟩:=DataW.trod_struct Tryz.underlying42 hf
 obtain ⟨rfl,rfl⟩:=Prod.mk.inj hd
 have hcs:(Value.agg cs0).cells.toList=cs0.toList:=rfl
 obtain ⟨cs,hc⟩:∃ cs,cs=cs0.toList:=⟨_,rfl⟩
 have hl:cs.length=79:=by rw [hc];simp [hsz]
 rw [hcs,← hc] at hg
 match xs,hlen with
 | [y0,y1,y2,y3,y4,y5],_ =>
  have g0:DataW.trod enc Tryz.prog w base spare held n 27 ((cs.drop 0).take (Tryz.prog.cellsOf 27))=some y0:=hg 0 _ rfl
  have g1:DataW.trod enc Tryz.prog w base spare held n 35 ((cs.drop 52).take (Tryz.prog.cellsOf 35))=some y1:=hg 1 _ rfl
  have g2:DataW.trod enc Tryz.prog w base spare held n 39 ((cs.drop 73).take (Tryz.prog.cellsOf 39))=some y2:=hg 2 _ rfl
  have g3:DataW.trod enc Tryz.prog w base spare held n 22 ((cs.drop 76).take (Tryz.prog.cellsOf 22))=some y3:=hg 3 _ rfl
  have g4:DataW.trod enc Tryz.prog w base spare held n 22 ((cs.drop 77).take (Tryz.prog.cellsOf 22))=some y4:=hg 4 _ rfl
  have g5:DataW.trod enc Tryz.prog w base spare held n 40 ((cs.drop 78).take (Tryz.prog.cellsOf 40))=some y5:=hg 5 _ rfl
  obtain ⟨hh,e0,okh⟩:=zoW g0
  obtain ⟨b,F,e1,hF,hFs,okb,wF⟩:=zoS g1
  obtain ⟨dv,mv,E,D,M,e2,hD,hM,wR⟩:=zsm g2
  obtain ⟨cnt,e3,okc⟩:=zbh g3
  obtain ⟨nxt,e4,_⟩:=zbh g4
  have l5:(cs.drop 78).take (Tryz.prog.cellsOf 40)=[cs[78]'(by omega)]:=by
   rw [zh4,List.drop_eq_getElem_cons (show 78<cs.length by omega)]
   rfl
  rw [l5] at g5
  obtain ⟨O,hO,wO⟩:=zom g5
  rw [ziE] at e0
  rw [ziu] at e1
  rw [zhF] at e2
  rw [zbl] at e3 e4
  rw [zh4] at l5
  refine ⟨⟨hh,b,dv,mv,E,cnt,nxt,cs[78]'(by omega)⟩,⟨F,D,M,O⟩,?_,⟨hF,hD,hM,hO⟩,okh,okc,okb,hFs,fun N hN=>⟨wF N fun k hk=>hN k ?_,(wR N fun k hk=>hN k ?_).1,(wR N fun k hk=>hN k ?_).2,wO N fun k hk=>hN k ?_⟩⟩
  ·have e:cs=mcL ⟨hh,b,dv,mv,E,cnt,nxt,cs[78]'(by omega)⟩:=by
    have a0:=zbd cs 0 52
    have a1:=zbd cs 52 21
    have a2:=zbd cs 73 3
    have a3:=zbd cs 76 1
    have a4:=zbd cs 77 1
    have a5:=zbd cs 78 1
    have z:cs.drop 79=[]:=List.drop_eq_nil_of_le (by omega)
    rw [show 78+1=79 from rfl,z,l5] at a5
    rw [show 77+1=78 from rfl,a5,e4] at a4
    rw [show 76+1=77 from rfl,a4,e3] at a3
    rw [show 73+3=76 from rfl,a3,e2] at a2
    rw [show 52+21=73 from rfl,a2,e1] at a1
    rw [show 0+52=52 from rfl,a1,e0] at a0
    exact a0
   show Value.agg cs0=.agg (mcC _)
   unfold mcC
   rw [← e,hc]
  all_goals simp [DataW.weights,Tryz.underlying42,DataW.weightsEach,hk]
end
end Go.Proofs.YtmjjpgaeboaamaaGreatDoor
