/- MachineOn, part 49. -/
import Derived.Test.YtplcfdnfeclpmaaGreatDoorTie
import Derived.Test.YtplcfdnfeclpmaaGreatDoorCards
import Derived.LaidMore
import Derived.Stop.Joined
import Derived.SevenTiedAt
import Derived.SizedLaws
import Derived.Carry
import Derived.ChangeMaps5
import Derived.JoinedCond
import Derived.Deep.CondSized
import Derived.Test.YtplcfdnfeclpmaaGreatDoorV48
set_option maxHeartbeats 4000000
set_option maxRecDepth 100000
open Go.Lib (hid)
namespace Go.Proofs.YtplcfdnfeclpmaaGreatDoor
set_option maxRecDepth 100000
open Go.RowKit Go.Deep Go.Joins
open Go.WideShapes Go.ChangeShapes Go.ChangeAt
theorem zju:Tryz.prog.cellsOf 35=21:=by kernel_rfl
theorem zhH:Tryz.prog.cellsOf 33=9:=by kernel_rfl
theorem zln:Tryz.prog.cellsOf 28=1:=by kernel_rfl
theorem zgj:Tryz.prog.cellsOf 9=1:=by kernel_rfl
theorem zf2:Tryz.prog.cellsOf 4=1:=by kernel_rfl
theorem zit:Tryz.prog.cellsOf 3=1:=by kernel_rfl
theorem zmE:Tryz.prog.bytesOf 9=16:=by kernel_rfl
theorem zbp {α:Type} (l:List α) (a k:Nat):l.drop a=(l.drop a).take k ++ l.drop (a+k):=by
 rw [← List.drop_drop,List.take_append_drop]
def U64 (x:Int):Prop:=0≤x∧x≤18446744073709551615
structure OkB (b:Bd):Prop where
 cmp:U64 b.cmp
 sector:U64 b.sector
 addr:U64 b.addr
 nicA:U64 b.nicA
 nicL:U64 b.nicL
 inn:b.inn.size≤maxLen
 sec:b.sec.size≤maxLen
 pl:Pc.Ok b.pl
section
variable {H : Type} {enc : TypeId × Value → H} {w : World} {base : Nat} {spare : Nat → Bool} {held : Bool}
theorem zbu {n:Nat} {cs:List Value} {y:DataW H × List MemPlace} (h:DataW.trod enc Tryz.prog w base spare held n 22 cs=some y):∃ k:Int,cs=[.int .u64 k]∧U64 k:=by
 obtain ⟨k,e,rfl,hk⟩:=DataW.trod_int Tryz.underlying22 h;have b:=bounds_u64 hk;exact ⟨k,e,b.1,b.2⟩
theorem zAQ {fuel:Nat} {c:Value} {x:DataW H × List MemPlace} (h:DataW.trod enc Tryz.prog w base spare held fuel 28 [c]=some x) :
  ∃ F,FAt w c F∧(∀ s∈F,s.size≤maxLen)∧∀ N,(∀ k∈x.1.weights Tryz.prog 28,k≤N)→F.length*16≤N:=by
 rcases open_strings Tryz.underlying28 Tryz.underlying9 zgj h with ⟨hcs,rfl⟩ | ⟨a,len,cap,ss,hcs,_,hl,hm,hz,rfl,hcell,hsz⟩
 ·simp only [List.cons.injEq,and_true] at hcs
  subst hcs;exact ⟨[],⟨rfl,.inl ⟨rfl,rfl⟩⟩,fun s hs=>by (cases hs),fun N _=>Nat.zero_le _⟩
 ·simp only [List.cons.injEq,and_true] at hcs
  subst hcs;have hlen:len≤ss.length:=by rw [hz];split <;> omega
  have hDl:(ss.take len).length=len:=by simp;omega
  refine ⟨ss.take len,⟨by rw [zeT,Nat.mul_one],.inr ⟨a,cap,by rw [hDl],by rw [hDl];exact hl,hm,fun j u hu=>?_⟩⟩,fun s hs=>hsz s (List.mem_of_mem_take hs),fun N hN=>?_⟩
  ·have hj:j<len:=by
    have:=(List.getElem?_eq_some_iff.1 hu).1;rw [zeT,hDl] at this;exact this
   rw [hcell j (by omega),← hu];simp only [sC,List.getElem?_map,List.getElem?_take_of_lt hj,List.getElem?_eq_getElem (show j<ss.length by omega),List.getD_eq_getElem?_getD,Option.map_some,Option.getD_some]
  ·have:=hN _ (by simp only [DataW.weights,Tryz.underlying28,List.mem_cons];exact .inl rfl)
   rw [zmE] at this
   simp [strs] at this
   rw [hDl];omega
theorem zzn {fuel:Nat} {cs:List Value} {y:DataW H × List MemPlace} (hf:DataW.trod enc Tryz.prog w base spare held fuel 35 cs=some y) :
  ∃ b F,cs=(bdC b).toList∧FAt w (.slice b.fp b.fn b.fc) F∧(∀ s∈F,s.size≤maxLen)∧OkB b∧∀ N,(∀ k∈y.1.weights Tryz.prog 35,k≤N)→F.length*16≤N:=by
 obtain ⟨xs,n,_,hd,hsz,hlen,hg⟩:=DataW.trod_struct Tryz.underlying35 hf;rw [zju] at hsz;subst hd
 match xs,hlen with
 | [y0,y1,y2,y3,y4,y5,y6,y7,y8,y9,y10,y11,y12],_ =>
  have g0:DataW.trod enc Tryz.prog w base spare held n 4 ((cs.drop 0).take (Tryz.prog.cellsOf 4))=some y0:=hg 0 _ rfl;have g1:DataW.trod enc Tryz.prog w base spare held n 22 ((cs.drop 1).take (Tryz.prog.cellsOf 22))=some y1:=hg 1 _ rfl;have g2:DataW.trod enc Tryz.prog w base spare held n 9 ((cs.drop 2).take (Tryz.prog.cellsOf 9))=some y2:=hg 2 _ rfl;have g3:DataW.trod enc Tryz.prog w base spare held n 4 ((cs.drop 3).take (Tryz.prog.cellsOf 4))=some y3:=hg 3 _ rfl;have g4:DataW.trod enc Tryz.prog w base spare held n 9 ((cs.drop 4).take (Tryz.prog.cellsOf 9))=some y4:=hg 4 _ rfl;have g5:DataW.trod enc Tryz.prog w base spare held n 22 ((cs.drop 5).take (Tryz.prog.cellsOf 22))=some y5:=hg 5 _ rfl;have g6:DataW.trod enc Tryz.prog w base spare held n 22 ((cs.drop 6).take (Tryz.prog.cellsOf 22))=some y6:=hg 6 _ rfl;have g7:DataW.trod enc Tryz.prog w base spare held n 4 ((cs.drop 7).take (Tryz.prog.cellsOf 4))=some y7:=hg 7 _ rfl;have g8:DataW.trod enc Tryz.prog w base spare held n 4 ((cs.drop 8).take (Tryz.prog.cellsOf 4))=some y8:=hg 8 _ rfl;have g9:DataW.trod enc Tryz.prog w base spare held n 28 ((cs.drop 9).take (Tryz.prog.cellsOf 28))=some y9:=hg 9 _ rfl;have g10:DataW.trod enc Tryz.prog w base spare held n 22 ((cs.drop 10).take (Tryz.prog.cellsOf 22))=some y10:=hg 10 _ rfl;have g11:DataW.trod enc Tryz.prog w base spare held n 22 ((cs.drop 11).take (Tryz.prog.cellsOf 22))=some y11:=hg 11 _ rfl
  have g12:DataW.trod enc Tryz.prog w base spare held n 33 ((cs.drop 12).take (Tryz.prog.cellsOf 33))=some y12:=hg 12 _ rfl;obtain ⟨k0,e0,_⟩:=DataW.trod_bool Tryz.underlying4 g0;rw [zf2] at e0;obtain ⟨k1,e1,o1⟩:=zbu g1;rw [zbx] at e1;obtain ⟨k2,e2,_,o2⟩:=DataW.trod_string Tryz.underlying9 g2;rw [zgj] at e2;obtain ⟨k3,e3,_⟩:=DataW.trod_bool Tryz.underlying4 g3;rw [zf2] at e3;obtain ⟨k4,e4,_,o4⟩:=DataW.trod_string Tryz.underlying9 g4;rw [zgj] at e4;obtain ⟨k5,e5,o5⟩:=zbu g5;rw [zbx] at e5;obtain ⟨k6,e6,o6⟩:=zbu g6;rw [zbx] at e6;obtain ⟨k7,e7,_⟩:=DataW.trod_bool Tryz.underlying4 g7;rw [zf2] at e7;obtain ⟨k8,e8,_⟩:=DataW.trod_bool Tryz.underlying4 g8;rw [zf2] at e8
  have l9:(cs.drop 9).take (Tryz.prog.cellsOf 28)=[cs[9]'(by omega)]:=by
   rw [zln,List.drop_eq_getElem_cons (by omega)];rfl
  rw [l9] at g9;obtain ⟨F,hF,hFs,hw⟩:=zAQ g9;obtain ⟨q,cap,hq⟩:=hF.is;have e9:(cs.drop 9).take 1=[.slice q F.length cap]:=by rw [← hq,← l9,zln]
  obtain ⟨k10,e10,o10⟩:=zbu g10;rw [zbx] at e10;obtain ⟨k11,e11,o11⟩:=zbu g11;rw [zbx] at e11;obtain ⟨k12,e12,o12⟩:=Pc.zrL g12;rw [zhH] at e12;refine ⟨⟨k0,k1,k2,k3,k4,k5,k6,k7,k8,q,F.length,cap,k10,k11,k12⟩,F,?_,hq ▸ hF,hFs,⟨o1,o5,o6,o10,o11,o2,o4,o12⟩,fun N hN=>hw N fun k hk=>hN k ?_⟩
  ·have e:cs=bdL ⟨k0,k1,k2,k3,k4,k5,k6,k7,k8,q,F.length,cap,k10,k11,k12⟩ ++ plL k12:=by
    have a0:=zbp cs 0 1;have a1:=zbp cs 1 1;have a2:=zbp cs 2 1;have a3:=zbp cs 3 1;have a4:=zbp cs 4 1;have a5:=zbp cs 5 1;have a6:=zbp cs 6 1;have a7:=zbp cs 7 1;have a8:=zbp cs 8 1;have a9:=zbp cs 9 1;have a10:=zbp cs 10 1;have a11:=zbp cs 11 1;have a12:=zbp cs 12 9;have z:cs.drop 21=[]:=List.drop_eq_nil_of_le (by omega);rw [show 12+9=21 from rfl,z,e12] at a12;rw [show 11+1=12 from rfl,a12,e11] at a11;rw [show 10+1=11 from rfl,a11,e10] at a10;rw [show 9+1=10 from rfl,a10,e9] at a9;rw [show 8+1=9 from rfl,a9,e8] at a8;rw [show 7+1=8 from rfl,a8,e7] at a7;rw [show 6+1=7 from rfl,a7,e6] at a6;rw [show 5+1=6 from rfl,a6,e5] at a5;rw [show 4+1=5 from rfl,a5,e4] at a4;rw [show 3+1=4 from rfl,a4,e3] at a3;rw [show 2+1=3 from rfl,a3,e2] at a2;rw [show 1+1=2 from rfl,a2,e1] at a1;rw [show 0+1=1 from rfl,a1,e0] at a0;rw [List.append_nil] at a0;exact a0
   rw [zjs];exact e
  ·simp [DataW.weights,Tryz.underlying35,DataW.weightsEach,hk]
end
end Go.Proofs.YtplcfdnfeclpmaaGreatDoor
namespace Go.Proofs.YtplcfdnfeclpmaaGreatDoor
set_option maxRecDepth 100000
open Go.RowKit Go.Deep Go.Joins
structure OkR (c:Reg):Prop where
 u0:U64 c.s0
 u1:U64 c.s1
 u2:U64 c.s2
 u3:U64 c.s3
 u4:U64 c.s4
 u5:U64 c.s5
 u6:U64 c.s6
 u7:U64 c.s7
 u8:U64 c.s8
 u9:U64 c.s9
 u10:U64 c.s10
 u11:U64 c.s11
 u12:U64 c.s12
 u13:U64 c.s13
 u14:U64 c.s14
 u15:U64 c.s15
structure OkH (h:Hart):Prop where
 x:∀ n∈h.x,U64 n
 pc:U64 h.pc
 c:OkR h.c
 rat:U64 h.rat
end Go.Proofs.YtplcfdnfeclpmaaGreatDoor
namespace Go.Proofs.YtplcfdnfeclpmaaGreatDoor
set_option maxRecDepth 100000
open Go.RowKit Go.Deep Go.Joins
open Go.WideShapes Go.ChangeShapes Go.ChangeAt
theorem zkE:Tryz.prog.cellsOf 27=52:=by kernel_rfl
theorem zlm:Tryz.prog.cellsOf 25=16:=by kernel_rfl
theorem zkI:Tryz.prog.cellsOf 23=32:=by kernel_rfl
def zmz:Value→Int
 | .int _ a=>a
 | _=>0
section
variable {H : Type} {enc : TypeId × Value → H} {w : World} {base : Nat} {spare : Nat → Bool} {held : Bool}
theorem zwi {n:Nat} {cs:List Value} {y:DataW H × List MemPlace} (h:DataW.trod enc Tryz.prog w base spare held n 23 cs=some y):∃ x:List Int,x.length=32∧cs=x.map (.int .u64)∧∀ n∈x,U64 n:=by
 obtain ⟨xs,m,_,_,hlen,hxs,hg⟩:=DataW.trod_array Tryz.underlying23 h;rw [zkI] at hlen
 have key:∀ i (h1:i<cs.length),∃ k,cs[i]=.int .u64 k∧U64 k:=fun i h1=>by
  have hi:i<32:=by omega
  have g:=hg i hi;rw [zbx,Nat.mul_one,List.getElem?_eq_getElem (by omega)] at g;obtain ⟨k,hk,hu⟩:=zbu g
  have e:(cs.drop i).take 1=[cs[i]]:=by
   rw [List.drop_eq_getElem_cons h1];rfl
  rw [e] at hk;exact ⟨k,by simpa using hk,hu⟩
 refine ⟨cs.map zmz,by rw [List.length_map,hlen],?_,fun n hn=>?_⟩
 ·rw [List.map_map]
  refine List.ext_getElem (by rw [List.length_map]) fun i h1 _=>?_
  obtain ⟨k,hk,_⟩:=key i h1;rw [List.getElem_map,hk];rfl
 ·obtain ⟨c,hc,rfl⟩:=List.mem_map.1 hn
  obtain ⟨i,h1,rfl⟩:=List.mem_iff_getElem.1 hc;obtain ⟨k,hk,hu⟩:=key i h1;rw [hk];exact hu
theorem zyC {n:Nat} {cs:List Value} {y:DataW H × List MemPlace} (h:DataW.trod enc Tryz.prog w base spare held n 25 cs=some y):∃ c:Reg,cs=[.int .u64 c.s0,.int .u64 c.s1,.int .u64 c.s2,.int .u64 c.s3,.int .u64 c.s4,.int .u64 c.s5,.int .u64 c.s6,.int .u64 c.s7,.int .u64 c.s8,.int .u64 c.s9,.int .u64 c.s10,.int .u64 c.s11,.int .u64 c.s12,.int .u64 c.s13,.int .u64 c.s14,.int .u64 c.s15]∧OkR c:=by
 obtain ⟨xs,m,_,_,hlen,hxs,hg⟩:=DataW.trod_struct Tryz.underlying25 h;rw [zlm] at hlen
 match cs,hlen,xs,hxs with
 | [c0,c1,c2,c3,c4,c5,c6,c7,c8,c9,c10,c11,c12,c13,c14,c15],_,[y0,y1,y2,y3,y4,y5,y6,y7,y8,y9,y10,y11,y12,y13,y14,y15],_ =>
  have g0:=hg 0 _ rfl;have g1:=hg 1 _ rfl;have g2:=hg 2 _ rfl;have g3:=hg 3 _ rfl;have g4:=hg 4 _ rfl;have g5:=hg 5 _ rfl;have g6:=hg 6 _ rfl;have g7:=hg 7 _ rfl;have g8:=hg 8 _ rfl;have g9:=hg 9 _ rfl;have g10:=hg 10 _ rfl;have g11:=hg 11 _ rfl;have g12:=hg 12 _ rfl;have g13:=hg 13 _ rfl;have g14:=hg 14 _ rfl;have g15:=hg 15 _ rfl;simp only [List.getElem?_cons_succ,List.getElem?_cons_zero] at g0 g1 g2 g3 g4 g5 g6 g7 g8 g9 g10 g11 g12 g13 g14 g15;obtain ⟨k0,e0,o0⟩:=zbu g0;obtain ⟨k1,e1,o1⟩:=zbu g1;obtain ⟨k2,e2,o2⟩:=zbu g2;obtain ⟨k3,e3,o3⟩:=zbu g3;obtain ⟨k4,e4,o4⟩:=zbu g4;obtain ⟨k5,e5,o5⟩:=zbu g5;obtain ⟨k6,e6,o6⟩:=zbu g6;obtain ⟨k7,e7,o7⟩:=zbu g7;obtain ⟨k8,e8,o8⟩:=zbu g8;obtain ⟨k9,e9,o9⟩:=zbu g9;obtain ⟨k10,e10,o10⟩:=zbu g10;obtain ⟨k11,e11,o11⟩:=zbu g11;obtain ⟨k12,e12,o12⟩:=zbu g12;obtain ⟨k13,e13,o13⟩:=zbu g13;obtain ⟨k14,e14,o14⟩:=zbu g14;obtain ⟨k15,e15,o15⟩:=zbu g15;obtain rfl:c0=.int .u64 k0:=by simpa [zbx] using e0
  obtain rfl:c1=.int .u64 k1:=by simpa [zbx] using e1
  obtain rfl:c2=.int .u64 k2:=by simpa [zbx] using e2
  obtain rfl:c3=.int .u64 k3:=by simpa [zbx] using e3
  obtain rfl:c4=.int .u64 k4:=by simpa [zbx] using e4
  obtain rfl:c5=.int .u64 k5:=by simpa [zbx] using e5
  obtain rfl:c6=.int .u64 k6:=by simpa [zbx] using e6
  obtain rfl:c7=.int .u64 k7:=by simpa [zbx] using e7
  obtain rfl:c8=.int .u64 k8:=by simpa [zbx] using e8
  obtain rfl:c9=.int .u64 k9:=by simpa [zbx] using e9
  obtain rfl:c10=.int .u64 k10:=by simpa [zbx] using e10
  obtain rfl:c11=.int .u64 k11:=by simpa [zbx] using e11
  obtain rfl:c12=.int .u64 k12:=by simpa [zbx] using e12
  obtain rfl:c13=.int .u64 k13:=by simpa [zbx] using e13
  obtain rfl:c14=.int .u64 k14:=by simpa [zbx] using e14
  obtain rfl:c15=.int .u64 k15:=by simpa [zbx] using e15
  exact ⟨⟨k0,k1,k2,k3,k4,k5,k6,k7,k8,k9,k10,k11,k12,k13,k14,k15⟩,rfl,⟨o0,o1,o2,o3,o4,o5,o6,o7,o8,o9,o10,o11,o12,o13,o14,o15⟩⟩
theorem zrW {fuel:Nat} {cs:List Value} {y:DataW H × List MemPlace} (hf:DataW.trod enc Tryz.prog w base spare held fuel 27 cs=some y):∃ h:Hart,cs=zby h∧OkH h:=by
 obtain ⟨xs,n,_,hd,hsz,hlen,hg⟩:=DataW.trod_struct Tryz.underlying27 hf;rw [zkE] at hsz
 match xs,hlen with
 | [y0,y1,y2,y3,y4,y5],_ =>
  have g0:DataW.trod enc Tryz.prog w base spare held n 23 ((cs.drop 0).take (Tryz.prog.cellsOf 23))=some y0:=hg 0 _ rfl;have g1:DataW.trod enc Tryz.prog w base spare held n 22 ((cs.drop 32).take (Tryz.prog.cellsOf 22))=some y1:=hg 1 _ rfl;have g2:DataW.trod enc Tryz.prog w base spare held n 3 ((cs.drop 33).take (Tryz.prog.cellsOf 3))=some y2:=hg 2 _ rfl;have g3:DataW.trod enc Tryz.prog w base spare held n 25 ((cs.drop 34).take (Tryz.prog.cellsOf 25))=some y3:=hg 3 _ rfl;have g4:DataW.trod enc Tryz.prog w base spare held n 4 ((cs.drop 50).take (Tryz.prog.cellsOf 4))=some y4:=hg 4 _ rfl;have g5:DataW.trod enc Tryz.prog w base spare held n 22 ((cs.drop 51).take (Tryz.prog.cellsOf 22))=some y5:=hg 5 _ rfl;obtain ⟨x,hx,e0,ox⟩:=zwi g0;obtain ⟨pc,e1,opc⟩:=zbu g1;obtain ⟨mode,e2,_,_⟩:=DataW.trod_int Tryz.underlying3 g2;obtain ⟨c,e3,oc⟩:=zyC g3;obtain ⟨held,e4,_⟩:=DataW.trod_bool Tryz.underlying4 g4;obtain ⟨rat,e5,orat⟩:=zbu g5;rw [zkI] at e0;rw [zbx] at e1 e5;rw [zit] at e2;rw [zlm] at e3;rw [zf2] at e4;refine ⟨⟨x,hx,pc,mode,c,held,rat⟩,?_,⟨ox,opc,oc,orat⟩⟩
  have e:cs=zby ⟨x,hx,pc,mode,c,held,rat⟩:=by
   have a0:=zbp cs 0 32;have a1:=zbp cs 32 1;have a2:=zbp cs 33 1;have a3:=zbp cs 34 16;have a4:=zbp cs 50 1;have a5:=zbp cs 51 1;have z:cs.drop 52=[]:=List.drop_eq_nil_of_le (by omega);rw [show 51+1=52 from rfl,z,e5] at a5;rw [show 50+1=51 from rfl,a5,e4] at a4;rw [show 34+16=50 from rfl,a4,e3] at a3;rw [show 33+1=34 from rfl,a3,e2] at a2;rw [show 32+1=33 from rfl,a2,e1] at a1;rw [show 0+32=32 from rfl,a1,e0] at a0;exact a0
  exact e
end
end Go.Proofs.YtplcfdnfeclpmaaGreatDoor
namespace Go.Proofs.YtplcfdnfeclpmaaGreatDoor
set_option maxRecDepth 100000
open Go.RowKit Go.Deep Go.Joins Go.WideShapes Go.ChangeShapes Go.ChangeAt
theorem zjR:Tryz.prog.cellsOf 65=3:=by kernel_rfl
theorem zuq:Tryz.prog.bytesOf 65=32:=by kernel_rfl
theorem zk0 {P:Nat→Rec→Prop}:∀ n,(∀ i,i<n→∃ r,P i r)→∃ O:List Rec,O.length=n∧∀ i (h:i<O.length),P i O[i]
 | 0,_=>⟨[],rfl,fun i h=>by cases h⟩
 | n+1,h=>by
  obtain ⟨O,hl,hO⟩:=zk0 n fun i hi=>h i (by omega)
  obtain ⟨r,hr⟩:=h n (by omega);refine ⟨O ++ [r],by simp [hl],fun i hi=>?_⟩
  by_cases e:i<O.length
  ·rw [List.getElem_append_left e];exact hO i e
  ·have:i=n:=by simp at hi;omega
   subst this;rw [List.getElem_append_right (by omega)]
   simpa using hr
section
variable {H : Type} {enc : TypeId × Value → H} {w : World} {base : Nat} {spare : Nat → Bool} {held : Bool}
theorem zoY {n:Nat} {cs:List Value} {y:DataW H × List MemPlace} (h:DataW.trod enc Tryz.prog w base spare held n 65 cs=some y):∃ r:Rec,cs=rcL r:=by
 obtain ⟨xs,m,_,_,hlen,hxs,hg⟩:=DataW.trod_struct Tryz.underlying65 h;rw [zjR] at hlen
 match cs,hlen,xs,hxs with
 | [c0,c1,c2],_,[y0,y1,y2],_ =>
  have g0:DataW.trod enc Tryz.prog w base spare held m 22 (([c0,c1,c2].drop 0).take (Tryz.prog.cellsOf 22))=some y0:=hg 0 _ rfl;have g1:DataW.trod enc Tryz.prog w base spare held m 3 (([c0,c1,c2].drop 1).take (Tryz.prog.cellsOf 3))=some y1:=hg 1 _ rfl;have g2:DataW.trod enc Tryz.prog w base spare held m 9 (([c0,c1,c2].drop 2).take (Tryz.prog.cellsOf 9))=some y2:=hg 2 _ rfl;rw [zbx] at g0;rw [zit] at g1;rw [zgj] at g2;obtain ⟨k0,e0,_⟩:=zbu g0;obtain ⟨k1,e1,_,_⟩:=DataW.trod_int Tryz.underlying3 g1;obtain ⟨k2,e2,_,_⟩:=DataW.trod_string Tryz.underlying9 g2
  simp at e0 e1 e2
  exact ⟨(k0,k1,k2),by rw [e0,e1,e2];rfl⟩
theorem zoN:Tryz.prog.cellsOf 36=1:=by kernel_rfl
theorem zs7:Tryz.prog.cellsOf 37=1:=by kernel_rfl
theorem zj5:Tryz.prog.cellsOf 40=1:=by kernel_rfl
theorem zmV:Tryz.prog.cellsOf 42=79:=by kernel_rfl
theorem zss {fuel:Nat} {cs:List Value} {y:DataW H × List MemPlace} (h:DataW.trod enc Tryz.prog w base spare held fuel 39 cs=some y):∃ dv mv E D M,cs=[dv,mv,.int .u64 E]∧DAt w dv D∧MAt w mv M∧∀ N,(∀ k∈y.1.weights Tryz.prog 39,k≤N)→D.length≤N∧M.length*8≤N:=by
 obtain ⟨xs,m,_,hd,hlen,hxs,hg⟩:=DataW.trod_struct Tryz.underlying39 h;rw [zjv] at hlen;subst hd
 match cs,hlen,xs,hxs with
 | [c0,c1,c2],_,[y0,y1,y2],_ =>
  have g0:DataW.trod enc Tryz.prog w base spare held m 36 (([c0,c1,c2].drop 0).take (Tryz.prog.cellsOf 36))=some y0:=hg 0 _ rfl;have g1:DataW.trod enc Tryz.prog w base spare held m 37 (([c0,c1,c2].drop 1).take (Tryz.prog.cellsOf 37))=some y1:=hg 1 _ rfl;have g2:DataW.trod enc Tryz.prog w base spare held m 22 (([c0,c1,c2].drop 2).take (Tryz.prog.cellsOf 22))=some y2:=hg 2 _ rfl;rw [zoN] at g0;rw [zs7] at g1;rw [zbx] at g2;obtain ⟨D,hD,wD⟩:=zo1 (c:=c0) g0;obtain ⟨M,hM,_,wM⟩:=zxe (c:=c1) g1;obtain ⟨E,e2,_⟩:=zbu g2
  simp at e2
  refine ⟨c0,c1,E,D,M,by rw [e2],hD,hM,fun N hN=>⟨wD N fun k hk=>hN k ?_,wM N fun k hk=>hN k ?_⟩⟩
  ·simp [DataW.weights,Tryz.underlying39,DataW.weightsEach,hk]
  ·simp [DataW.weights,Tryz.underlying39,DataW.weightsEach,hk]
end
end Go.Proofs.YtplcfdnfeclpmaaGreatDoor
namespace Go.Proofs.YtplcfdnfeclpmaaGreatDoor
open Go.RowKit Go.Deep Go.Joins Go.ChangeShapes Go.WideShapes Go.ChangeAt Go.WideMaps Go.WideElems
def zgg:List (String × DataW Unit):=Rows.machineAheadRow.laid
theorem zxV:Tryz.prog.globalNamed "tandem/decode.branches"=some 0:=by kernel_rfl
theorem zvx:(Tryz.prog.globals[0]?).map (·.type)=some 149:=by kernel_rfl
theorem zrt:Tryz.prog.globalNamed "tandem/decode.loads"=some 1:=by kernel_rfl
theorem zom:(Tryz.prog.globals[1]?).map (·.type)=some 149:=by kernel_rfl
theorem zAA:Tryz.prog.globalNamed "tandem/decode.stores"=some 2:=by kernel_rfl
theorem zuI:(Tryz.prog.globals[2]?).map (·.type)=some 149:=by kernel_rfl
theorem zmy:Tryz.prog.globalNamed "tandem/decode.numbers"=some 4:=by kernel_rfl
theorem zsM:(Tryz.prog.globals[4]?).map (·.type)=some 149:=by kernel_rfl
theorem zrl:Tryz.prog.globalNamed "tandem/decode.sums"=some 5:=by kernel_rfl
theorem zyS:(Tryz.prog.globals[5]?).map (·.type)=some 149:=by kernel_rfl
theorem zop:Tryz.prog.globalNamed "tandem/decode.products"=some 6:=by kernel_rfl
theorem zrb:(Tryz.prog.globals[6]?).map (·.type)=some 149:=by kernel_rfl
theorem zuB:Tryz.prog.globalNamed "tandem/decode.others"=some 7:=by kernel_rfl
theorem zvP:(Tryz.prog.globals[7]?).map (·.type)=some 149:=by kernel_rfl
theorem zsW:Tryz.prog.globalNamed "tandem/decode.wordSums"=some 8:=by kernel_rfl
theorem zuW:(Tryz.prog.globals[8]?).map (·.type)=some 149:=by kernel_rfl
theorem zsZ:Tryz.prog.globalNamed "tandem/decode.wordProducts"=some 9:=by kernel_rfl
theorem zyo:(Tryz.prog.globals[9]?).map (·.type)=some 149:=by kernel_rfl
theorem zoo:Tryz.prog.globalNamed "tandem/decode.wordOthers"=some 10:=by kernel_rfl
theorem zwm:(Tryz.prog.globals[10]?).map (·.type)=some 149:=by kernel_rfl
theorem zuH:Tryz.prog.globalNamed "tandem/decode.fences"=some 3:=by kernel_rfl
theorem zpT:(Tryz.prog.globals[3]?).map (·.type)=some 149:=by kernel_rfl
theorem zuN:Tryz.prog.globalNamed "tandem/decode.registers"=some 11:=by kernel_rfl
theorem zmQ:(Tryz.prog.globals[11]?).map (·.type)=some 149:=by kernel_rfl
theorem c3:Tryz.prog.cellsOf 3=1:=by kernel_rfl
theorem zdg {W:World} {n:String} {g0:Nat} {L:List Int} {rest:List (String × DataW Unit)} {ps:List MemPlace} (hn:Tryz.prog.globalNamed n=some g0) (ht0:(Tryz.prog.globals[g0]?).map (·.type)=some 149) (hL:L.length=8)
  (h:DataW.LaidVars Tryz.prog W ((n,.agg (L.map fun x=>.lit (.int .i64 x))) :: rest) ps) :
  (∀ (j:Nat) (v:Int),L[j]?=some v→W.cell? ⟨g0,j,none⟩=some (.int .i64 v))∧∃ ps',DataW.LaidVars Tryz.prog W rest ps':=by
 obtain ⟨g,t,cs,f,p,q,hg,ht,hv,hd,hr,_⟩:=h;obtain rfl:=Option.some.inj (hn.symm.trans hg);obtain rfl:=Option.some.inj (ht0.symm.trans ht);refine ⟨?_,_,hr⟩
 obtain ⟨xs,m,rfl,hx,hlen,hn8,hel⟩:=DataW.trod_array Tryz.underlying149 hd;intro j v hv'
 have hj:j<8:=by
  have:=(List.getElem?_eq_some_iff.1 hv').1;omega
 have h1:=hel j hj;rw [c3,Nat.mul_one] at h1;have hxs:xs[j]?=some (xs[j]'(by omega)):=List.getElem?_eq_getElem _;rw [hxs] at h1;obtain ⟨k,e1,e2,_⟩:=DataW.trod_int Tryz.underlying3 h1
 have hL2:L.map (fun x=>(DataW.lit (Lit.int IntKind.i64 x):DataW Unit))=xs.map (fun x=>x.fst):=by
  have:=congrArg Prod.fst hx;injection this
 have hLj:=congrArg (fun l=>l[j]?) hL2;simp only [List.getElem?_map,hv',hxs,Option.map_some] at hLj;rw [e2] at hLj
 have hk:v=k:=by
  have h2:(DataW.lit (Lit.int IntKind.i64 v):DataW Unit)=DataW.lit (Lit.int IntKind.i64 k):=Option.some.inj hLj;have h3:Lit.int IntKind.i64 v=Lit.int IntKind.i64 k:=DataW.lit.inj h2;exact (Lit.int.inj h3).2
 subst hk;rw [World.var?_cell hn hv j]
 have h2:cs.toList[j]?=some (.int .i64 v):=by
  have h3:(List.take 1 (List.drop j cs.toList))[0]?=some (.int .i64 v):=by rw [e1];rfl
  rw [List.getElem?_take_of_lt (by omega),List.getElem?_drop,Nat.add_zero] at h3;exact h3
 rw [← Array.getElem?_toList];exact h2
theorem zxl {W:World} (h:laidMetH Tryz.prog zgg W):De.Laid W:=by
 rw [MakeChecks.laidMetH_plain _ _ _ (by kernel_rfl)] at h;obtain ⟨ps,h,_⟩:=h;obtain ⟨r0,_,h⟩:=zdg (L:=De.tab 0) zxV zvx rfl h;obtain ⟨r1,_,h⟩:=zdg (L:=De.tab 1) zrt zom rfl h;obtain ⟨r2,_,h⟩:=zdg (L:=De.tab 2) zAA zuI rfl h;obtain ⟨r4,_,h⟩:=zdg (L:=De.tab 4) zmy zsM rfl h;obtain ⟨r5,_,h⟩:=zdg (L:=De.tab 5) zrl zyS rfl h;obtain ⟨r6,_,h⟩:=zdg (L:=De.tab 6) zop zrb rfl h;obtain ⟨r7,_,h⟩:=zdg (L:=De.tab 7) zuB zvP rfl h;obtain ⟨r8,_,h⟩:=zdg (L:=De.tab 8) zsW zuW rfl h;obtain ⟨r9,_,h⟩:=zdg (L:=De.tab 9) zsZ zyo rfl h;obtain ⟨r10,_,h⟩:=zdg (L:=De.tab 10) zoo zwm rfl h;obtain ⟨r3,_,h⟩:=zdg (L:=De.tab 3) zuH zpT rfl h;obtain ⟨r11,_,h⟩:=zdg (L:=De.tab 11) zuN zmQ rfl h
 have hall:∀ g j:Nat,g<12→j<8→W.cell? ⟨g,j,none⟩=some (.int .i64 (De.row g j)):=by
  intro g j hg hj;have hget:∀ g<12,∀ j<8,(De.tab g)[j]?=some (De.row g j):=by decide
  have hq:=hget g hg j hj;rcases (show g=0∨g=1∨g=2∨g=3∨g=4∨g=5∨g=6∨g=7∨g=8∨g=9∨g=10∨g=11 by omega) with rfl | rfl | rfl | rfl | rfl | rfl | rfl | rfl | rfl | rfl | rfl | rfl
  ·exact r0 j _ hq
  ·exact r1 j _ hq
  ·exact r2 j _ hq
  ·exact r3 j _ hq
  ·exact r4 j _ hq
  ·exact r5 j _ hq
  ·exact r6 j _ hq
  ·exact r7 j _ hq
  ·exact r8 j _ hq
  ·exact r9 j _ hq
  ·exact r10 j _ hq
  ·exact r11 j _ hq
 refine ⟨?_,hall⟩
 exact World.block_lt_of_cell? W ⟨11,0,none⟩ (hall 11 0 (by omega) (by omega))
theorem zvU (os:Os) (args:Array Value):laidMetH Tryz.prog zgg ((World.doorLaid Tryz.prog 69 os).forCall (fun _ _=>0) ⟨#[],args,[]⟩).memory :=
 laidMetH_of_parts3 (fuel:=8) (laidMet_of_run' 8 (by kernel_rfl) (by kernel_rfl)) (by kernel_rfl) (by kernel_rfl)
end Go.Proofs.YtplcfdnfeclpmaaGreatDoor
namespace Go.Proofs.YtplcfdnfeclpmaaGreatDoor
open Go.RowKit Go.Deep Go.Joins
theorem zua {H:Type} {enc:TypeId × Value→H} {a:Assume} {C:Checked} {os:Os} {f:FuncId} {fn:Func} {s:OpenSpec} {k:(H:Type)→List (DataW H)→Bool} (hk:s.cond=some k) {F:Stop.Interp} {conds:List PathCond} {apart fresh handsOn again:Bool} {laid:List (String × DataW Unit)}
  (own:ownKnob C.prog.godebug=none) (started:os.Started) (noInit:C.prog.inits.idxOf? f=none) (hfn:C.prog.funcs[f]?=some fn)
  (witness:∃ (w:World) (tape:Tape) (i:Input),w.os=os∧(w.forCall tape i).Shaped C.prog∧i.vars=[]∧Input.okWide C.prog (w.forCall tape i) .any w.heap.size f i ∧
   s.preRow enc C.prog fn conds apart laid (w.forCall tape i).memory i.args∧a.holds C.prog (lone (Frame.enter C.prog f i.args .normal) [] (w.forCall tape i)))
  (contract:∀ (W:World) (base:Nat) (args:Array Value) (ds gs:List (DataW H)) (before:List MemPlace),
   (∀ (j:Nat) t v,fn.params[j]?=some t→args[j]?=some v→Value.okWide C.prog W .any base t v) →
   DataW.Whole enc C.prog fn.params.toList s.vars apart W args.toList ds gs before→k H (ds ++ gs)=true →
   (DataW.weightsEach C.prog (fn.params.toList ++ s.bare.plain.varTypes C.prog) (ds ++ gs)).all (·≤reachBytes)=true→laidMetH C.prog laid W →
   Calls C.prog f args W fun e W'=>∃ v,e=.returned v∧(s.at F).post enc C.prog fn apart fresh handsOn again W args v W') :
  ReturnsInHanded a C os f .any (s.preRow enc C.prog fn conds apart laid) ((s.at F).post enc C.prog fn apart fresh handsOn again):=by
 refine returnsInHanded_of_calls own started noInit witness ?_
 intro w tape i _ _ _ hok hpre _;obtain ⟨_,_,_,fn',hfn',_,_,_,_,hval⟩:=hok;have e:fn'=fn:=Option.some.inj (hfn'.symm.trans hfn);subst e;obtain ⟨⟨hp,hl⟩,hz⟩:=hpre;obtain ⟨ds,gs,before,hw,_,hkk⟩:=(OpenSpec.pre_some hk conds apart _ _).1 hp;have hw':=DataW.Whole.of_heap (w':=w.forCall tape i) (by rfl) hw;refine (contract (w.forCall tape i) w.heap.size i.args ds gs before hval hw' hkk (hz.weights hw) (hl.of_heap (by rfl))).mono fun e W' ⟨v,he,hp⟩=>?_
 subst he;exact ChangeSpec.post_blind hp
end Go.Proofs.YtplcfdnfeclpmaaGreatDoor
namespace Go.Proofs.YtplcfdnfeclpmaaGreatDoor
open Go.RowKit Go.Deep Go.Joins Go.ChangeShapes Go.WideShapes Go.ChangeAt Go.WideMaps Go.WideElems
set_option maxRecDepth 100000
section
variable {H : Type} {enc : TypeId × Value → H} {w : World} {base : Nat} {spare : Nat → Bool} {held : Bool}
theorem zzF (d:DataW H):1≤Rows.uptoBulk d:=by
 cases d with
 | lit l=>cases l <;> simp [Rows.uptoBulk]
 | nil=>simp [Rows.uptoBulk]
 | ptr d=>simp [Rows.uptoBulk]
 | slice elems spare=>simp [Rows.uptoBulk]
 | agg parts=>simp [Rows.uptoBulk]
 | iface t d=>simp [Rows.uptoBulk]
 | map entries=>simp [Rows.uptoBulk]
 | held h=>simp [Rows.uptoBulk]
theorem zwD (l:List (DataW H)):l.length≤Rows.uptoBulkAll l:=by
 induction l with
 | nil=>simp [Rows.uptoBulkAll]
 | cons x r ih=>have:=zzF x;simp only [Rows.uptoBulkAll,List.length_cons];omega
theorem zrn {fuel:Nat} {c:Value} {x:DataW H × List MemPlace} (h:DataW.trod enc Tryz.prog w base spare held fuel 40 [c]=some x) :
  ∃ O:List Rec,zaW w c 3 O.length (oC O)∧(∀ N,(∀ k∈x.1.weights Tryz.prog 40,k≤N)→O.length*32≤N)∧O.length≤Rows.uptoBulk x.1:=by
 rcases DataW.trod_slice Tryz.underlying40 h with ⟨hcs,rfl⟩ | ⟨a,len,cap,elems,rest,n,_,hcs,rfl,hb,hl,hm,hlen,hel,hsp,hns⟩
 ·simp only [List.cons.injEq,and_true] at hcs
  subst hcs;exact ⟨[],⟨rfl,.inl ⟨rfl,rfl⟩⟩,fun N _=>Nat.zero_le _,Nat.zero_le _⟩
 ·simp only [List.cons.injEq,and_true] at hcs
  subst hcs
  obtain ⟨O,hO,hP⟩:=zk0 (P:=fun i r=>∀ j v,(rcL r)[j]?=some v→w.cell? ((a.add (i*3)).add j)=some v) len fun i hi=>by
   have k:=hel i hi;rw [List.getElem?_eq_getElem (by omega),Option.bind_eq_some_iff,zjR] at k;obtain ⟨cs',h1,h2⟩:=k;obtain ⟨r,rfl⟩:=zoY h2
   exact ⟨r,fun j v hj=>by
    have k2:=World.cells?_some h1;exact (k2.2.2 j (by have:=(List.getElem?_eq_some_iff.1 hj).1;simpa [rcL] using this)).trans hj⟩
  refine ⟨O,⟨zdP O,.inr ⟨a,cap,by rw [hO],by rw [hO];exact hl,hm,fun j u hu=>?_⟩⟩,fun N hN=>?_,?_⟩
  ·have hj:j<O.length*3:=by have:=(List.getElem?_eq_some_iff.1 hu).1;rwa [zdP] at this
   have hk:j / 3<O.length:=by omega
   have hu':(rcL O[j / 3])[j % 3]?=some u:=by rw [← zjq O (j / 3) hk (j % 3) (by omega),show 3*(j / 3)+j % 3=j by omega];exact hu
   have:=hP (j / 3) hk (j % 3) u hu'
   rwa [Addr.add_add,show j / 3*3+j % 3=j by omega] at this
  ·have:=hN _ (by simp only [DataW.weights,Tryz.underlying40,List.mem_cons];exact .inl rfl)
   rw [zuq] at this
   simp at this
   omega
  ·have hb1:=zwD (elems.map fun x=>x.1)
   rw [List.length_map] at hb1;show O.length≤Rows.uptoBulkAll (elems.map fun x=>x.1)+_+1
   omega
theorem zvd {r:Reach} {b0:Nat} {v:Value} {d:DataW H} {p:List MemPlace} (hv:Value.okWide Tryz.prog w r b0 42 v) (h:DataW.Trod enc Tryz.prog w base spare held 42 v d p) :
  ∃ (m:Mc) (q:Pt),v=mcV m∧MR w m q∧OkH m.h∧U64 m.cnt∧OkB m.b∧(∀ s∈q.F,s.size≤maxLen)∧(∀ N,(∀ k∈d.weights Tryz.prog 42,k≤N)→q.F.length*16≤N∧q.D.length≤N∧q.M.length*8≤N∧q.O.length*32≤N)∧q.O.length≤Rows.uptoBulk d:=by
 obtain ⟨cs0,rfl,hsz⟩:=okWide_struct Tryz.underlying42 hv;rw [zmV] at hsz;obtain ⟨fuel,hf⟩:=h;obtain ⟨xs,n,_,hd,_,hlen,hg⟩:=DataW.trod_struct Tryz.underlying42 hf;obtain ⟨rfl,rfl⟩:=Prod.mk.inj hd;have hcs:(Value.agg cs0).cells.toList=cs0.toList:=rfl;obtain ⟨cs,hc⟩:∃ cs,cs=cs0.toList:=⟨_,rfl⟩;have hl:cs.length=79:=by rw [hc];simp [hsz]
 rw [hcs,← hc] at hg
 match xs,hlen with
 | [y0,y1,y2,y3,y4,y5],_ =>
  have g0:DataW.trod enc Tryz.prog w base spare held n 27 ((cs.drop 0).take (Tryz.prog.cellsOf 27))=some y0:=hg 0 _ rfl;have g1:DataW.trod enc Tryz.prog w base spare held n 35 ((cs.drop 52).take (Tryz.prog.cellsOf 35))=some y1:=hg 1 _ rfl;have g2:DataW.trod enc Tryz.prog w base spare held n 39 ((cs.drop 73).take (Tryz.prog.cellsOf 39))=some y2:=hg 2 _ rfl;have g3:DataW.trod enc Tryz.prog w base spare held n 22 ((cs.drop 76).take (Tryz.prog.cellsOf 22))=some y3:=hg 3 _ rfl;have g4:DataW.trod enc Tryz.prog w base spare held n 22 ((cs.drop 77).take (Tryz.prog.cellsOf 22))=some y4:=hg 4 _ rfl;have g5:DataW.trod enc Tryz.prog w base spare held n 40 ((cs.drop 78).take (Tryz.prog.cellsOf 40))=some y5:=hg 5 _ rfl;obtain ⟨hh,e0,okh⟩:=zrW g0;obtain ⟨b,F,e1,hF,hFs,okb,wF⟩:=zzn g1;obtain ⟨dv,mv,E,D,M,e2,hD,hM,wR⟩:=zss g2;obtain ⟨cnt,e3,okc⟩:=zbu g3;obtain ⟨nxt,e4,_⟩:=zbu g4
  have l5:(cs.drop 78).take (Tryz.prog.cellsOf 40)=[cs[78]'(by omega)]:=by
   rw [zj5,List.drop_eq_getElem_cons (show 78<cs.length by omega)];rfl
  rw [l5] at g5;obtain ⟨O,hO,wO,bO⟩:=zrn g5;rw [zkE] at e0;rw [zju] at e1;rw [zjv] at e2;rw [zbx] at e3 e4;rw [zj5] at l5;refine ⟨⟨hh,b,dv,mv,E,cnt,nxt,cs[78]'(by omega)⟩,⟨F,D,M,O⟩,?_,⟨hF,hD,hM,hO⟩,okh,okc,okb,hFs,fun N hN=>⟨wF N fun k hk=>hN k ?_,(wR N fun k hk=>hN k ?_).1,(wR N fun k hk=>hN k ?_).2,wO N fun k hk=>hN k ?_⟩,?_⟩
  ·have e:cs=mcL ⟨hh,b,dv,mv,E,cnt,nxt,cs[78]'(by omega)⟩:=by
    have a0:=zbp cs 0 52;have a1:=zbp cs 52 21;have a2:=zbp cs 73 3;have a3:=zbp cs 76 1;have a4:=zbp cs 77 1;have a5:=zbp cs 78 1;have z:cs.drop 79=[]:=List.drop_eq_nil_of_le (by omega);rw [show 78+1=79 from rfl,z,l5] at a5;rw [show 77+1=78 from rfl,a5,e4] at a4;rw [show 76+1=77 from rfl,a4,e3] at a3;rw [show 73+3=76 from rfl,a3,e2] at a2;rw [show 52+21=73 from rfl,a2,e1] at a1;rw [show 0+52=52 from rfl,a1,e0] at a0;exact a0
   show Value.agg cs0=.agg (mcC _)
   unfold mcC;rw [← e,hc]
  rotate_right
  ·have h5:=bO
   show O.length≤Rows.uptoBulkAll [y0.1,y1.1,y2.1,y3.1,y4.1,y5.1]+1
   simp only [Rows.uptoBulkAll];omega
  all_goals simp [DataW.weights,Tryz.underlying42,DataW.weightsEach,hk]
end
end Go.Proofs.YtplcfdnfeclpmaaGreatDoor
