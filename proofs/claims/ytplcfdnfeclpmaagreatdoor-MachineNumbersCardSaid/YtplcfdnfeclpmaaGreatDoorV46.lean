/- MachineNumbers, part 46. -/
import Derived.Test.YtplcfdnfeclpmaaGreatDoorTie
import Derived.Test.YtplcfdnfeclpmaaGreatDoorCards
import Derived.LaidMore
import Derived.Stop.Joined
import Derived.SevenTiedAt
import Derived.SizedLaws
import Derived.Carry
import Derived.ChangeMaps5
import Derived.Test.YtplcfdnfeclpmaaGreatDoorV41
import Derived.Test.YtplcfdnfeclpmaaGreatDoorV42
import Derived.Test.YtplcfdnfeclpmaaGreatDoorV44
import Derived.Test.YtplcfdnfeclpmaaGreatDoorV45
set_option maxHeartbeats 4000000
set_option maxRecDepth 100000
open Go.Lib (hid)
namespace Go.Proofs.YtplcfdnfeclpmaaGreatDoor
open Go.RowKit Go.Deep Go.Joins Go.ChangeShapes Go.WideShapes Go.ChangeAt Go.WideMaps Go.WideElems
def zfs:List (String × DataW Unit):=Rows.machineAheadRow.laid
theorem zt0:Tryz.prog.globalNamed "tandem/decode.branches"=some 0:=by kernel_rfl
theorem zs7:(Tryz.prog.globals[0]?).map (·.type)=some 149:=by kernel_rfl
theorem zxH:Tryz.prog.globalNamed "tandem/decode.loads"=some 1:=by kernel_rfl
theorem zro:(Tryz.prog.globals[1]?).map (·.type)=some 149:=by kernel_rfl
theorem znk:Tryz.prog.globalNamed "tandem/decode.stores"=some 2:=by kernel_rfl
theorem zvh:(Tryz.prog.globals[2]?).map (·.type)=some 149:=by kernel_rfl
theorem zll:Tryz.prog.globalNamed "tandem/decode.numbers"=some 4:=by kernel_rfl
theorem zls:(Tryz.prog.globals[4]?).map (·.type)=some 149:=by kernel_rfl
theorem zn5:Tryz.prog.globalNamed "tandem/decode.sums"=some 5:=by kernel_rfl
theorem zuf:(Tryz.prog.globals[5]?).map (·.type)=some 149:=by kernel_rfl
theorem zv7:Tryz.prog.globalNamed "tandem/decode.products"=some 6:=by kernel_rfl
theorem zsn:(Tryz.prog.globals[6]?).map (·.type)=some 149:=by kernel_rfl
theorem zxe:Tryz.prog.globalNamed "tandem/decode.others"=some 7:=by kernel_rfl
theorem zrY:(Tryz.prog.globals[7]?).map (·.type)=some 149:=by kernel_rfl
theorem zoq:Tryz.prog.globalNamed "tandem/decode.wordSums"=some 8:=by kernel_rfl
theorem zw0:(Tryz.prog.globals[8]?).map (·.type)=some 149:=by kernel_rfl
theorem zrp:Tryz.prog.globalNamed "tandem/decode.wordProducts"=some 9:=by kernel_rfl
theorem zzU:(Tryz.prog.globals[9]?).map (·.type)=some 149:=by kernel_rfl
theorem zlR:Tryz.prog.globalNamed "tandem/decode.wordOthers"=some 10:=by kernel_rfl
theorem zqI:(Tryz.prog.globals[10]?).map (·.type)=some 149:=by kernel_rfl
theorem zzo:Tryz.prog.globalNamed "tandem/decode.fences"=some 3:=by kernel_rfl
theorem zw4:(Tryz.prog.globals[3]?).map (·.type)=some 149:=by kernel_rfl
theorem zng:Tryz.prog.globalNamed "tandem/decode.registers"=some 11:=by kernel_rfl
theorem zwS:(Tryz.prog.globals[11]?).map (·.type)=some 149:=by kernel_rfl
theorem c3:Tryz.prog.cellsOf 3=1:=by kernel_rfl
theorem zdk {W:World} {n:String} {g0:Nat} {L:List Int} {rest:List (String × DataW Unit)} {ps:List MemPlace} (hn:Tryz.prog.globalNamed n=some g0) (ht0:(Tryz.prog.globals[g0]?).map (·.type)=some 149) (hL:L.length=8)
  (h:DataW.LaidVars Tryz.prog W ((n,.agg (L.map fun x=>.lit (.int .i64 x))) :: rest) ps) :
  (∀ (j:Nat) (v:Int),L[j]?=some v→W.cell? ⟨g0,j,none⟩=some (.int .i64 v))∧∃ ps',DataW.LaidVars Tryz.prog W rest ps':=by
 obtain ⟨g,t,cs,f,p,q,hg,ht,hv,hd,hr,_⟩:=h;obtain rfl:=Option.some.inj (hn.symm.trans hg);obtain rfl:=Option.some.inj (ht0.symm.trans ht);refine ⟨?_,_,hr⟩
 obtain ⟨xs,m,rfl,hx,hlen,hn8,hel⟩:=DataW.trod_array Tryz.underlying149 hd;intro j v hv'
 have hj:j<8:=by
  have:=(List.getElem?_eq_some_iff.1 hv').1;omega
 have h1:=hel j hj;rw [c3,Nat.mul_one] at h1;have hxs:xs[j]?=some (xs[j]'(by omega)):=List.getElem?_eq_getElem _;rw [hxs] at h1;obtain ⟨k,e1,e2,_⟩:=DataW.trod_int Tryz.underlying3 h1
 have hL2:L.map (fun x=>(DataW.lit (Lit.int IntKind.i64 x):DataW Unit))=xs.map (fun x=>x.fst):=by
  have:=congrArg Prod.fst hx;injection this
 have hLj:=congrArg (fun l=>l[j]?) hL2;simp only [List.getElem?_map,hv',hxs,Option.map_some] at hLj;rw [e2] at hLj
 have hk:v=k:=by
  have h2:(DataW.lit (Lit.int IntKind.i64 v):DataW Unit)=DataW.lit (Lit.int IntKind.i64 k):=Option.some.inj hLj;have h3:Lit.int IntKind.i64 v=Lit.int IntKind.i64 k:=DataW.lit.inj h2;exact (Lit.int.inj h3).2
 subst hk;rw [World.var?_cell hn hv j]
 have h2:cs.toList[j]?=some (.int .i64 v):=by
  have h3:(List.take 1 (List.drop j cs.toList))[0]?=some (.int .i64 v):=by rw [e1];rfl
  rw [List.getElem?_take_of_lt (by omega),List.getElem?_drop,Nat.add_zero] at h3;exact h3
 rw [← Array.getElem?_toList];exact h2
theorem zwe {W:World} (h:laidMetH Tryz.prog zfs W):De.Laid W:=by
 rw [MakeChecks.laidMetH_plain _ _ _ (by kernel_rfl)] at h;obtain ⟨ps,h,_⟩:=h;obtain ⟨r0,_,h⟩:=zdk (L:=De.tab 0) zt0 zs7 rfl h;obtain ⟨r1,_,h⟩:=zdk (L:=De.tab 1) zxH zro rfl h;obtain ⟨r2,_,h⟩:=zdk (L:=De.tab 2) znk zvh rfl h;obtain ⟨r4,_,h⟩:=zdk (L:=De.tab 4) zll zls rfl h;obtain ⟨r5,_,h⟩:=zdk (L:=De.tab 5) zn5 zuf rfl h;obtain ⟨r6,_,h⟩:=zdk (L:=De.tab 6) zv7 zsn rfl h;obtain ⟨r7,_,h⟩:=zdk (L:=De.tab 7) zxe zrY rfl h;obtain ⟨r8,_,h⟩:=zdk (L:=De.tab 8) zoq zw0 rfl h;obtain ⟨r9,_,h⟩:=zdk (L:=De.tab 9) zrp zzU rfl h;obtain ⟨r10,_,h⟩:=zdk (L:=De.tab 10) zlR zqI rfl h;obtain ⟨r3,_,h⟩:=zdk (L:=De.tab 3) zzo zw4 rfl h;obtain ⟨r11,_,h⟩:=zdk (L:=De.tab 11) zng zwS rfl h
 have hall:∀ g j:Nat,g<12→j<8→W.cell? ⟨g,j,none⟩=some (.int .i64 (De.row g j)):=by
  intro g j hg hj;have hget:∀ g<12,∀ j<8,(De.tab g)[j]?=some (De.row g j):=by decide
  have hq:=hget g hg j hj;rcases (show g=0∨g=1∨g=2∨g=3∨g=4∨g=5∨g=6∨g=7∨g=8∨g=9∨g=10∨g=11 by omega) with rfl | rfl | rfl | rfl | rfl | rfl | rfl | rfl | rfl | rfl | rfl | rfl
  ·exact r0 j _ hq
  ·exact r1 j _ hq
  ·exact r2 j _ hq
  ·exact r3 j _ hq
  ·exact r4 j _ hq
  ·exact r5 j _ hq
  ·exact r6 j _ hq
  ·exact r7 j _ hq
  ·exact r8 j _ hq
  ·exact r9 j _ hq
  ·exact r10 j _ hq
  ·exact r11 j _ hq
 refine ⟨?_,hall⟩
 exact World.block_lt_of_cell? W ⟨11,0,none⟩ (hall 11 0 (by omega) (by omega))
theorem zwm (os:Os) (args:Array Value):laidMetH Tryz.prog zfs ((World.doorLaid Tryz.prog 69 os).forCall (fun _ _=>0) ⟨#[],args,[]⟩).memory :=
 laidMetH_of_parts3 (fuel:=8) (laidMet_of_run' 8 (by kernel_rfl) (by kernel_rfl)) (by kernel_rfl) (by kernel_rfl)
theorem ziI {P:Nat→Inp→Prop}:∀ n,(∀ i,i<n→∃ r,P i r)→∃ O:List Inp,O.length=n∧∀ i (h:i<O.length),P i O[i]
 | 0,_=>⟨[],rfl,fun i h=>by cases h⟩
 | n+1,h=>by
  obtain ⟨O,hl,hO⟩:=ziI n fun i hi=>h i (by omega)
  obtain ⟨r,hr⟩:=h n (by omega);refine ⟨O ++ [r],by simp [hl],fun i hi=>?_⟩
  by_cases e:i<O.length
  ·rw [List.getElem_append_left e];exact hO i e
  ·have:i=n:=by simp at hi;omega
   subst this;rw [List.getElem_append_right (by omega)]
   simpa using hr
section
variable {H : Type} {enc : TypeId × Value → H} {w : World} {base : Nat} {spare : Nat → Bool} {held : Bool}
theorem zjV:Tryz.prog.cellsOf 63=4:=by kernel_rfl
theorem zmz {n:Nat} {cs:List Value} {y:DataW H × List MemPlace} (h:DataW.trod enc Tryz.prog w base spare held n 63 cs=some y):∃ r:Inp,cs=inL r∧r.s.size≤maxLen:=by
 obtain ⟨xs,m,_,_,hlen,hxs,hg⟩:=DataW.trod_struct Tryz.underlying63 h;rw [zjV] at hlen
 match cs,hlen,xs,hxs with
 | [c0,c1,c2,c3],_,[y0,y1,y2,y3],_ =>
  have g0:DataW.trod enc Tryz.prog w base spare held m 22 (([c0,c1,c2,c3].drop 0).take (Tryz.prog.cellsOf 22))=some y0:=hg 0 _ rfl;have g1:DataW.trod enc Tryz.prog w base spare held m 3 (([c0,c1,c2,c3].drop 1).take (Tryz.prog.cellsOf 3))=some y1:=hg 1 _ rfl;have g2:DataW.trod enc Tryz.prog w base spare held m 3 (([c0,c1,c2,c3].drop 2).take (Tryz.prog.cellsOf 3))=some y2:=hg 2 _ rfl;have g3:DataW.trod enc Tryz.prog w base spare held m 9 (([c0,c1,c2,c3].drop 3).take (Tryz.prog.cellsOf 9))=some y3:=hg 3 _ rfl;rw [zx7] at g0;rw [zwu] at g1 g2;rw [zvI] at g3;obtain ⟨k0,e0,o0⟩:=zsM g0;obtain ⟨k1,e1,_,_⟩:=DataW.trod_int Tryz.underlying3 g1;obtain ⟨k2,e2,_,_⟩:=DataW.trod_int Tryz.underlying3 g2;obtain ⟨s3,e3,_,o3⟩:=DataW.trod_string Tryz.underlying9 g3
  simp at e0 e1 e2 e3
  exact ⟨⟨k0,k1,k2,s3⟩,by rw [e0,e1,e2,e3];rfl,o3⟩
theorem zq1 {fuel:Nat} {c:Value} {x:DataW H × List MemPlace} (h:DataW.trod enc Tryz.prog w base spare held fuel 57 [c]=some x) :
  ∃ (L:List Inp) (q:Option Addr) (n:Nat),c=.slice q L.length n∧zbb w (.slice q L.length n) 4 L.length (inR L)∧∀ l∈L,l.s.size≤maxLen:=by
 rcases DataW.trod_slice Tryz.underlying57 h with ⟨hcs,rfl⟩ | ⟨a,len,cap,elems,rest,n,_,hcs,rfl,hb,hl,hm,hlen,hel,hsp,hns⟩
 ·simp only [List.cons.injEq,and_true] at hcs
  subst hcs;exact ⟨[],none,0,rfl,⟨rfl,.inl ⟨rfl,rfl⟩⟩,fun l hl=>by cases hl⟩
 ·simp only [List.cons.injEq,and_true] at hcs
  subst hcs
  obtain ⟨O,hO,hP⟩:=ziI (P:=fun i r=>(∀ j v,(inL r)[j]?=some v→w.cell? ((a.add (i*4)).add j)=some v)∧r.s.size≤maxLen) len fun i hi=>by
   have k:=hel i hi;rw [List.getElem?_eq_getElem (by omega),Option.bind_eq_some_iff,zjV] at k;obtain ⟨cs',h1,h2⟩:=k;obtain ⟨r,rfl,u1⟩:=zmz h2
   exact ⟨r,fun j v hj=>by
    have k2:=World.cells?_some h1;exact (k2.2.2 j (by have:=(List.getElem?_eq_some_iff.1 hj).1;simpa [inL] using this)).trans hj,u1⟩
  refine ⟨O,some a,cap,by rw [hO],⟨zhJ O,.inr ⟨a,cap,rfl,by rw [hO];exact hl,hm,fun j u hu=>?_⟩⟩,fun l hl=>?_⟩
  ·have hj:j<O.length*4:=by have:=(List.getElem?_eq_some_iff.1 hu).1;rwa [zhJ] at this
   have hk:j / 4<O.length:=by omega
   have hu':(inL O[j / 4])[j % 4]?=some u:=by rw [← zhH O (j / 4) hk (j % 4) (by omega),show 4*(j / 4)+j % 4=j by omega];exact hu
   have:=(hP (j / 4) hk).1 (j % 4) u hu'
   rwa [Addr.add_add,show j / 4*4+j % 4=j by omega] at this
  ·obtain ⟨i,hi,rfl⟩:=List.getElem_of_mem hl
   exact (hP i hi).2
end
end Go.Proofs.YtplcfdnfeclpmaaGreatDoor
namespace Go.Proofs.YtplcfdnfeclpmaaGreatDoor
open Go.RowKit Go.Deep Go.Joins
set_option maxRecDepth 100000
structure HR (h:Hart):Prop where
 x0:x0V h=0
 pc:h.pc % 2=0
 mode:h.mode=0∨h.mode=1∨h.mode=3
 c:Cs.zax h.c=true
 res:h.held=true∨h.rat=0
theorem zlk:∀ i,i<64→i≠0→Tr.bitT 1 i=false:=by decide +kernel
theorem zkm (x:Int) (hx:Tr.U64 x):(bits .and .u64 x 1==0)=true ↔ x % 2=0:=by
 have hb:=Tr.zd4 x hx 0 (by omega);have e1:Tr.bitT 1 0=true:=by decide +kernel
 rw [beq_iff_eq]
 constructor
 ·intro h
  have k:=congrArg (fun y=>Tr.bitT y 0) h;simp only [Tr.zbc,Tr.zco,e1,Bool.and_true] at k;rw [hb] at k;have:=of_decide_eq_false k
  simp at this
  omega
 ·intro h
  refine Tr.zce _ _ (Tr.zae _ _ _) Tr.zao fun i hi=>?_
  rw [Tr.zbc,Tr.zco]
  by_cases h0:i=0
  ·subst h0
   rw [hb,decide_eq_false (by simp;omega)];rfl
  ·rw [zlk i hi h0,Bool.and_false]
theorem zkr (m:Int):zfq m=true ↔ (m=0∨m=1∨m=3):=by
 unfold zfq;simp only [Bool.or_eq_true,beq_iff_eq]
 constructor
 ·rintro ((h | h) | h)
  ·exact .inl h
  ·exact .inr (.inl h)
  ·exact .inr (.inr h)
 ·rintro (h | h | h)
  ·exact .inl (.inl h)
  ·exact .inl (.inr h)
  ·exact .inr h
theorem zht {h:Hart} (hp:Tr.U64 h.pc):zdd h=true ↔ HR h:=by
 unfold zdd;simp only [Bool.and_eq_true,Bool.or_eq_true,beq_iff_eq]
 constructor
 ·rintro ⟨⟨⟨⟨h1,h2⟩,h3⟩,h4⟩,h5⟩
  exact ⟨h1,(zkm _ hp).1 (by rw [beq_iff_eq];exact h2),(zkr _).1 h3,h4,h5⟩
 ·rintro ⟨h1,h2,h3,h4,h5⟩
  exact ⟨⟨⟨⟨h1,by have:=(zkm _ hp).2 h2;rwa [beq_iff_eq] at this⟩,(zkr _).2 h3⟩,h4⟩,h5⟩
def Sub (x m:Int):Prop:=∀ i,i<64→Tr.bitT x i=true→Tr.bitT m i=true
theorem zew {x m:Int} (h:Sub x m) (y:Int):Sub (bits .andNot .u64 x y) m:=fun i hi hb=>by
 rw [Tr.zb8 _ _ i hi,Bool.and_eq_true] at hb;exact h i hi hb.1
theorem zgG {x y m:Int} (h:Sub x m) (k:Sub y m):Sub (bits .or .u64 x y) m:=fun i hi hb=>by
 rw [Tr.zd8,Bool.or_eq_true] at hb;rcases hb with hb | hb
 ·exact h i hi hb
 ·exact k i hi hb
theorem zu2 {y m:Int} (x:Int) (k:Sub y m):Sub (bits .and .u64 x y) m:=fun i hi hb=>by
 rw [Tr.zbc,Bool.and_eq_true] at hb;exact k i hi hb.2
theorem zfI {x y m:Int} (h:Sub x m) (k:Sub y m) (o:Bool):Sub (Tr.wV x y o) m:=by
 unfold Tr.wV
 split
 ·exact zgG h k
 ·exact zew h y
theorem s256:Sub 256 924074:=by unfold Sub;decide +kernel
theorem s32:Sub 32 924074:=by unfold Sub;decide +kernel
theorem s128:Sub 128 924074:=by unfold Sub;decide +kernel
theorem s8:Sub 8 924074:=by unfold Sub;decide +kernel
theorem s2:Sub 2 924074:=by unfold Sub;decide +kernel
theorem zmx:Sub 6144 924074:=by unfold Sub;decide +kernel
theorem zec {x y:Int} {i:Nat} (hi:i<64) (hy:Tr.bitT y i=false):Tr.bitT (bits .andNot .u64 x y) i=Tr.bitT x i:=by rw [Tr.zb8 _ _ i hi,hy];simp
theorem k_or {x y:Int} {i:Nat} (hy:Tr.bitT y i=false):Tr.bitT (bits .or .u64 x y) i=Tr.bitT x i:=by rw [Tr.zd8,hy,Bool.or_false]
theorem k_wV {x y:Int} {i:Nat} (hi:i<64) (hy:Tr.bitT y i=false) (o:Bool):Tr.bitT (Tr.wV x y o) i=Tr.bitT x i:=by
 unfold Tr.wV
 split
 ·exact k_or hy
 ·exact zec hi hy
theorem zdQ {s:Int} (hs:Tr.U64 s):(Cs.stV s==s)=true ↔ Sub s 924074∧Tr.twoB s=false:=by
 have e:(Cs.stV s==s)=true ↔ bits .and .u64 s 924074=s∧Tr.twoB s=false:=Tr.zgM s hs;rw [e]
 constructor
 ·rintro ⟨h1,h2⟩
  refine ⟨fun i hi hb=>?_,h2⟩
  rw [← h1,Tr.zbc,Bool.and_eq_true] at hb;exact hb.2
 ·rintro ⟨h1,h2⟩
  refine ⟨Tr.zce _ _ (Tr.zae _ _ _) hs fun i hi=>?_,h2⟩
  rw [Tr.zbc];have:=h1 i hi
  revert this
  cases Tr.bitT s i <;> cases Tr.bitT 924074 i <;> simp
theorem b256:Tr.bitT 256 11=false∧Tr.bitT 256 12=false:=by decide +kernel
theorem b32:Tr.bitT 32 11=false∧Tr.bitT 32 12=false:=by decide +kernel
theorem b128:Tr.bitT 128 11=false∧Tr.bitT 128 12=false:=by decide +kernel
theorem b8:Tr.bitT 8 11=false∧Tr.bitT 8 12=false:=by decide +kernel
theorem b2:Tr.bitT 2 11=false∧Tr.bitT 2 12=false:=by decide +kernel
theorem zky:Tr.bitT 131328 11=false∧Tr.bitT 131328 12=false:=by decide +kernel
theorem zpa:Tr.bitT 131072 11=false∧Tr.bitT 131072 12=false:=by decide +kernel
theorem zhh {x y:Int} (h:Tr.bitT x 11=Tr.bitT y 11∧Tr.bitT x 12=Tr.bitT y 12):Tr.twoB x=Tr.twoB y:=by unfold Tr.twoB;rw [h.1,h.2]
theorem zqg {s:Int} (hs:Tr.U64 s) (h:(Cs.stV s==s)=true) (a b:Bool):(Cs.stV (bits .andNot .u64 (Tr.wV (Tr.wV s 256 a) 32 b) 2)==bits .andNot .u64 (Tr.wV (Tr.wV s 256 a) 32 b) 2)=true:=by
 obtain ⟨h1,h2⟩:=(zdQ hs).1 h;refine (zdQ (Tr.zae _ _ _)).2 ⟨zew (zfI (zfI h1 s256 a) s32 b) 2,?_⟩
 rw [← h2];exact zhh ⟨by rw [zec (by omega) b2.1,k_wV (by omega) b32.1,k_wV (by omega) b256.1],by rw [zec (by omega) b2.2,k_wV (by omega) b32.2,k_wV (by omega) b256.2]⟩
theorem znQ {s m:Int} (hs:Tr.U64 s) (h:(Cs.stV s==s)=true) (hm:m=0∨m=1∨m=3) (b:Bool):(Cs.stV (bits .andNot .u64 (Tr.wV (bits .or .u64 (bits .andNot .u64 s 6144) (bits .and .u64 (IntKind.u64.wrap (IntKind.u64.wrap m*2048)) 6144)) 128 b) 8)==bits .andNot .u64 (Tr.wV (bits .or .u64 (bits .andNot .u64 s 6144) (bits .and .u64 (IntKind.u64.wrap (IntKind.u64.wrap m*2048)) 6144)) 128 b) 8)=true:=by
 obtain ⟨h1,h2⟩:=(zdQ hs).1 h;refine (zdQ (Tr.zae _ _ _)).2 ⟨zew (zfI (zgG (zew h1 _) (zu2 _ zmx)) s128 b) 8,?_⟩
 have e:Tr.twoB (bits .or .u64 (bits .andNot .u64 s 6144) (bits .and .u64 (IntKind.u64.wrap (IntKind.u64.wrap m*2048)) 6144))=false:=by
  unfold Tr.twoB;rw [Tr.zd8,Tr.zd8,Tr.zb8 _ _ 11 (by omega),Tr.zb8 _ _ 12 (by omega),Tr.K11,Tr.K12];rcases hm with rfl | rfl | rfl
  ·rw [show Tr.bitT (bits .and .u64 (IntKind.u64.wrap (IntKind.u64.wrap 0*2048)) 6144) 12=false by decide +kernel];simp
  ·rw [show Tr.bitT (bits .and .u64 (IntKind.u64.wrap (IntKind.u64.wrap 1*2048)) 6144) 12=false by decide +kernel];simp
  ·rw [show Tr.bitT (bits .and .u64 (IntKind.u64.wrap (IntKind.u64.wrap 3*2048)) 6144) 11=true by decide +kernel];simp
 rw [← e];exact zhh ⟨by rw [zec (by omega) b8.1,k_wV (by omega) b128.1],by rw [zec (by omega) b8.2,k_wV (by omega) b128.2]⟩
theorem zlo {s:Int} (hs:Tr.U64 s) (h:(Cs.stV s==s)=true) (q:Int):(Cs.stV (Tr.zdO s q)==Tr.zdO s q)=true:=by
 obtain ⟨h1,h2⟩:=(zdQ hs).1 h;have k:Sub (bits .andNot .u64 (bits .or .u64 (Tr.wV s 8 (Tr.nzV s 128)) 128) 6144) 924074:=zew (zgG (zfI h1 s8 _) s128) _;have t:Tr.bitT (bits .andNot .u64 (bits .or .u64 (Tr.wV s 8 (Tr.nzV s 128)) 128) 6144) 12=false:=by rw [Tr.zb8 _ _ 12 (by omega),Tr.K12];simp
 unfold Tr.zdO
 split
 ·refine (zdQ (Tr.zae _ _ _)).2 ⟨zew k _,?_⟩
  unfold Tr.twoB;rw [zec (by omega) zpa.2,t];rfl
 ·refine (zdQ (Tr.zae _ _ _)).2 ⟨k,?_⟩
  unfold Tr.twoB;rw [t];rfl
theorem zqp {s:Int} (hs:Tr.U64 s) (h:(Cs.stV s==s)=true):(Cs.stV (Tr.zeb s)==Tr.zeb s)=true:=by
 obtain ⟨h1,h2⟩:=(zdQ hs).1 h;unfold Tr.zeb;refine (zdQ (Tr.zae _ _ _)).2 ⟨zew (zgG (zfI h1 s2 _) s32) _,?_⟩
 rw [← h2];exact zhh ⟨by rw [zec (by omega) zky.1,k_or b32.1,k_wV (by omega) b2.1],by rw [zec (by omega) zky.2,k_or b32.2,k_wV (by omega) b2.2]⟩
theorem zk5:∀ i,i<64→i≠11→i≠12→Tr.bitT 6144 i=false:=by decide +kernel
theorem zjJ:∀ i,i<64→i≠11→Tr.bitT 2048 i=false:=by decide +kernel
theorem zxs:Tr.bitT 2048 11=true:=by decide +kernel
theorem zzA {s:Int} (hs:Tr.U64 s) (h:(Cs.stV s==s)=true):Tr.mppV s=0∨Tr.mppV s=1∨Tr.mppV s=3:=by
 obtain ⟨_,h2⟩:=(zdQ hs).1 h;unfold Tr.twoB at h2;unfold Tr.mppV
 have g:∀ c:Int,Tr.U64 c→Tr.bitT c 11=Tr.bitT s 11→Tr.bitT c 12=Tr.bitT s 12→(∀ i,i<64→i≠11→i≠12→Tr.bitT c i=false)→bits .and .u64 s 6144=c:=fun c hc c1 c2 c3=>by
  refine Tr.zce _ _ (Tr.zae _ _ _) hc fun i hi=>?_
  rw [Tr.zbc]
  by_cases e1:i=11
  ·subst e1;rw [Tr.K11,Bool.and_true,c1]
  by_cases e2:i=12
  ·subst e2;rw [Tr.K12,Bool.and_true,c2]
  rw [zk5 i hi e1 e2,c3 i hi e1 e2,Bool.and_false]
 cases t11:Tr.bitT s 11 with
 | false =>
  have t12:Tr.bitT s 12=false:=by rw [t11] at h2;simpa using h2
  rw [g 0 Tr.zao (by rw [Tr.zco,t11]) (by rw [Tr.zco,t12]) fun i _ _ _=>Tr.zco i];exact .inl rfl
 | true =>
  cases t12:Tr.bitT s 12 with
  | false =>
   rw [g 2048 ⟨by omega,by omega⟩ (by rw [zxs,t11]) (by rw [t12];exact zjJ 12 (by omega) (by omega)) fun i hi h1 _=>zjJ i hi h1];exact .inr (.inl rfl)
  | true =>
   rw [g 6144 ⟨by omega,by omega⟩ (by rw [Tr.K11,t11]) (by rw [Tr.K12,t12]) zk5];exact .inr (.inr rfl)
theorem zh4 {x:Int} (hx:Tr.U64 x) (h:Tr.bitT x 0=false):x % 2=0:=by
 rw [Tr.zd4 x hx 0 (by omega)] at h;have:=of_decide_eq_false h
 simp at this
 omega
theorem zyp (x:Int):(bits .andNot .u64 x 1) % 2=0:=zh4 (Tr.zae _ _ _) (by rw [Tr.zb8 _ _ 0 (by omega),show Tr.bitT 1 0=true by decide +kernel];simp)
theorem zpc (x:Int):(bits .andNot .u64 x 3) % 2=0:=zh4 (Tr.zae _ _ _) (by rw [Tr.zb8 _ _ 0 (by omega),show Tr.bitT 3 0=true by decide +kernel];simp)
theorem zim (v t:Int):Tr.zen v t % 2=0:=by
 have h:=zpc v;unfold Tr.zen
 split
 ·rw [IntKind.wrap_u64,IntKind.wrap_u64]
  generalize bits .andNot .u64 v 3=a at *;generalize bits .andNot .u64 t 9223372036854775808=b;omega
 ·exact h
theorem zkT {x:Int} (hx:Tr.U64 x) (h:((bits .andNot .u64 x 18446744073709551614)==0)=true):x % 2=0:=by
 refine zh4 hx ?_
 cases hb:Tr.bitT x 0 with
 | false=>rfl
 | true =>
  have:=Tr.zgz x _ hx h 0 hb;rw [show Tr.bitT 18446744073709551614 0=false by decide +kernel] at this;cases this
theorem ziM (x:Int):((bits .andNot .u64 (bits .andNot .u64 x 1) 18446744073709551614)==0)=true :=
 Tr.zhp _ _ (Tr.zae _ _ _) fun i hi hb=>by
  rw [Tr.zb8 _ _ i hi,Bool.and_eq_true] at hb;rw [Tr.c1 i hi];exact hb.2
end Go.Proofs.YtplcfdnfeclpmaaGreatDoor
namespace Go.Proofs.YtplcfdnfeclpmaaGreatDoor
open Go.RowKit Go.Deep Go.Joins
set_option maxRecDepth 100000
theorem zj6 {h:Hart} (H:HOk h) (R:HR h) (k:Nat) (it:Bool) (v:Int):HR (Tr.zdI h k it v):=by
 obtain ⟨h0,h1,h2,h3,h4,h5,h6,h7,h8,h9,h10⟩:=Cs.zgW h.c R.c;unfold Tr.zdI
 split
 ·exact ⟨R.x0,zim _ _,.inr (.inl rfl),Cs.zbw _ (zqg H.c.s0 h0 _ _) h1 h2 h3 h4 h5 h6 h7 (ziM _) h9 h10,.inr rfl⟩
 ·exact ⟨R.x0,zim _ _,.inr (.inr rfl),Cs.zbw _ (znQ H.c.s0 h0 R.mode _) h1 h2 h3 h4 h5 h6 (ziM _) h8 h9 h10,.inr rfl⟩
theorem zdM {h:Hart} (H:HOk h) (R:HR h) (c v:Int):HR (tkH h c v):=by
 unfold tkH
 split
 ·exact zj6 H R _ _ _
 ·exact R
theorem zdm {h:Hart} (R:HR h) (n v:Int) (hn:0≤n):HR (putH h n v):=by
 unfold putH
 split
 ·exact R
 ·rename_i hz
  refine ⟨?_,R.pc,R.mode,R.c,R.res⟩
  have hx:=R.x0;unfold x0V at hx ⊢;show (h.x.set n.toNat v).headD 0=0
  obtain ⟨k,hk⟩:∃ k,n.toNat=k+1:=⟨n.toNat - 1,by omega⟩;rw [hk];generalize h.x=l at hx;cases l with
  | nil=>exact hx
  | cons a l=>exact hx
theorem zgv {h:Hart} (R:HR h):HR (relH h):=⟨R.x0,R.pc,R.mode,R.c,.inr rfl⟩
theorem zzq {h:Hart} (R:HR h) (t:Int):HR { h with held:=true,rat:=t }:=⟨R.x0,R.pc,R.mode,R.c,.inl rfl⟩
theorem zfb {h:Hart} (H:HOk h) (R:HR h) (D:List UInt8) (t kind:Int):HR (fnH h D t kind).2.2:=by
 unfold fnH
 split
 ·exact R
 ·exact zdM H R _ _
theorem zfc {h:Hart} (H:HOk h) (R:HR h) (g:Wk):HR (noH h g):=zdM H R _ _
theorem zsT {h:Hart} (H:HOk h) (R:HR h):HR (Tr.zdY h):=by
 obtain ⟨h0,h1,h2,h3,h4,h5,h6,h7,h8,h9,h10⟩:=Cs.zgW h.c R.c;exact ⟨R.x0,zkT H.c.s7 h7,zzA H.c.s0 h0,Cs.zbw _ (zlo H.c.s0 h0 _) h1 h2 h3 h4 h5 h6 h7 h8 h9 h10,R.res⟩
theorem ztt {h:Hart} (H:HOk h) (R:HR h):HR (Tr.zd1 h):=by
 obtain ⟨h0,h1,h2,h3,h4,h5,h6,h7,h8,h9,h10⟩:=Cs.zgW h.c R.c;refine ⟨R.x0,zkT H.c.s12 h8,?_,Cs.zbw _ (zqp H.c.s0 h0) h1 h2 h3 h4 h5 h6 h7 h8 h9 h10,R.res⟩
 show (if Tr.nzV h.c.s0 256=true then (1:Int) else 0)=0∨(if Tr.nzV h.c.s0 256=true then (1:Int) else 0)=1∨(if Tr.nzV h.c.s0 256=true then (1:Int) else 0)=3
 split
 ·exact .inr (.inl rfl)
 ·exact .inl rfl
theorem zzy {v:Mc} (H:HOk v.h) (R:HR v.h) (g:Wk) (hg:0≤g.r):HR (ctR v g).2:=by
 unfold ctR;simp only
 split
 ·exact zfc H R g
 ·split
  ·split
   ·exact zfc H R g
   ·have R2:HR { v.h with c:=(Cs.wtV v.h.c v.h.mode g.i (wrV v g (Cs.rdV v.h.c v.h.mode g.i g.l v.cnt).1).1).1 }:=⟨R.x0,R.pc,R.mode,Cs.wt_r _ _ _ _ R.c,R.res⟩
    exact zdm R2 _ _ hg
  ·exact zdm R _ _ hg
theorem zwT {h:Hart} (H:HOk h) (R:HR h) (g:Wk):HR (dcR h g).2.1:=by
 unfold dcR
 split
 ·exact zfc H R g
 ·exact R
theorem zjO {h:Hart} (H:HOk h) (R:HR h) (p:Pt) (t:Int) (ht:Al.U64 t):HR (hfH h p t).2.2:=by
 unfold hfH
 split
 ·exact zfb H R _ _ _
 ·split
  ·exact zfb H R _ _ _
  ·show HR (tkH _ 1 t)
   exact zdM (zcX H _ _ _ ht) (zfb H R _ _ _) _ _
theorem zpR {v:Mc} (H:HOk v.h) (R:HR v.h) (p:Pt) (g:Wk):HR (ftR v p g).2.1:=by
 have h1:=zhy H p v.h.pc H.pc;have r1:=zjO H R p v.h.pc H.pc;have r2:=zjO h1 r1 p (pcV v.h 2) (zaT _);unfold ftR
 split
 ·exact r1
 ·split
  ·split
   ·exact zdM h1 r1 2 _
   ·exact r1
  ·split
   ·exact r2
   ·exact r2
theorem zhM {h:Hart} (R:HR h) (n:Int) (hn:n % 2=0):pcV h n % 2=0:=by
 have:=R.pc;unfold pcV;rw [IntKind.wrap_u64];omega
theorem zzB {v:Mc} (R:HR v.h) (p:Pt) (g:Wk) (hk:(ftR v p g).1=true):(ftR v p g).2.2.np % 2=0:=by
 unfold ftR at hk ⊢
 by_cases a:(hfH v.h p v.h.pc).2.1=false
 ·rw [if_pos a] at hk;cases hk
 rw [if_neg a] at hk ⊢
 by_cases b:Br.zdv (hfH v.h p v.h.pc).1.toNat=true
 ·rw [if_pos b] at hk ⊢
  by_cases c:Br.zbr (hfH v.h p v.h.pc).1.toNat=0
  ·rw [if_pos c] at hk;cases hk
  ·rw [if_neg c]
   exact zhM R 2 (by decide)
 ·rw [if_neg b] at hk ⊢
  by_cases c:(hfH (hfH v.h p v.h.pc).2.2 p (pcV v.h 2)).2.1=false
  ·rw [if_pos c] at hk;cases hk
  ·rw [if_neg c]
   exact zhM R 4 (by decide)
def EvI (i:De.In):Prop:=(i.op=3∨i.op∈([5,6,7,8,9,10]:List Int))→i.imm % 2=0
theorem zbj {c:Prop} [Decidable c] {a b:De.In} (ha:EvI a) (hb:EvI b):EvI (if c then a else b):=by split <;> assumption
theorem ev_z {o a b c:Int}:EvI ⟨o,a,b,c,0⟩:=fun _=>rfl
theorem zdt {o a b c i:Int} (h:¬ (o=3∨o∈([5,6,7,8,9,10]:List Int))):EvI ⟨o,a,b,c,i⟩:=fun e=>absurd e h
theorem zgS (g:Nat) (hg:∀ j<8,¬ (De.row g j=3∨De.row g j∈([5,6,7,8,9,10]:List Int))) (w:Nat) {a b c i:Int}:EvI ⟨De.row g (De.cutN w 12 3),a,b,c,i⟩:=zdt (hg _ (De.zbh w 12 3))
theorem ev_B (w:Nat) {o a b c:Int}:EvI ⟨o,a,b,c,De.immB w⟩:=fun _=>by
 show De.immB w % 2=0
 unfold De.immB;omega
theorem ev_J (w:Nat) {o a b c:Int}:EvI ⟨o,a,b,c,De.immJ w⟩:=fun _=>by
 show De.immJ w % 2=0
 unfold De.immJ;omega
theorem zsp (w:Nat):EvI (De.pOwn w):=by
 unfold De.pOwn;exact zbj (zdt (by decide)) (zbj (zdt (by decide)) (zbj (zdt (by decide)) (zgS 4 (by decide) w)))
theorem zvX (w:Nat):EvI (De.za3 w):=by
 unfold De.za3;exact zbj (zbj ev_z ev_z) ev_z
theorem zss (w:Nat):EvI (De.pSys w):=by
 unfold De.pSys;exact zbj (zgS 11 (by decide) w) (zbj ev_z (zbj ev_z (zbj ev_z (zbj ev_z (zbj ev_z (zbj ev_z ev_z))))))
theorem zup (w:Nat):EvI (De.zbo w):=by
 unfold De.zbo;exact zbj (zdt (by decide)) (zbj (zdt (by decide)) (zbj (zdt (by decide)) (zbj (zdt (by decide)) ev_z)))
theorem zuS (w:Nat):EvI (De.pIns w):=by
 unfold De.pIns;refine zbj (zdt (by decide)) ?_
 refine zbj (zdt (by decide)) ?_
 refine zbj (ev_J w) ?_
 refine zbj (zbj (zdt (by decide)) ev_z) ?_
 refine zbj (ev_B w) ?_
 refine zbj (zgS 1 (by decide) w) ?_
 refine zbj (zgS 2 (by decide) w) ?_
 refine zbj (zsp w) ?_
 refine zbj (zup w) ?_
 refine zbj ev_z ?_
 refine zbj ev_z ?_
 refine zbj ev_z ?_
 refine zbj (zvX w) ?_
 exact zbj (zss w) ev_z
theorem zno {v:Mc} {p:Pt} (k:VOk v p) (R:HR v.h) (g:Wk) (hg:0≤g.r):HR (ldR v p g).2.1.h:=by
 have hf:=zcX k.h p.D (adV v g) 1 (zaT _);have rf:=zfb k.h R p.D (adV v g) 1;unfold ldR
 split
 ·exact rf
 ·have e:=(zhi (turn v (fnH v.h p.D (adV v g) 1).2.2) p (fnH v.h p.D (adV v g) 1).1 (zaW g.o)).1
  simp only
  split
  ·show HR (putH (ldM (turn v (fnH v.h p.D (adV v g) 1).2.2) p (fnH v.h p.D (adV v g) 1).1 (zaW g.o)).1.h g.r _)
   rw [e];exact zdm rf _ _ hg
  ·show HR (tkH (ldM (turn v (fnH v.h p.D (adV v g) 1).2.2) p (fnH v.h p.D (adV v g) 1).1 (zaW g.o)).1.h 5 (adV v g))
   rw [e];exact zdM hf rf _ _
theorem zp1 {v:Mc} {p:Pt} (k:VOk v p) (R:HR v.h) (g:Wk):HR (stR v p g).2.1.h:=by
 have hf:=zcX k.h p.D (adV v g) 2 (zaT _);have rf:=zfb k.h R p.D (adV v g) 2;unfold stR
 split
 ·exact rf
 ·have e:=(zfP (v:=turn v (fnH v.h p.D (adV v g) 2).2.2) (p:=p) (fnH v.h p.D (adV v g) 2).1 (zaW g.o) (xV (fnH v.h p.D (adV v g) 2).2.2 g.b)).1
  simp only
  split
  ·show HR (relH (stM (turn v (fnH v.h p.D (adV v g) 2).2.2) p (fnH v.h p.D (adV v g) 2).1 (zaW g.o) (xV (fnH v.h p.D (adV v g) 2).2.2 g.b)).1.h)
   rw [e];exact zgv rf
  ·show HR (tkH (stM (turn v (fnH v.h p.D (adV v g) 2).2.2) p (fnH v.h p.D (adV v g) 2).1 (zaW g.o) (xV (fnH v.h p.D (adV v g) 2).2.2 g.b)).1.h 7 (adV v g))
   rw [e];exact zdM hf rf _ _
theorem zqr {v:Mc} {p:Pt} (R:HR v.h) (g:Wk) (hg:0≤g.r) (pl s:Int):HR (cdR v p g pl s).1.h:=by
 unfold cdR
 split
 ·have e:=(zfP (v:=v) (p:=p) pl s (xV v.h g.b)).1
  show HR (putH (relH (stM v p pl s (xV v.h g.b)).1.h) g.r 0)
  rw [e];exact zdm (zgv R) _ _ hg
 ·exact zdm (zgv R) _ _ hg
theorem zxE {v:Mc} {p:Pt} (R:HR v.h) (g:Wk) (hg:0≤g.r) (pl s was:Int):HR (chR v p g pl s was).1.h:=by
 unfold chR
 split
 ·exact zdm (zzq R pl) _ _ hg
 ·split
  ·exact zqr R g hg pl s
  ·have e:=(zfP (v:=v) (p:=p) pl s (Al.amV g.o was (xV v.h g.b))).1
   show HR (putH (relH (stM v p pl s (Al.amV g.o was (xV v.h g.b))).1.h) g.r was)
   rw [e];exact zdm (zgv R) _ _ hg
theorem zyz {v:Mc} {p:Pt} (k:VOk v p) (R:HR v.h) (g:Wk) (hg:0≤g.r) (s:Int):HR (atR v p g s).2.1.h:=by
 have ha:=k.h.x g.a;have hf:=zcX k.h p.D (xV v.h g.a) (kdV g.o) ha;have rf:=zfb k.h R p.D (xV v.h g.a) (kdV g.o);unfold atR
 split
 ·exact zdM k.h R _ _
 split
 ·exact rf
 split
 ·exact zdM hf rf _ _
 ·exact zxE (v:=turn v _) rf g hg _ _ _
theorem zlX {v:Mc} {p:Pt} (k:VOk v p) (R:HR v.h) (g:Wk) (hg:0≤g.r) (hnp:g.np % 2=0) (hi:(g.o=3∨g.o∈([5,6,7,8,9,10]:List Int))→g.i % 2=0):HR (doR v p g).2.1.h∧(doR v p g).2.2.2.np % 2=0:=by
 have hu:(g.o=3∨g.o∈([5,6,7,8,9,10]:List Int))→pcV v.h (uImm g.i) % 2=0:=fun h=>by
  have:=hi h;refine zhM R _ ?_
  unfold uImm;rw [IntKind.wrap_u64];omega
 have hmr:HR (if (zc2 v.h).2=true then (zc2 v.h).1 else noH v.h g):=by
  unfold zc2
  by_cases h3:v.h.mode=3
  ·rw [if_pos h3,if_pos rfl];exact zsT k.h R
  ·rw [if_neg h3,if_neg (by simp)];exact zfc k.h R g
 have hsr:HR (if (zcW v.h).2=true then (zcW v.h).1 else noH v.h g):=by
  unfold zcW
  by_cases h3:v.h.mode<1
  ·rw [if_pos h3,if_neg (by simp)];exact zfc k.h R g
  ·rw [if_neg h3,if_pos rfl];exact ztt k.h R
 show (fun R:Bool × Mc × Pt × Wk=>HR R.2.1.h∧R.2.2.2.np % 2=0) (doR v p g)
 unfold doR;refine zad (fun R:Bool × Mc × Pt × Wk=>HR R.2.1.h∧R.2.2.2.np % 2=0) _ _ _ ⟨zdm R _ _ hg,hnp⟩ ?_
 refine zad (fun R:Bool × Mc × Pt × Wk=>HR R.2.1.h∧R.2.2.2.np % 2=0) _ _ _ ⟨zdm R _ _ hg,hnp⟩ ?_
 by_cases h3:g.o=3
 ·rw [if_pos h3]
  exact ⟨zdm R _ _ hg,hu (.inl h3)⟩
 rw [if_neg h3];refine zad (fun R:Bool × Mc × Pt × Wk=>HR R.2.1.h∧R.2.2.2.np % 2=0) _ _ _ ⟨zdm R _ _ hg,zyp _⟩ ?_
 by_cases h5:g.o∈([5,6,7,8,9,10]:List Int)
 ·rw [if_pos h5]
  refine ⟨R,?_⟩
  show (brG v g).np % 2=0
  unfold brG
  split
  ·exact hu (.inr h5)
  ·exact hnp
 rw [if_neg h5];refine zad (fun R:Bool × Mc × Pt × Wk=>HR R.2.1.h∧R.2.2.2.np % 2=0) _ _ _ ⟨zno k R g hg,hnp⟩ ?_
 refine zad (fun R:Bool × Mc × Pt × Wk=>HR R.2.1.h∧R.2.2.2.np % 2=0) _ _ _ ⟨zp1 k R g,hnp⟩ ?_
 refine zad (fun R:Bool × Mc × Pt × Wk=>HR R.2.1.h∧R.2.2.2.np % 2=0) _ _ _ ⟨R,hnp⟩ ?_
 refine zad (fun R:Bool × Mc × Pt × Wk=>HR R.2.1.h∧R.2.2.2.np % 2=0) _ _ _ (zad (fun R:Bool × Mc × Pt × Wk=>HR R.2.1.h∧R.2.2.2.np % 2=0) _ _ _ ⟨zfc k.h R g,hnp⟩ ⟨R,hnp⟩) ?_
 refine zad (fun R:Bool × Mc × Pt × Wk=>HR R.2.1.h∧R.2.2.2.np % 2=0) _ _ _ ⟨zzy k.h R g hg,hnp⟩ ?_
 refine zad (fun R:Bool × Mc × Pt × Wk=>HR R.2.1.h∧R.2.2.2.np % 2=0) _ _ _ ⟨zdM k.h R (IntKind.i64.wrap (8+v.h.mode)) 0,hnp⟩ ?_
 refine zad (fun R:Bool × Mc × Pt × Wk=>HR R.2.1.h∧R.2.2.2.np % 2=0) _ _ _ ⟨zdM k.h R 3 v.h.pc,hnp⟩ ?_
 refine zad (fun R:Bool × Mc × Pt × Wk=>HR R.2.1.h∧R.2.2.2.np % 2=0) _ _ _ ⟨hmr,hnp⟩ ?_
 refine zad (fun R:Bool × Mc × Pt × Wk=>HR R.2.1.h∧R.2.2.2.np % 2=0) _ _ _ ⟨hsr,hnp⟩ ?_
 refine zad (fun R:Bool × Mc × Pt × Wk=>HR R.2.1.h∧R.2.2.2.np % 2=0) _ _ _ ⟨zyz k R g hg _,hnp⟩ ?_
 exact ⟨zdm R _ _ hg,hnp⟩
theorem zqc {v:Mc} {p:Pt} (k:VOk v p) (R:HR v.h) (g:Wk):HR (spR v p g).1.h:=by
 have h1:=zgE k.h p g;have h2:=zg2 h1 (ftR v p g).2.2;have r1:=zpR k.h R p g;have r2:=zwT h1 r1 (ftR v p g).2.2;unfold spR
 split
 ·exact zj6 k.h R _ _ _
 split
 ·exact r1
 rename_i hft
 split
 ·exact r2
 rename_i hdc
 have hft':(ftR v p g).1=true:=by revert hft;cases (ftR v p g).1 <;> simp
 have hdc':(dcR (ftR v p g).2.1 (ftR v p g).2.2).1=true:=by revert hdc;cases (dcR (ftR v p g).2.1 (ftR v p g).2.2).1 <;> simp
 have hnp:(dcR (ftR v p g).2.1 (ftR v p g).2.2).2.2.np % 2=0:=by
  have h:=zzB R p g hft';unfold dcR
  split <;> exact h
 have hev:((dcR (ftR v p g).2.1 (ftR v p g).2.2).2.2.o=3∨(dcR (ftR v p g).2.1 (ftR v p g).2.2).2.2.o∈([5,6,7,8,9,10]:List Int))→(dcR (ftR v p g).2.1 (ftR v p g).2.2).2.2.i % 2=0:=by
  have h:=zuS (ftR v p g).2.2.wd.toNat;unfold dcR at hdc' ⊢
  split
  ·rename_i hz
   rw [if_pos hz] at hdc';cases hdc'
  ·exact h
 obtain ⟨r3,n3⟩:=zlX (k.turn h2) r2 (dcR (ftR v p g).2.1 (ftR v p g).2.2).2.2 (zjY _ _ hdc').1.1 hnp hev;simp only
 split
 ·exact r3
 ·exact ⟨r3.x0,n3,r3.mode,r3.c,r3.res⟩
theorem zz7 {v:Mc} {p:Pt} (k:VOk v p) (R:HR v.h):HR (hsM v p).1.h:=zqc k R (wk0 (zci v p))
end Go.Proofs.YtplcfdnfeclpmaaGreatDoor
