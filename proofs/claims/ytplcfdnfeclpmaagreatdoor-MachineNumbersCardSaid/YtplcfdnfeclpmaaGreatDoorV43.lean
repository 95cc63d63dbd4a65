/- MachineNumbers, part 43. -/
import Derived.Test.YtplcfdnfeclpmaaGreatDoorV03
import Derived.Test.YtplcfdnfeclpmaaGreatDoorV04
import Derived.Test.YtplcfdnfeclpmaaGreatDoorV23
import Derived.Test.YtplcfdnfeclpmaaGreatDoorV31
import Derived.Test.YtplcfdnfeclpmaaGreatDoorV42
set_option maxHeartbeats 4000000
set_option maxRecDepth 100000
open Go.Lib (hid)
namespace Go.Proofs.YtplcfdnfeclpmaaGreatDoor
open Go.RowKit Go.Deep Go.Joins
section
variable {w : World} {B z : Nat} {T : Nat → Prop} {v m : Mc} {p : Pt} {rv : Value} {R : List Rec}
theorem Ow.drop {k:Nat} (h:Ow { m with ov:=.slice none 0 0 } z k):Ow m z k:=by
 rcases h with h | h | h | h | h
 ·exact .inl h
 ·exact .inr (.inl h)
 ·exact .inr (.inr (.inl h))
 ·cases h
 ·exact .inr (.inr (.inr (.inr h)))
theorem Rn.of (K:MS w B z m p) (s:Same v m) (hT:∀ k,Ow m z k→T k∧rv.ownBlock≠some k) (rc:w.ownsRow B 65 3 rv R.length (oC R)) (rt:∀ k,rv.ownBlock=some k→T k):Rn w B z T v p rv R:=by
 have hb:MBox (w.setRow z (mcC { m with ov:=.slice none 0 0 })) z { m with ov:=.slice none 0 0 }:=setRow_heap w z _ _ 42 (0,0) K.box;have hk:=K.newO (m':={ m with ov:=.slice none 0 0 }) (O:=[]) rfl rfl rfl (zgO w z (mcC { m with ov:=.slice none 0 0 })) hb (World.ownsRow_nil _ _ _ _);exact ⟨⟨m,m.ov,s,K.box,hk,fun k h=>hT k h.drop⟩,rc,rt⟩
theorem Rn.clear (K:Rn w B z T v p rv R):∃ cs,(Instr.storeAt 40 (.pointer (some ⟨z,78,none⟩)) (.slice none 0 0)).run Tryz.prog w=.ok () (w.setRow z cs)∧Ms (w.setRow z cs) B z v { p with O:=[] } (fun k=>T k∧rv.ownBlock≠some k)∧(w.setRow z cs).ownsRow B 65 3 rv R.length (oC R)∧zar w (w.setRow z cs) T:=by
 obtain ⟨⟨m,x,s1,s2,s3,s4⟩,rc,rt⟩:=K;have hz:T z:=(s4 z (.inl rfl)).1;exact ⟨_,s2.store_o none 0 0,⟨{ m with ov:=.slice none 0 0 },⟨fun q' n c' a b d=>s1.s q' n c' a b d⟩,s3,s4⟩,zbd rc s2 (by decide) _,(zgO w z _).mono fun k _ hk=>hk ▸ hz⟩
theorem Rn.more (ty:TypeId) {p1:Pt} (K:Ms w B z v p1 (fun k=>T k∧rv.ownBlock≠some k)) (rc:w.ownsRow B 65 3 rv R.length (oC R)) (rt:∀ k,rv.ownBlock=some k→T k) (hB:B≤w.heap.size) (up:∀ x,w.heap.size≤x→T x) (h1:p1.O.length≤1) (hO:(R.length+1)*32≤140737488355328) :
  ∃ ov rv' w',(Instr.loadAt 40 (.pointer (some ⟨z,78,none⟩))).run Tryz.prog w=.ok ov w∧(Builtin.append_ #[40,40] ty #[rv,ov]).run Tryz.prog w=.ok rv' w'∧Rn w' B z T v p1 rv' (R ++ p1.O)∧zar w w' T:=by
 obtain ⟨m,s1,s2,s3⟩:=K;obtain ⟨F,D,M,O⟩:=p1;simp only at h1 ⊢
 match O,h1 with
 | [],_ =>
  refine ⟨m.ov,rv,w,s2.box.load_o,zqJ w ty rc s2.o,?_,zar.refl w T⟩
  rw [List.append_nil];exact Rn.of s2 s1 s3 rc rt
 | [r],_ =>
  obtain ⟨q,c,rfl⟩:=zb7 rc;have ho:w.ownsRow B 65 3 m.ov 1 (oC [r]):=s2.o;rcases ho.2 with ⟨_,e0⟩ | ⟨g,cap,cur,e,hbg,hg,hnc,hcm,hcs,htake⟩
  ·cases e0
  have ho2:=ho;rw [e] at ho2
  have hr:∀ (j:Nat) u,([.int .u64 r.1,.int .i64 r.2.1,.string r.2.2]:List Value)[j]?=some u→w.cell? ((⟨g,0,none⟩:Addr).add j)=some u:=fun j u hu=>by
   have hj:j<1*3:=(List.getElem?_eq_some_iff.1 hu).1;rw [zdE,Nat.zero_add,ho2.cellAt j hj];exact hu
  obtain ⟨q',c',w',hrun,ho',ht,hn⟩:=zxF w ty (a:=⟨g,0,none⟩) (c2:=cap) rc hr hB hO;refine ⟨m.ov,_,w',s2.box.load_o,by rw [e];exact hrun,?_,ht.mono fun k _ hk=>rt k hk.symm⟩
  have k2:MS w' B z m ⟨F,D,M,[r]⟩:=s2.keep fun k hk=>ht.block k (s2.lt hk).2 fun e=>(s3 k hk).2 e.symm
  refine Rn.of k2 s1 (fun k hk=>⟨(s3 k hk).1,fun e=>?_⟩) (by rw [List.length_append];exact ho') fun k hk=>?_
  ·rcases hn k e with h | h
   ·exact (s3 k hk).2 h.symm
   ·have:=(s2.lt hk).2;omega
  ·rcases hn k hk with h | h
   ·exact rt k h.symm
   ·exact up k h
 | _ :: _ :: _,h=>simp only [List.length_cons] at h;omega
end
structure Ri (W w:World) (B z:Nat) (T:Nat→Prop) (s:Mc × Pt × List Rec) (rv:Value):Prop where
 rn:Rn w B z T s.1 s.2.1 rv s.2.2
 t:zar W w T
theorem zic (B z:Nat) (T:Nat→Prop) (v:Mc) (p:Pt) (n:Nat) (W:World) (K:Ms W B z v p T) (hB:B≤W.heap.size) (up:∀ x,W.heap.size≤x→T x) (V:VOk v p) (hn:n≤1048576) (hO:(p.O.length+n+1)*32≤140737488355328) (hL:De.Laid W) (hlo:∀ x,x<12→¬ T x):Calls Tryz.prog 33 #[.pointer (some ⟨z,0,none⟩),.int .i64 n] W fun e W'=>e=.returned (.tuple #[])∧Ch W W' B z T (rnN n (v,p,p.O)).1 { (rnN n (v,p,p.O)).2.1 with O:=(rnN n (v,p,p.O)).2.2 }:=by
 obtain ⟨r0,l0,K0⟩:=Rn.start K;have L0:=hid l0;have Q0:Hid (Ri W W B z T (rnN 0 (v,p,p.O)) r0):=hid ⟨K0,zar.refl W T⟩;have VN:=hid (fun k=>zei (s:=(v,p,p.O)) V k);have LN:=hid (fun k=>zf5 (s:=(v,p,p.O)) V k);have HH:=hid (And.intro hB (And.intro up (And.intro hL hlo)));have HO:=hid hO;have hlen:(rnN 0 (v,p,p.O)).2.2.length=p.O.length:=rfl;clear K l0 K0 V hB up hL hlo hO hlen;generalize hs:(v,p,p.O)=s at Q0 VN LN ⊢;have HS:=hid (show s.2.2.length=p.O.length by rw [← hs]);clear hs;go_enter Tryz.func33,Tryz.ntmps33;go_upto_region 1 with (with_reducible refine zaa rfl rfl L0.out rfl ?_);go_wp2_with fail
 go_loopw [4,10] (fun r i wr=>∃ (k:Nat) (rv:Value),k≤n∧rv=r∧i=.int .i64 k∧Hid (Ri W wr B z T (rnN k s) rv)) (fun _ i _=>n - (intOf i).toNat)
 case atStart=>exact ⟨0,r0,by omega,rfl,rfl,Q0⟩
 case round =>
  obtain ⟨k,rv,hk,rfl,rfl,QQ⟩:=hrel
  by_cases hlt:k<n
  ·have g1:decide ((k:Int)<n)=true:=decide_eq_true (by omega)
   obtain ⟨cs,hst,K1,rc1,t1⟩:=QQ.out.rn.clear;have ST:=hid hst;have V0:=(VN.out k).noO [];have t0:=QQ.out.t.trans t1;have hw:W.heap.size≤(wr.setRow z cs).heap.size:=t0.size;have rt0:=QQ.out.rn.rt;have C2:=hid (zn8 B z (fun x=>T x∧rv.ownBlock≠some x) (rnN k s).1 { (rnN k s).2.1 with O:=[] } (wr.setRow z cs) K1 (Nat.le_trans HH.out.1 hw) (fun x hx=>⟨HH.out.2.1 x (Nat.le_trans hw hx),fun e=>by have:=(zcm rc1 e).2;omega⟩) V0 (show (0+1)*32≤140737488355328 by decide) (HH.out.2.2.1.touch t0 HH.out.2.2.2) (fun x hx h=>HH.out.2.2.2 x hx h.1));have h1:(hsM (rnN k s).1 { (rnN k s).2.1 with O:=[] }).2.O.length≤1:=by have:=zk0 V0;simpa using this
   have hR:((rnN k s).2.2.length+1)*32≤140737488355328:=by
    have a:=LN.out k;rw [HS.out] at a;exact Nat.le_trans (Nat.mul_le_mul_right 32 (show (rnN k s).2.2.length+1≤p.O.length+n+1 by omega)) HO.out
   have hnx:rnN (k+1) s=((hsM (rnN k s).1 { (rnN k s).2.1 with O:=[] }).1,(hsM (rnN k s).1 { (rnN k s).2.1 with O:=[] }).2,(rnN k s).2.2 ++ (hsM (rnN k s).1 { (rnN k s).2.1 with O:=[] }).2.O):=rfl;have HX:=hid hnx;clear hnx;generalize hsM (rnN k s).1 { (rnN k s).2.1 with O:=[] }=u at C2 h1 HX;generalize (rnN k s).2.2=R at rc1 hR HX;have X1:=hid (And.intro rc1 (And.intro t0 (And.intro rt0 (And.intro h1 hR))));clear hst K1 rc1 t1 V0 t0 rt0 h1 hR QQ Q0 hw;generalize wr.setRow z cs=w1 at ST C2 X1;go_upto_region 5 with (first | (with_reducible refine zam rfl rfl ST.out rfl rfl ?_) | (go_at_call 10;(with_reducible refine C2.out.mono ?_);rintro e w2 ⟨rfl,hch⟩;have CH:=hid hch;clear hch));obtain ⟨rc1,t0,rt0,h1,hR⟩:=X1.out;have hw2:W.heap.size≤w2.heap.size:=Nat.le_trans t0.size CH.out.2.size;have rc2:=zbR rc1 fun g hg=>CH.out.2.block g (zcm rc1 hg).2 fun h=>h.2 hg
   obtain ⟨ov,rv',w3,hl,ha,hrn,ht⟩:=Rn.more 40 CH.out.1 rc2 rt0 (Nat.le_trans HH.out.1 hw2) (fun x hx=>HH.out.2.1 x (Nat.le_trans hw2 hx)) h1 hR;have HL:=hid hl;have HA:=hid ha
   have Q3:Hid (Ri W w3 B z T (rnN (k+1) s) rv'):=hid (by
    rw [HX.out];exact ⟨hrn,(t0.trans (CH.out.2.mono fun x _ hx=>hx.1)).trans ht⟩)
   clear rc1 t0 rt0 h1 hR hw2 rc2 hl ha hrn ht X1 C2 ST CH HX;go_wp2_with (first | (with_reducible refine zaa rfl rfl HL.out rfl ?_) | (at_builtin;(refine zf8 rfl _ _ 40 rfl _ _ _ rfl rfl _ HA.out ?_)));exact ⟨⟨k+1,rv',by omega,rfl,by go_num,Q3⟩,by simp [intOf];omega⟩
  ·have hkn:k=n:=by omega
   subst hkn;obtain ⟨q,c,cs,rfl,hst,hch⟩:=QQ.out.rn.done;have ST:=hid hst;have CH:=hid (hch.before QQ.out.t);have g1:decide ((k:Int)<k)=false:=decide_eq_false (by omega);clear hst hch QQ Q0;go_wp2_with (with_reducible refine zam rfl rfl ST.out rfl rfl ?_)
   go_end0
   exact ⟨rfl,CH.out⟩
end Go.Proofs.YtplcfdnfeclpmaaGreatDoor
namespace Go.Proofs.YtplcfdnfeclpmaaGreatDoor
open Go.RowKit Go.Deep Go.Joins
def gvF (b:Bd) (F:List ByteArray) (d:Int) (s:ByteArray):Bd × List ByteArray × Bool :=
 if d=1∧b.inn.size+s.size≤1024 then ({ b with inn:=b.inn ++ s },F,true) else
 if d=2∧0<s.size∧s.size≤64∧F.length<64 then (b,F ++ [s],true) else
 (b,F,false)
theorem Box.ld_inn {w:World} {g n c:Nat} {p:Option Addr} {b:Bd} (k:Box w g (b.at p n c)):(Instr.loadAt 9 (.pointer (some ⟨g,2,none⟩))).run Tryz.prog w=.ok (.string b.inn) w:=k.load_inn
theorem Box.ld_fr {w:World} {g n c:Nat} {p:Option Addr} {b:Bd} (k:Box w g (b.at p n c)):(Instr.loadAt 28 (.pointer (some ⟨g,9,none⟩))).run Tryz.prog w=.ok (.slice p n c) w:=k.load_fr
theorem Box.cl_fr {w:World} {g n c:Nat} {p:Option Addr} {b:Bd} (k:Box w g (b.at p n c)):w.cell? ⟨g,9,none⟩=some (.slice p n c):=k.cell_fr
theorem zyr (b:Bd) (F:List ByteArray) (d:Int) (s:ByteArray) (W:World) (hf:FAt W (.slice b.fp b.fn b.fc) F) (hF:F.length≤8796093022208) (h1:(d==1)=false) (h2:(d==2)=false):Calls Tryz.prog 61 #[bdV b,.int .i64 d,.string s] W (Told W (b) (F) (fun x=>.tuple #[x,.bool false])):=by
 have HFR:=hid hf;have HFL:=hid hF;clear hf hF;go_enter Tryz.func61,Tryz.ntmps61;go_upto_region 1 with (fail);have X:=hid (KA.new W b);generalize (W.alloc (bdO b)).alloc zai=wx at X ⊢;go_wp2_with (first | (with_reducible refine zaa rfl rfl (Box.load X.out.own) rfl ?_) | (go_at_call 57;(with_reducible refine (zaU b F _ (HFR.out.next X.out.below) HFL.out).mono ?_);rintro e w2 ⟨p,cap,rfl,ho,k2⟩;have HO:=hid (ho.base X.out.below.size);have X:=hid (X.out.next k2);clear ho k2) | (with_reducible refine zas X.out.own rfl rfl rfl rfl ?_;intro wy hwy;have HO:=hid (HO.out.put X.out.own hwy);have X:=hid (X.out.put hwy);clear hwy) | (with_reducible refine zas X.out.res rfl rfl rfl rfl ?_;intro wy hwy;have HO:=hid (HO.out.put X.out.res hwy);have X:=hid (X.out.tell hwy);clear hwy));exact bodyPost_ret (v:=.tuple #[bdV (b.at p F.length cap),.bool false]) (za9 Tryz.results61 _ _ (W.heap.size+1) _ _ rfl X.out.res rfl) rfl ⟨p,cap,rfl,HO.out,X.out.below⟩
theorem zsV (b:Bd) (F:List ByteArray)  (s:ByteArray) (W:World) (hf:FAt W (.slice b.fp b.fn b.fc) F) (hF:F.length≤8796093022208) (hi:b.inn.size≤1024) (h:¬ b.inn.size+s.size≤1024):Calls Tryz.prog 61 #[bdV b,.int .i64 1,.string s] W (Told W (b) (F) (fun x=>.tuple #[x,.bool false])):=by
 have HFR:=hid hf;have HFL:=hid hF;clear hf hF;have hw:wrap64 (1024 - (b.inn.size:Int))=1024 - (b.inn.size:Int):=by unfold wrap64;omega
 have hd:decide (1024 - (b.inn.size:Int)<s.size)=true:=decide_eq_true (by omega);clear hi h;go_enter Tryz.func61,Tryz.ntmps61;go_upto_region 1 with (fail);have X:=hid (KA.new W b);generalize (W.alloc (bdO b)).alloc zai=wx at X ⊢;go_wp2_with (first | (with_reducible refine zaa rfl rfl (Box.load X.out.own) rfl ?_) | (go_at_call 57;(with_reducible refine (zaU b F _ (HFR.out.next X.out.below) HFL.out).mono ?_);rintro e w2 ⟨p,cap,rfl,ho,k2⟩;have HO:=hid (ho.base X.out.below.size);have X:=hid (X.out.next k2);clear ho k2) | (with_reducible refine zas X.out.own rfl rfl rfl rfl ?_;intro wy hwy;have HO:=hid (HO.out.put X.out.own hwy);have X:=hid (X.out.put hwy);clear hwy) | (with_reducible refine zas X.out.res rfl rfl rfl rfl ?_;intro wy hwy;have HO:=hid (HO.out.put X.out.res hwy);have X:=hid (X.out.tell hwy);clear hwy) | (with_reducible refine zaa rfl rfl (Box.ld_inn X.out.own) rfl ?_));exact bodyPost_ret (v:=.tuple #[bdV (b.at p F.length cap),.bool false]) (za9 Tryz.results61 _ _ (W.heap.size+1) _ _ rfl X.out.res rfl) rfl ⟨p,cap,rfl,HO.out,X.out.below⟩
theorem znA (b:Bd) (F:List ByteArray)  (s:ByteArray) (W:World) (hf:FAt W (.slice b.fp b.fn b.fc) F) (hF:F.length≤8796093022208) (hi:b.inn.size≤1024) (h:b.inn.size+s.size≤1024):Calls Tryz.prog 61 #[bdV b,.int .i64 1,.string s] W (Told W ({ b with inn:=b.inn ++ s }) (F) (fun x=>.tuple #[x,.bool true])):=by
 have HFR:=hid hf;have HFL:=hid hF;clear hf hF;have hw:wrap64 (1024 - (b.inn.size:Int))=1024 - (b.inn.size:Int):=by unfold wrap64;omega
 have hd:decide (1024 - (b.inn.size:Int)<s.size)=false:=decide_eq_false (by omega);have hs1:¬ (9223372036854775807<(b.inn.size:Int)+s.size):=by omega
 have hs2:¬ (9223372036854775807<b.inn.size+s.size):=by omega
 have hs3:b.inn.size+s.size≤9223372036854775807:=by omega
 clear hi;go_enter Tryz.func61,Tryz.ntmps61;go_upto_region 1 with (fail);have X:=hid (KA.new W b);generalize (W.alloc (bdO b)).alloc zai=wx at X ⊢;go_wp2_with (first | (with_reducible refine zaa rfl rfl (Box.load X.out.own) rfl ?_) | (go_at_call 57;(with_reducible refine (zaU b F _ (HFR.out.next X.out.below) HFL.out).mono ?_);rintro e w2 ⟨p,cap,rfl,ho,k2⟩;have HO:=hid (ho.base X.out.below.size);have X:=hid (X.out.next k2);clear ho k2) | (with_reducible refine zas X.out.own rfl rfl rfl rfl ?_;intro wy hwy;have HO:=hid (HO.out.put X.out.own hwy);have X:=hid (X.out.put hwy);clear hwy) | (with_reducible refine zas X.out.res rfl rfl rfl rfl ?_;intro wy hwy;have HO:=hid (HO.out.put X.out.res hwy);have X:=hid (X.out.tell hwy);clear hwy) | (with_reducible refine zaa rfl rfl (Box.ld_inn X.out.own) rfl ?_) | (with_reducible refine Box.w_inn X.out.own rfl rfl rfl rfl ?_;intro wy hwy;have HO:=hid (HO.out.put X.out.own hwy);have X:=hid (X.out.put hwy);clear hwy));exact bodyPost_ret (v:=.tuple #[bdV ({ (b.at p F.length cap) with inn:=b.inn ++ s }),.bool true]) (za9 Tryz.results61 _ _ (W.heap.size+1) _ _ rfl X.out.res rfl) rfl ⟨p,cap,rfl,HO.out,X.out.below⟩
theorem zre (b:Bd) (F:List ByteArray)  (s:ByteArray) (W:World) (hf:FAt W (.slice b.fp b.fn b.fc) F) (hF:F.length≤8796093022208) (h:¬ (0<s.size∧s.size≤64∧F.length<64)):Calls Tryz.prog 61 #[bdV b,.int .i64 2,.string s] W (Told W (b) (F) (fun x=>.tuple #[x,.bool false])):=by
 have HFR:=hid hf;have HFL:=hid hF;clear hf hF;have hin:=zeB s
 by_cases a1:0<s.size
 ·have e0:s.toList.isEmpty=false:=by rw [decide_eq_true a1] at hin;simpa using hin
  have e1:s.toList≠[]:=by rw [List.isEmpty_eq_false_iff] at e0;exact e0
  clear hin
  by_cases a2:s.size≤64
  ·have d1:decide (64<s.size)=false:=decide_eq_false (by omega);have d1i:decide ((64:Int)<s.size)=false:=decide_eq_false (by omega)
   have d2:decide (64≤F.length)=true:=decide_eq_true (by omega);have d2i:decide ((64:Int)≤F.length)=true:=decide_eq_true (by omega);clear h a1 a2;go_enter Tryz.func61,Tryz.ntmps61;go_upto_region 1 with (fail);have X:=hid (KA.new W b);generalize (W.alloc (bdO b)).alloc zai=wx at X ⊢;go_upto_region 9 with (first | (with_reducible refine zaa rfl rfl (Box.load X.out.own) rfl ?_) | (go_at_call 57;(with_reducible refine (zaU b F _ (HFR.out.next X.out.below) HFL.out).mono ?_);rintro e w2 ⟨p,cap,rfl,ho,k2⟩;have HO:=hid (ho.base X.out.below.size);have X:=hid (X.out.next k2);clear ho k2) | (with_reducible refine zas X.out.own rfl rfl rfl rfl ?_;intro wy hwy;have HO:=hid (HO.out.put X.out.own hwy);have X:=hid (X.out.put hwy);clear hwy) | (with_reducible refine zas X.out.res rfl rfl rfl rfl ?_;intro wy hwy;have HO:=hid (HO.out.put X.out.res hwy);have X:=hid (X.out.tell hwy);clear hwy));have m_fr:=X.out.own.cl_fr
   go_wp2_with (first | (with_reducible refine zaa rfl rfl (Box.load X.out.own) rfl ?_) | (go_at_call 57;(with_reducible refine (zaU b F _ (HFR.out.next X.out.below) HFL.out).mono ?_);rintro e w2 ⟨p,cap,rfl,ho,k2⟩;have HO:=hid (ho.base X.out.below.size);have X:=hid (X.out.next k2);clear ho k2) | (with_reducible refine zas X.out.own rfl rfl rfl rfl ?_;intro wy hwy;have HO:=hid (HO.out.put X.out.own hwy);have X:=hid (X.out.put hwy);clear hwy) | (with_reducible refine zas X.out.res rfl rfl rfl rfl ?_;intro wy hwy;have HO:=hid (HO.out.put X.out.res hwy);have X:=hid (X.out.tell hwy);clear hwy));exact bodyPost_ret (v:=.tuple #[bdV (b.at p F.length cap),.bool false]) (za9 Tryz.results61 _ _ (W.heap.size+1) _ _ rfl X.out.res rfl) rfl ⟨p,cap,rfl,HO.out,X.out.below⟩
  ·have d1:decide (64<s.size)=true:=decide_eq_true (by omega);have d1i:decide ((64:Int)<s.size)=true:=decide_eq_true (by omega)
   clear h a1 a2;go_enter Tryz.func61,Tryz.ntmps61;go_upto_region 1 with (fail);have X:=hid (KA.new W b);generalize (W.alloc (bdO b)).alloc zai=wx at X ⊢;go_wp2_with (first | (with_reducible refine zaa rfl rfl (Box.load X.out.own) rfl ?_) | (go_at_call 57;(with_reducible refine (zaU b F _ (HFR.out.next X.out.below) HFL.out).mono ?_);rintro e w2 ⟨p,cap,rfl,ho,k2⟩;have HO:=hid (ho.base X.out.below.size);have X:=hid (X.out.next k2);clear ho k2) | (with_reducible refine zas X.out.own rfl rfl rfl rfl ?_;intro wy hwy;have HO:=hid (HO.out.put X.out.own hwy);have X:=hid (X.out.put hwy);clear hwy) | (with_reducible refine zas X.out.res rfl rfl rfl rfl ?_;intro wy hwy;have HO:=hid (HO.out.put X.out.res hwy);have X:=hid (X.out.tell hwy);clear hwy));exact bodyPost_ret (v:=.tuple #[bdV (b.at p F.length cap),.bool false]) (za9 Tryz.results61 _ _ (W.heap.size+1) _ _ rfl X.out.res rfl) rfl ⟨p,cap,rfl,HO.out,X.out.below⟩
 ·have e0:s.toList.isEmpty=true:=by rw [decide_eq_false a1] at hin;simpa using hin
  have e1:s.size=0:=by omega
  clear hin h a1;go_enter Tryz.func61,Tryz.ntmps61;go_upto_region 1 with (fail);have X:=hid (KA.new W b);generalize (W.alloc (bdO b)).alloc zai=wx at X ⊢;go_wp2_with (first | (with_reducible refine zaa rfl rfl (Box.load X.out.own) rfl ?_) | (go_at_call 57;(with_reducible refine (zaU b F _ (HFR.out.next X.out.below) HFL.out).mono ?_);rintro e w2 ⟨p,cap,rfl,ho,k2⟩;have HO:=hid (ho.base X.out.below.size);have X:=hid (X.out.next k2);clear ho k2) | (with_reducible refine zas X.out.own rfl rfl rfl rfl ?_;intro wy hwy;have HO:=hid (HO.out.put X.out.own hwy);have X:=hid (X.out.put hwy);clear hwy) | (with_reducible refine zas X.out.res rfl rfl rfl rfl ?_;intro wy hwy;have HO:=hid (HO.out.put X.out.res hwy);have X:=hid (X.out.tell hwy);clear hwy));exact bodyPost_ret (v:=.tuple #[bdV (b.at p F.length cap),.bool false]) (za9 Tryz.results61 _ _ (W.heap.size+1) _ _ rfl X.out.res rfl) rfl ⟨p,cap,rfl,HO.out,X.out.below⟩
theorem zvL (b:Bd) (F:List ByteArray)  (s:ByteArray) (W:World) (hf:FAt W (.slice b.fp b.fn b.fc) F) (hF:F.length≤8796093022208) (a1:0<s.size) (a2:s.size≤64) (a3:F.length<64):Calls Tryz.prog 61 #[bdV b,.int .i64 2,.string s] W (Told W (b) (F ++ [s]) (fun x=>.tuple #[x,.bool true])):=by
 have HFR:=hid hf;have HFL:=hid hF;clear hf hF;have hin:=zeB s;have e0:s.toList.isEmpty=false:=by rw [decide_eq_true a1] at hin;simpa using hin
 have e1:s.toList≠[]:=by rw [List.isEmpty_eq_false_iff] at e0;exact e0
 have d1:decide (64<s.size)=false:=decide_eq_false (by omega);have d1i:decide ((64:Int)<s.size)=false:=decide_eq_false (by omega);have d2:decide (64≤F.length)=false:=decide_eq_false (by omega);have d2i:decide ((64:Int)≤F.length)=false:=decide_eq_false (by omega);clear hin a1 a2;go_enter Tryz.func61,Tryz.ntmps61;go_upto_region 1 with (fail);have X:=hid (KA.new W b);generalize (W.alloc (bdO b)).alloc zai=wx at X ⊢;go_upto_region 9 with (first | (with_reducible refine zaa rfl rfl (Box.load X.out.own) rfl ?_) | (go_at_call 57;(with_reducible refine (zaU b F _ (HFR.out.next X.out.below) HFL.out).mono ?_);rintro e w2 ⟨p,cap,rfl,ho,k2⟩;have HO:=hid (ho.base X.out.below.size);have X:=hid (X.out.next k2);clear ho k2) | (with_reducible refine zas X.out.own rfl rfl rfl rfl ?_;intro wy hwy;have HO:=hid (HO.out.put X.out.own hwy);have X:=hid (X.out.put hwy);clear hwy) | (with_reducible refine zas X.out.res rfl rfl rfl rfl ?_;intro wy hwy;have HO:=hid (HO.out.put X.out.res hwy);have X:=hid (X.out.tell hwy);clear hwy));have m_fr:=X.out.own.cl_fr;go_upto_region 11 with (fail);clear m_fr;have Xa:=hid (X.out.next (zah wy (.cells #[.string s] 9)));have HOa:=hid (HO.out.next (zah wy (.cells #[.string s] 9)));obtain ⟨i,hi,hz,hs,hb⟩:=zib
 obtain ⟨v',w2',hrun,ho2,hgr,_⟩:=run_append_own (P:=Tryz.prog) (wy.alloc (.cells #[.string s] 9)) W.heap.size 28 28 9 i (.string .empty) 1 16 Tryz.underlying28 hi hz hs hb rfl (by omega) (.slice p F.length cap) F.length (sC F) HOa.out ⟨wy.heap.size,0,none⟩ 1 1 [.string s] rfl (fun j u hj=>by
  match j,hj with
  | 0,hj=>cases hj;rw [zdE,World.cell?_alloc_new];rfl) (by simp [Value.oneCell']) (by unfold maxLen;omega) (by omega) Xa.out.below.size
 obtain ⟨p2,cap2,rfl⟩:=zb7 ho2;have ht:zar (wy.alloc (.cells #[.string s] 9)) w2' (fun k=>some k=(Value.slice p F.length cap).ownBlock):=⟨hgr.os,hgr.tape,hgr.output,hgr.size,fun k hk hne=>hgr.block k hk hne⟩;have nb1:∀ {g:Nat} {q:Bd},Box (wy.alloc (.cells #[.string s] 9)) g q→Box w2' g q:=fun hbx=>hbx.touch ht (fun e=>HOa.out.not_box hbx e.symm)
 have X2:=hid (KA.mk (nb1 Xa.out.own) (nb1 Xa.out.res) (zar.below Xa.out.below ht (fun k e=>(zcm HOa.out e.symm).1) Xa.out.below.size));have HO2:Hid (OwnF w2' W.heap.size (.slice p2 (F.length+1) cap2) (F ++ [s])):=hid (by unfold OwnF;rw [List.length_append];simpa [sC] using ho2);have HR:=hid hrun;clear hrun ho2 hgr ht nb1 hi hz hs hb i HOa;go_wp2_with (first | (with_reducible first | refine zaa rfl rfl (Box.ld_fr Xa.out.own) rfl ?_ | refine zaa rfl rfl (Box.ld_fr X.out.own) rfl ?_) | (at_builtin;(refine zf8 rfl _ _ 28 rfl _ _ _ rfl rfl _ HR.out ?_)) | (with_reducible refine Box.w_fr X2.out.own rfl rfl rfl rfl ?_;intro wy hwy;have HO:=hid (HO2.out.put X2.out.own hwy);have X:=hid (X2.out.put hwy);clear hwy X2) | (with_reducible refine zaa rfl rfl (Box.load X.out.own) rfl ?_) | (with_reducible refine zas X.out.res rfl rfl rfl rfl ?_;intro wy hwy;have HO:=hid (HO.out.put X.out.res hwy);have X:=hid (X.out.tell hwy);clear hwy));exact bodyPost_ret (v:=.tuple #[bdV ((b.at p F.length cap).at p2 (F.length+1) cap2),.bool true]) (za9 Tryz.results61 _ _ (W.heap.size+1) _ _ rfl X.out.res rfl) rfl ⟨p2,cap2,by rw [List.length_append];rfl,by rw [List.length_append];exact HO.out,X.out.below⟩
theorem zxW (b:Bd) (F:List ByteArray) (d:Int) (s:ByteArray) (W:World) (hf:FAt W (.slice b.fp b.fn b.fc) F) (hF:F.length≤8796093022208) (hi:b.inn.size≤1024):Calls Tryz.prog 61 #[bdV b,.int .i64 d,.string s] W (Told W ((gvF b F d s).1) ((gvF b F d s).2.1) (fun x=>.tuple #[x,.bool (gvF b F d s).2.2])):=by
 by_cases h1:d=1
 ·subst h1
  by_cases h:b.inn.size+s.size≤1024
  ·rw [show gvF b F 1 s=({ b with inn:=b.inn ++ s },F,true) from if_pos ⟨rfl,h⟩]
   exact znA b F s W hf hF hi h
  ·rw [show gvF b F 1 s=(b,F,false) from by unfold gvF;rw [if_neg (fun e=>h e.2),if_neg (fun e=>by omega)]]
   exact zsV b F s W hf hF hi h
 ·by_cases h2:d=2
  ·subst h2
   by_cases h:0<s.size∧s.size≤64∧F.length<64
   ·rw [show gvF b F 2 s=(b,F ++ [s],true) from by unfold gvF;rw [if_neg (fun e=>by omega),if_pos ⟨rfl,h⟩]]
    exact zvL b F s W hf hF h.1 h.2.1 h.2.2
   ·rw [show gvF b F 2 s=(b,F,false) from by unfold gvF;rw [if_neg (fun e=>by omega),if_neg (fun e=>h e.2)]]
    exact zre b F s W hf hF h
  ·rw [show gvF b F d s=(b,F,false) from by unfold gvF;rw [if_neg (fun e=>h1 e.1),if_neg (fun e=>h2 e.1)]]
   exact zyr b F d s W hf hF (beq_eq_false_iff_ne.2 h1) (beq_eq_false_iff_ne.2 h2)
theorem zj9 (b:Bd) (F:List ByteArray) (d:Int) (s:ByteArray) (q:Option Addr) (n c:Nat):gvF (b.at q n c) F d s=((gvF b F d s).1.at q n c,(gvF b F d s).2.1,(gvF b F d s).2.2):=by
 have e:(b.at q n c).inn=b.inn:=rfl;unfold gvF;rw [e]
 by_cases h1:d=1∧b.inn.size+s.size≤1024
 ·rw [if_pos h1,if_pos h1];rfl
 rw [if_neg h1,if_neg h1]
 by_cases h2:d=2∧0<s.size∧s.size≤64∧F.length<64
 ·rw [if_pos h2,if_pos h2]
 rw [if_neg h2,if_neg h2]
def gvM (v:Mc) (p:Pt) (i:Inp):Mc × Pt:=({ v with b:=(gvF v.b p.F i.dev i.s).1 },{ p with F:=(gvF v.b p.F i.dev i.s).2.1 })
theorem Same.gv {a b:Mc} (k:Same a b) (p:Pt) (i:Inp):Same (gvM a p i).1 (gvM b p i).1:=⟨fun q n c x y u=>by
 have h:=k.re;unfold gvM;rw [h];simp only;rw [zj9];rfl⟩
noncomputable def rnM (n:Nat) (v:Mc) (p:Pt):Mc × Pt:=((rnN n (v,p,p.O)).1,{ (rnN n (v,p,p.O)).2.1 with O:=(rnN n (v,p,p.O)).2.2 })
theorem zjD {v:Mc} {p:Pt} (V:VOk v p) (n:Nat):VOk (rnM n v p).1 (rnM n v p).2:=(zei (s:=(v,p,p.O)) V n).noO _
theorem zpo (B z:Nat) (T:Nat→Prop) (v:Mc) (p:Pt) (i:Inp) (n:Nat) (W:World) (K:Ms W B z v p T) (hB:B≤W.heap.size) (up:∀ x,W.heap.size≤x→T x) (V:VOk v p) (hg:i.gap=n) (hn:n≤1048576) (hO:(p.O.length+n+1)*32≤140737488355328) (hL:De.Laid W) (hlo:∀ x,x<12→¬ T x) (hin:(rnM n v p).1.b.inn.size≤1024):Calls Tryz.prog 39 #[.pointer (some ⟨z,0,none⟩),inpV i] W fun e W'=>e=.returned (.tuple #[])∧Ch W W' B z T (gvM (rnM n v p).1 (rnM n v p).2 i).1 (gvM (rnM n v p).1 (rnM n v p).2 i).2:=by
 obtain ⟨id,gap,dev,s⟩:=i;simp only at hg;subst hg;have b0:=zah W (.cells #[.int .u64 id,.int .i64 (n:Int),.int .i64 dev,.string s] 63);have hI:=heap_alloc_last W (.cells #[.int .u64 id,.int .i64 (n:Int),.int .i64 dev,.string s] 63);have C1:=hid (zic B z (fun x=>T x∧x≠W.heap.size) v p n (W.alloc (.cells #[.int .u64 id,.int .i64 (n:Int),.int .i64 dev,.string s] 63)) (K.sep _) (Nat.le_trans hB b0.size) (fun x hx=>⟨up x (Nat.le_trans b0.size hx),fun e=>by have:=hI;subst e;rw [World.size_alloc] at hx;omega⟩) V hn hO (hL.below b0) (fun x hx h=>hlo x hx h.1));have HH:=hid (And.intro hB (And.intro up (And.intro (zjD V n) hin)));have HI:=hid (And.intro b0 hI);have m_g:(W.alloc (.cells #[.int .u64 id,.int .i64 (n:Int),.int .i64 dev,.string s] 63)).cell? ⟨W.heap.size,1,none⟩=some (.int .i64 (n:Int)):=(cell_of_row _ W.heap.size 1 _ 63 (0,0) hI).trans rfl;clear K hB up V hn hO hL hlo hin b0 hI;rw [show (rnN n (v,p,p.O)).1=(rnM n v p).1 from rfl,show ({ (rnN n (v,p,p.O)).2.1 with O:=(rnN n (v,p,p.O)).2.2 }:Pt)=(rnM n v p).2 from rfl] at C1;generalize (rnM n v p).1=v1 at C1 HH ⊢;generalize (rnM n v p).2=p1 at C1 HH ⊢;go_enter Tryz.func39,Tryz.ntmps39;go_upto_region 1 with (fail);go_upto_region 2 with (go_at_call 33;(with_reducible refine C1.out.mono ?_);rintro e w1 ⟨rfl,hch⟩;have CH:=hid hch;clear hch)
 have hI1:w1.heap[W.heap.size]?=some (.cells #[.int .u64 id,.int .i64 (n:Int),.int .i64 dev,.string s] 63 (0,0)):=(CH.out.2.block W.heap.size (by rw [World.size_alloc];omega) fun h=>h.2 rfl).trans HI.out.2;have m_d:=(cell_of_row w1 W.heap.size 2 _ 63 (0,0) hI1).trans (show _=some (Value.int .i64 dev) from rfl);have m_s:=(cell_of_row w1 W.heap.size 3 _ 63 (0,0) hI1).trans (show _=some (Value.string s) from rfl);obtain ⟨m,s1,s2,s3⟩:=CH.out.1;have HM:=hid (And.intro s1 (And.intro s2 s3));have C9:=hid (fun w (h:Below w1.heap.size w1 w)=>zxW m.b p1.F dev s w (s2.next h).fr.rd HH.out.2.2.1.ok.fl (by rw [s1.bd];exact HH.out.2.2.2));have hne:W.heap.size≠z:=fun e=>(s3 z (.inl rfl)).2 e.symm
 have HNE:=hid hne;clear s1 s2 s3 m_g C1 m_d m_s hne;refine dr (fun w=>w.heap[W.heap.size]?=some (.cells #[.int .u64 id,.int .i64 (n:Int),.int .i64 dev,.string s] 63 (0,0))) fun wz hzz=>?_
 have hS:=(hzz.block _ (Array.getElem?_eq_some_iff.1 hI1).1).trans hI1;have HZ:=hid (show Below w1.heap.size w1 wz from hzz);clear hzz hI1;refine tk 0 hS ?_
 refine tk 1 hS ?_
 refine tk 2 hS ?_
 refine tk 3 hS ?_
 refine tk 5 hS ?_
 refine tl 6 hS (fun w hw=>zfm w W.heap.size 2 3 _ _ Tryz.underlying3 rfl ((cell_of_row w W.heap.size 2 _ 63 (0,0) hw).trans (show _=some (Value.int .i64 dev) from rfl))) ?_
 refine tk 7 hS ?_
 refine tl 8 hS (fun w hw=>zfm w W.heap.size 3 9 _ _ Tryz.underlying9 rfl ((cell_of_row w W.heap.size 3 _ 63 (0,0) hw).trans (show _=some (Value.string s) from rfl))) ?_
 refine hl 4 ((HM.out.2.1.next HZ.out).box.load_b) hS ?_
 refine hc 9 (R:=fun u wb=>∃ q c,u=.tuple #[bdV ((gvF m.b p1.F dev s).1.at q (gvF m.b p1.F dev s).2.1.length c),.bool (gvF m.b p1.F dev s).2.2]∧OwnF wb wz.heap.size (.slice q (gvF m.b p1.F dev s).2.1.length c) (gvF m.b p1.F dev s).2.1∧Below wz.heap.size wz wb) ((C9.out wz HZ.out).mono fun e wb h=>by
  obtain ⟨q,c,he,h1,h2⟩:=h;exact ⟨_,he,q,c,rfl,h1,h2⟩) ?_
 rintro v' wb ⟨q,c,rfl,hf,kk⟩
 have HF:=hid (And.intro hf kk);refine ⟨(kk.block _ (Array.getElem?_eq_some_iff.1 hS).1).trans hS,fun hS2=>?_⟩
 clear hf kk hS;simp only [puts];refine tk 10 hS2 ?_
 refine tk 11 hS2 ?_
 refine tk 12 hS2 ?_
 refine tk 13 hS2 ?_
 refine tk 14 hS2 ?_
 refine hs 15 ((HM.out.2.1.next (zac HZ.out HF.out.2)).box.store_b ((gvF m.b p1.F dev s).1.at q (gvF m.b p1.F dev s).2.1.length c)) fun wy hw=>?_
 refine ⟨by rw [hw,setRow_other wb z _ _ HNE.out];exact hS2,fun _=>?_⟩
 refine wpAnyH_done (by kernel_rfl) ?_ _
 have HD:=hid (Did.frames (b:=(gvF m.b p1.F dev s).1) (F:=(gvF m.b p1.F dev s).2.1) (HM.out.2.1.next HZ.out) (Nat.le_trans HH.out.1 (Nat.le_trans HI.out.1.size (Nat.le_trans CH.out.2.size HZ.out.size))) HF.out.2 HF.out.1 hw);clear hw hS2;go_wp2_with fail
 go_end0
 refine ⟨rfl,?_⟩
 have hT:∀ x,Ow m z x→T x:=fun x hx=>(HM.out.2.2 x hx).1
 have hup:∀ x,wz.heap.size≤x→T x:=fun x hx=>HH.out.2.1 x (Nat.le_trans HI.out.1.size (Nat.le_trans CH.out.2.size (Nat.le_trans HZ.out.size hx)))
 have D:=HD.out.ch (T:=T) (Same.gv HM.out.1 p1 ⟨id,n,dev,s⟩) hT hup;have e2:(gvF v1.b p1.F dev s).2.1=(gvF m.b p1.F dev s).2.1:=by rw [HM.out.1.bd,zj9]
 have D2:Ch wz wy B z T (gvM v1 p1 ⟨id,n,dev,s⟩).1 (gvM v1 p1 ⟨id,n,dev,s⟩).2:=by
  show Ch wz wy B z T (gvM v1 p1 ⟨id,n,dev,s⟩).1 { p1 with F:=(gvF v1.b p1.F dev s).2.1 }
  rw [e2];exact D
 exact ((D2.before (zb5 HZ.out T)).before (CH.out.2.mono fun x _ hx=>hx.1)).before (zb5 HI.out.1 T)
theorem zzI (s:ByteArray):(zd7 s).size≤s.size:=by
 unfold zd7
 split
 ·rw [ByteArray.size_extract]
  omega
 ·exact Nat.le_refl _
theorem zpE (b:Bd) (F:List ByteArray) (t s n:Int):(ldF b F t s n).2.2.2=true→(ldF b F t s n).1.inn.size≤b.inn.size:=by
 show (fun R:Bd × List ByteArray × Int × Bool=>R.2.2.2=true→R.1.inn.size≤b.inn.size) (ldF b F t s n)
 unfold ldF
 iterate 3 refine zad (fun R:Bd × List ByteArray × Int × Bool=>R.2.2.2=true→R.1.inn.size≤b.inn.size) _ _ _ (fun _=>Nat.le_refl _) ?_
 refine zad (fun R:Bd × List ByteArray × Int × Bool=>R.2.2.2=true→R.1.inn.size≤b.inn.size) _ _ _ (fun _=>zzI _) ?_
 iterate 8 refine zad (fun R:Bd × List ByteArray × Int × Bool=>R.2.2.2=true→R.1.inn.size≤b.inn.size) _ _ _ (fun _=>Nat.le_refl _) ?_
 exact fun h=>by cases h
theorem zy0 (b:Bd) (F:List ByteArray) (t s x:Int):(stF b F t s x).2.2.2.2=true→(stF b F t s x).1.inn=b.inn:=by
 show (fun R:Bd × List ByteArray × Int × ByteArray × Bool=>R.2.2.2.2=true→R.1.inn=b.inn) (stF b F t s x)
 unfold stF
 iterate 10 refine zad (fun R:Bd × List ByteArray × Int × ByteArray × Bool=>R.2.2.2.2=true→R.1.inn=b.inn) _ _ _ (fun _=>rfl) ?_
 exact fun h=>by cases h
theorem ziF (b:Bd) (F:List ByteArray) (E:Int) (D:List UInt8) (M:List Int) (k:Int) (es:ByteArray):(actF b F E D M k es).b.inn=b.inn:=by
 unfold actF
 repeat' split
 all_goals rfl
theorem zyB (v:Mc) (p:Pt) (t s:Int):(ldM v p t s).1.b.inn.size≤v.b.inn.size:=by
 have h:=zpE v.b p.F t s v.cnt;unfold ldM;refine zad (fun R:Mc × Pt × Int × Bool=>R.1.b.inn.size≤v.b.inn.size) _ _ _ (Nat.le_refl _) ?_
 refine zad (fun R:Mc × Pt × Int × Bool=>R.1.b.inn.size≤v.b.inn.size) _ _ _ ?_ ?_
 ·exact zad (fun R:Mc × Pt × Int × Bool=>R.1.b.inn.size≤v.b.inn.size) _ _ _ (Nat.le_refl _) (Nat.le_refl _)
 ·by_cases g:(ldF v.b p.F t s v.cnt).2.2.2=true
  ·rw [if_pos g];exact h g
  ·rw [if_neg g];exact Nat.le_refl _
theorem zzX (v:Mc) (p:Pt) (k:Int) (es:ByteArray):(acM v p k es).1.b.inn=v.b.inn:=by
 unfold acM;exact zad (fun R:Mc × Pt=>R.1.b.inn=v.b.inn) _ _ _ (ziF _ _ _ _ _ _ _) (ziF _ _ _ _ _ _ _)
theorem zoK (v:Mc) (p:Pt) (t s x:Int):(stM v p t s x).1.b.inn=v.b.inn:=by
 have h:=zy0 v.b p.F t s x;unfold stM;refine zad (fun R:Mc × Pt × Bool=>R.1.b.inn=v.b.inn) _ _ _ rfl ?_
 refine zad (fun R:Mc × Pt × Bool=>R.1.b.inn=v.b.inn) _ _ _ rfl ?_
 refine zad (fun R:Mc × Pt × Bool=>R.1.b.inn=v.b.inn) _ _ _ ?_ ?_
 ·exact zad (fun R:Mc × Pt × Bool=>R.1.b.inn=v.b.inn) _ _ _ rfl rfl
 ·by_cases g:(stF v.b p.F t s x).2.2.2.2=true
  ·rw [if_pos g]
   refine zad (fun R:Mc × Pt × Bool=>R.1.b.inn=v.b.inn) _ _ _ (h g) ?_
   exact (zzX _ _ _ _).trans (h g)
  ·rw [if_neg g]
theorem One.inn {v:Mc} {p:Pt} {v':Mc} {p':Pt} (o:One v p v' p'):v'.b.inn.size≤v.b.inn.size:=by
 cases o with
 | no x=>exact Nat.le_refl _
 | ld x y t s=>exact zyB (turn v x) p t s
 | st x y t s u hu =>
  have h:=zoK (turn v x) p t s u;show (stM (turn v x) p t s u).1.b.inn.size≤_
  rw [h];exact Nat.le_refl _
theorem zsX {v:Mc} {p:Pt} (V:VOk v p):(hsM v p).1.b.inn.size≤v.b.inn.size:=(One.spR V.h (wk0 (zci v p))).inn
theorem zkG {s:Mc × Pt × List Rec} (V:VOk s.1 s.2.1):∀ n,(rnN n s).1.b.inn.size≤s.1.b.inn.size
 | 0=>Nat.le_refl _
 | n+1=>Nat.le_trans (zsX ((zei V n).noO [])) (zkG V n)
theorem ztA (b:Bd) (F:List ByteArray) (d:Int) (s:ByteArray) (h:b.inn.size≤1024):(gvF b F d s).1.inn.size≤1024:=by
 unfold gvF
 by_cases h1:d=1∧b.inn.size+s.size≤1024
 ·rw [if_pos h1]
  show (b.inn ++ s).size≤1024
  rw [ByteArray.size_append];exact h1.2
 rw [if_neg h1]
 by_cases h2:d=2∧0<s.size∧s.size≤64∧F.length<64
 ·rw [if_pos h2];exact h
 rw [if_neg h2];exact h
abbrev zdp:ByteArray:=⟨#[19,5,80,0]⟩
noncomputable def awD:List UInt8:=spl (List.replicate (1*256) 0) 0 zdp
theorem zg9:awD.length=256:=by decide +kernel
theorem zzM:ldV awD 2147483648 2=1299:=by decide +kernel
theorem zwj:ldV awD 2147483650 2=80:=by decide +kernel
theorem ztD:stE awD.length 2147483648 2=0:=by rw [zg9];decide +kernel
theorem zxx:stE awD.length 2147483650 2=0:=by rw [zg9];decide +kernel
structure AwD (D:List UInt8):Prop where
 lo:ldV D 2147483648 2=1299
 hi:ldV D 2147483650 2=80
 slo:stE D.length 2147483648 2=0
 shi:stE D.length 2147483650 2=0
 len:D.length=256
theorem zmk:AwD awD:=⟨zzM,zwj,ztD,zxx,zg9⟩
def awH:Hart:={ x:=List.replicate 32 0,hx:=List.length_replicate,pc:=2147483648,mode:=3,c:=⟨0,0,0,0,0,0,0,0,0,0,0,0,0,0,0,0⟩,held:=false,rat:=0 }
theorem zxp:HOk awH:=by
 refine ⟨fun n=>?_,⟨by decide,by decide⟩,⟨Al.zao,Al.zao,Al.zao,Al.zao,Al.zao,Al.zao,Al.zao,Al.zao,Al.zao,Al.zao,Al.zao,Al.zao,Al.zao,Al.zao,Al.zao,Al.zao⟩,Al.zao⟩
 have e:xV awH n=0:=by
  unfold xV awH;rw [List.getD_eq_getElem?_getD]
  by_cases h:n.toNat<32
  ·rw [List.getElem?_replicate_of_lt h]
   rfl
  ·rw [List.getElem?_eq_none (by rw [List.length_replicate];omega)]
   rfl
 rw [e];exact Al.zao
theorem zhB:(0:Int)≤0∧(0:Int)≤18446744073709551615:=by decide
theorem zoH (l:Int):Tr.zbm awH l=-1:=by
 unfold Tr.zbm;rw [show Tr.upV awH=false by decide +kernel,show Tr.midV awH=false by decide +kernel]
 simp
theorem zs2 {h:Hart} (D:List UInt8) (t:Int) (hk:3≤Wk.zdA h.c.s0 h.mode 0):fnH h D t 0=(t,true,h):=by
 have e:Wk.zbp D h.c.s0 h.c.s15 h.mode t 0=(t,-1):=by
  unfold Wk.zbp;rw [if_neg (by decide),if_pos hk]
 unfold fnH;rw [e,if_pos rfl]
theorem zia (D:List UInt8) (F:List ByteArray) (M:List Int) (O:List Rec) (t n:Int) (h1:ldV D t 2=n) (h2:stE D.length t 2=0) (ht:¬ t<2147483648):hfH awH ⟨F,D,M,O⟩ t=(n,true,awH):=by
 unfold hfH;rw [zs2 D t (by decide +kernel)]
 have e:mmV ⟨F,D,M,O⟩ t 2=(n,true):=by
  unfold mmV;rw [if_neg ht,if_pos h2,h1]
 simp only;rw [if_neg (by decide),e,if_pos rfl]
theorem zn6:De.pIns 5244179=⟨22,10,0,0,5⟩:=by kernel_rfl
theorem zxk (g:Wk):dcR awH { g with wd:=5244179,np:=2147483652 }=(true,awH,⟨22,10,0,0,5,5244179,2147483652,g.l⟩):=by
 unfold dcR;rw [show ((5244179:Int).toNat)=5244179 from rfl,zn6];rfl
theorem zwO:Tryz.prog.built 27 [(1,.int .u64 2147483648),(2,.int .i64 3)]=some (zap awH):=by kernel_rfl
theorem zyR {P:Program} {ρ:Operand→Value} {o:Oper} {t:TypeId} {i j:Nat} {x y:Operand} {vx vy:Value} {cells:Array Value} {w:World} (ho:o.op=.build t #[(i,x),(j,y)]) (hx:ρ x=vx) (hy:ρ y=vy) (h:P.built t [(i,vx),(j,vy)]=some cells):(execOp ρ o).run P w=.ok (.value (.agg cells)) w:=by
 simp [execOp,ho,hx,hy,run_build w t #[(i,vx),(j,vy)] cells h,Result.andThen]
theorem zeL {w:World} {ops:Array Oper} {rest:List Oper} {o:Oper} {a:Act} {Q:Exit→Act→World→Prop} (hgd:Region.wanted o (yielded ops a.tmps)=true) {r:Value} (hrun:(execOp a.eval o).run Tryz.prog w=.ok (.value r) w)
  (h:wpList Tryz.prog ops Q rest (a.put o.dst r) w):wpList Tryz.prog ops Q (o :: rest) a w:=by
 refine wpList_step fun K hK=>?_
 rw [if_pos hgd];unfold Oper.wp;rw [hrun];exact hK _ _ h
theorem zyu {w:World} {g:Nat} {dv mv:Value} (h:w.heap[g]?=some (.cells #[dv,mv,.int .u64 0] 39 (0,0))):(Instr.loadAt 39 (.pointer (some ⟨g,0,none⟩))).run Tryz.prog w=.ok (.agg #[dv,mv,.int .u64 0]) w:=by
 simp only [Instr.loadAt,Instr.sureAddr,Sem.run_bind,Sem.run_pure,Result.andThen];exact run_loadVar_row w g 39 39 _ (0,0) _ h Tryz.underlying39 rfl (by kernel_rfl)
abbrev From (N:Nat):Nat→Prop:=fun x=>N≤x
theorem zar.from {W w w':World} (X:Below W.heap.size W w) (t:zar w w' (From W.heap.size)):Below W.heap.size W w':=zar.below X t (fun _ h=>h) X.size
end Go.Proofs.YtplcfdnfeclpmaaGreatDoor
