/- MachineOn, part 44. -/
import Derived.Test.YtplcfdnfeclpmaaGreatDoorV03
import Derived.Test.YtplcfdnfeclpmaaGreatDoorV04
import Derived.Test.YtplcfdnfeclpmaaGreatDoorV23
import Derived.Test.YtplcfdnfeclpmaaGreatDoorV31
import Derived.Test.YtplcfdnfeclpmaaGreatDoorV32
import Derived.Test.YtplcfdnfeclpmaaGreatDoorV43
set_option maxHeartbeats 4000000
set_option maxRecDepth 100000
open Go.Lib (hid)
namespace Go.Proofs.YtplcfdnfeclpmaaGreatDoor
open Go.RowKit Go.Deep Go.Joins
section
variable {w : World} {B z : Nat} {T : Nat → Prop} {v m : Mc} {p : Pt} {rv : Value} {R : List Rec}
theorem Ow.drop {k:Nat} (h:Ow { m with ov:=.slice none 0 0 } z k):Ow m z k:=by
 rcases h with h | h | h | h | h
 ·exact .inl h
 ·exact .inr (.inl h)
 ·exact .inr (.inr (.inl h))
 ·cases h
 ·exact .inr (.inr (.inr (.inr h)))
theorem Rn.of (K:MS w B z m p) (s:Same v m) (hT:∀ k,Ow m z k→T k∧rv.ownBlock≠some k) (rc:w.ownsRow B 65 3 rv R.length (oC R)) (rt:∀ k,rv.ownBlock=some k→T k):Rn w B z T v p rv R:=by
 have hb:MBox (w.setRow z (mcC { m with ov:=.slice none 0 0 })) z { m with ov:=.slice none 0 0 }:=setRow_heap w z _ _ 42 (0,0) K.box;have hk:=K.newO (m':={ m with ov:=.slice none 0 0 }) (O:=[]) rfl rfl rfl (zgr w z (mcC { m with ov:=.slice none 0 0 })) hb (World.ownsRow_nil _ _ _ _);exact ⟨⟨m,m.ov,s,K.box,hk,fun k h=>hT k h.drop⟩,rc,rt⟩
theorem Rn.clear (K:Rn w B z T v p rv R):∃ cs,(Instr.storeAt 40 (.pointer (some ⟨z,78,none⟩)) (.slice none 0 0)).run Tryz.prog w=.ok () (w.setRow z cs)∧Ms (w.setRow z cs) B z v { p with O:=[] } (fun k=>T k∧rv.ownBlock≠some k)∧(w.setRow z cs).ownsRow B 65 3 rv R.length (oC R)∧zau w (w.setRow z cs) T:=by
 obtain ⟨⟨m,x,s1,s2,s3,s4⟩,rc,rt⟩:=K;have hz:T z:=(s4 z (.inl rfl)).1;exact ⟨_,s2.store_o none 0 0,⟨{ m with ov:=.slice none 0 0 },⟨fun q' n c' a b d=>s1.s q' n c' a b d⟩,s3,s4⟩,zbl rc s2 (by decide) _,(zgr w z _).mono fun k _ hk=>hk ▸ hz⟩
theorem Rn.more (ty:TypeId) {p1:Pt} (K:Ms w B z v p1 (fun k=>T k∧rv.ownBlock≠some k)) (rc:w.ownsRow B 65 3 rv R.length (oC R)) (rt:∀ k,rv.ownBlock=some k→T k) (hB:B≤w.heap.size) (up:∀ x,w.heap.size≤x→T x) (h1:p1.O.length≤1) (hO:(R.length+1)*32≤140737488355328) :
  ∃ ov rv' w',(Instr.loadAt 40 (.pointer (some ⟨z,78,none⟩))).run Tryz.prog w=.ok ov w∧(Builtin.append_ #[40,40] ty #[rv,ov]).run Tryz.prog w=.ok rv' w'∧Rn w' B z T v p1 rv' (R ++ p1.O)∧zau w w' T:=by
 obtain ⟨m,s1,s2,s3⟩:=K;obtain ⟨F,D,M,O⟩:=p1;simp only at h1 ⊢
 match O,h1 with
 | [],_ =>
  refine ⟨m.ov,rv,w,s2.box.load_o,zqf w ty rc s2.o,?_,zau.refl w T⟩
  rw [List.append_nil];exact Rn.of s2 s1 s3 rc rt
 | [r],_ =>
  obtain ⟨q,c,rfl⟩:=zch rc;have ho:w.ownsRow B 65 3 m.ov 1 (oC [r]):=s2.o;rcases ho.2 with ⟨_,e0⟩ | ⟨g,cap,cur,e,hbg,hg,hnc,hcm,hcs,htake⟩
  ·cases e0
  have ho2:=ho;rw [e] at ho2
  have hr:∀ (j:Nat) u,([.int .u64 r.1,.int .i64 r.2.1,.string r.2.2]:List Value)[j]?=some u→w.cell? ((⟨g,0,none⟩:Addr).add j)=some u:=fun j u hu=>by
   have hj:j<1*3:=(List.getElem?_eq_some_iff.1 hu).1;rw [zdx,Nat.zero_add,ho2.cellAt j hj];exact hu
  obtain ⟨q',c',w',hrun,ho',ht,hn⟩:=zul w ty (a:=⟨g,0,none⟩) (c2:=cap) rc hr hB hO;refine ⟨m.ov,_,w',s2.box.load_o,by rw [e];exact hrun,?_,ht.mono fun k _ hk=>rt k hk.symm⟩
  have k2:MS w' B z m ⟨F,D,M,[r]⟩:=s2.keep fun k hk=>ht.block k (s2.lt hk).2 fun e=>(s3 k hk).2 e.symm
  refine Rn.of k2 s1 (fun k hk=>⟨(s3 k hk).1,fun e=>?_⟩) (by rw [List.length_append];exact ho') fun k hk=>?_
  ·rcases hn k e with h | h
   ·exact (s3 k hk).2 h.symm
   ·have:=(s2.lt hk).2;omega
  ·rcases hn k hk with h | h
   ·exact rt k h.symm
   ·exact up k h
 | _ :: _ :: _,h=>simp only [List.length_cons] at h;omega
end
structure Ri (W w:World) (B z:Nat) (T:Nat→Prop) (s:Mc × Pt × List Rec) (rv:Value):Prop where
 rn:Rn w B z T s.1 s.2.1 rv s.2.2
 t:zau W w T
theorem zxJ (B z:Nat) (T:Nat→Prop) (v:Mc) (p:Pt) (n:Nat) (W:World) (K:Ms W B z v p T) (hB:B≤W.heap.size) (up:∀ x,W.heap.size≤x→T x) (V:VOk v p) (hn:n≤1048576) (hO:(p.O.length+n+1)*32≤140737488355328) (hL:De.Laid W) (hlo:∀ x,x<12→¬ T x):Calls Tryz.prog 33 #[.pointer (some ⟨z,0,none⟩),.int .i64 n] W fun e W'=>e=.returned (.tuple #[])∧Ch W W' B z T (rnN n (v,p,p.O)).1 { (rnN n (v,p,p.O)).2.1 with O:=(rnN n (v,p,p.O)).2.2 }:=by
 obtain ⟨r0,l0,K0⟩:=Rn.start K;have L0:=hid l0;have Q0:Hid (Ri W W B z T (rnN 0 (v,p,p.O)) r0):=hid ⟨K0,zau.refl W T⟩;have VN:=hid (fun k=>zfH (s:=(v,p,p.O)) V k);have LN:=hid (fun k=>zhU (s:=(v,p,p.O)) V k);have HH:=hid (And.intro hB (And.intro up (And.intro hL hlo)));have HO:=hid hO;have hlen:(rnN 0 (v,p,p.O)).2.2.length=p.O.length:=rfl;clear K l0 K0 V hB up hL hlo hO hlen;generalize hs:(v,p,p.O)=s at Q0 VN LN ⊢;have HS:=hid (show s.2.2.length=p.O.length by rw [← hs]);clear hs;go_enter Tryz.func33,Tryz.ntmps33;go_upto_region 1 with (with_reducible refine zaa rfl rfl L0.out rfl ?_);go_wp2_with fail
 go_loopw [4,10] (fun r i wr=>∃ (k:Nat) (rv:Value),k≤n∧rv=r∧i=.int .i64 k∧Hid (Ri W wr B z T (rnN k s) rv)) (fun _ i _=>n - (intOf i).toNat)
 case atStart=>exact ⟨0,r0,by omega,rfl,rfl,Q0⟩
 case round =>
  obtain ⟨k,rv,hk,rfl,rfl,QQ⟩:=hrel
  by_cases hlt:k<n
  ·have g1:decide ((k:Int)<n)=true:=decide_eq_true (by omega)
   obtain ⟨cs,hst,K1,rc1,t1⟩:=QQ.out.rn.clear;have ST:=hid hst;have V0:=(VN.out k).noO [];have t0:=QQ.out.t.trans t1;have hw:W.heap.size≤(wr.setRow z cs).heap.size:=t0.size;have rt0:=QQ.out.rn.rt;have C2:=hid (zsw B z (fun x=>T x∧rv.ownBlock≠some x) (rnN k s).1 { (rnN k s).2.1 with O:=[] } (wr.setRow z cs) K1 (Nat.le_trans HH.out.1 hw) (fun x hx=>⟨HH.out.2.1 x (Nat.le_trans hw hx),fun e=>by have:=(zcy rc1 e).2;omega⟩) V0 (show (0+1)*32≤140737488355328 by decide) (HH.out.2.2.1.touch t0 HH.out.2.2.2) (fun x hx h=>HH.out.2.2.2 x hx h.1));have h1:(hsM (rnN k s).1 { (rnN k s).2.1 with O:=[] }).2.O.length≤1:=by have:=ziZ V0;simpa using this
   have hR:((rnN k s).2.2.length+1)*32≤140737488355328:=by
    have a:=LN.out k;rw [HS.out] at a;exact Nat.le_trans (Nat.mul_le_mul_right 32 (show (rnN k s).2.2.length+1≤p.O.length+n+1 by omega)) HO.out
   have hnx:rnN (k+1) s=((hsM (rnN k s).1 { (rnN k s).2.1 with O:=[] }).1,(hsM (rnN k s).1 { (rnN k s).2.1 with O:=[] }).2,(rnN k s).2.2 ++ (hsM (rnN k s).1 { (rnN k s).2.1 with O:=[] }).2.O):=rfl;have HX:=hid hnx;clear hnx;generalize hsM (rnN k s).1 { (rnN k s).2.1 with O:=[] }=u at C2 h1 HX;generalize (rnN k s).2.2=R at rc1 hR HX;have X1:=hid (And.intro rc1 (And.intro t0 (And.intro rt0 (And.intro h1 hR))));clear hst K1 rc1 t1 V0 t0 rt0 h1 hR QQ Q0 hw;generalize wr.setRow z cs=w1 at ST C2 X1;go_upto_region 5 with (first | (with_reducible refine zan rfl rfl ST.out rfl rfl ?_) | (go_at_call 10;(with_reducible refine C2.out.mono ?_);rintro e w2 ⟨rfl,hch⟩;have CH:=hid hch;clear hch));obtain ⟨rc1,t0,rt0,h1,hR⟩:=X1.out;have hw2:W.heap.size≤w2.heap.size:=Nat.le_trans t0.size CH.out.2.size;have rc2:=zbW rc1 fun g hg=>CH.out.2.block g (zcy rc1 hg).2 fun h=>h.2 hg
   obtain ⟨ov,rv',w3,hl,ha,hrn,ht⟩:=Rn.more 40 CH.out.1 rc2 rt0 (Nat.le_trans HH.out.1 hw2) (fun x hx=>HH.out.2.1 x (Nat.le_trans hw2 hx)) h1 hR;have HL:=hid hl;have HA:=hid ha
   have Q3:Hid (Ri W w3 B z T (rnN (k+1) s) rv'):=hid (by
    rw [HX.out];exact ⟨hrn,(t0.trans (CH.out.2.mono fun x _ hx=>hx.1)).trans ht⟩)
   clear rc1 t0 rt0 h1 hR hw2 rc2 hl ha hrn ht X1 C2 ST CH HX;go_wp2_with (first | (with_reducible refine zaa rfl rfl HL.out rfl ?_) | (at_builtin;(refine zik rfl _ _ 40 rfl _ _ _ rfl rfl _ HA.out ?_)));exact ⟨⟨k+1,rv',by omega,rfl,by go_num,Q3⟩,by simp [intOf];omega⟩
  ·have hkn:k=n:=by omega
   subst hkn;obtain ⟨q,c,cs,rfl,hst,hch⟩:=QQ.out.rn.done;have ST:=hid hst;have CH:=hid (hch.before QQ.out.t);have g1:decide ((k:Int)<k)=false:=decide_eq_false (by omega);clear hst hch QQ Q0;go_wp2_with (with_reducible refine zan rfl rfl ST.out rfl rfl ?_)
   go_end0
   exact ⟨rfl,CH.out⟩
end Go.Proofs.YtplcfdnfeclpmaaGreatDoor

namespace Go.Proofs.YtplcfdnfeclpmaaGreatDoor
open Go.RowKit Go.Deep Go.Joins
noncomputable def rnM (n:Nat) (v:Mc) (p:Pt):Mc × Pt:=((rnN n (v,p,p.O)).1,{ (rnN n (v,p,p.O)).2.1 with O:=(rnN n (v,p,p.O)).2.2 })
theorem zjE {v:Mc} {p:Pt} (V:VOk v p) (n:Nat):VOk (rnM n v p).1 (rnM n v p).2:=(zfH (s:=(v,p,p.O)) V n).noO _
end Go.Proofs.YtplcfdnfeclpmaaGreatDoor

namespace Go.Proofs.YtplcfdnfeclpmaaGreatDoor
open Go.RowKit Go.Deep Go.Joins
abbrev zdG:ByteArray:=⟨#[19,5,80,0]⟩
noncomputable def awD:List UInt8:=spl (List.replicate (1*256) 0) 0 zdG
theorem zih:awD.length=256:=by decide +kernel
theorem zwz:ldV awD 2147483648 2=1299:=by decide +kernel
theorem zzu:ldV awD 2147483650 2=80:=by decide +kernel
theorem zpk:stE awD.length 2147483648 2=0:=by rw [zih];decide +kernel
theorem zs6:stE awD.length 2147483650 2=0:=by rw [zih];decide +kernel
structure AwD (D:List UInt8):Prop where
 lo:ldV D 2147483648 2=1299
 hi:ldV D 2147483650 2=80
 slo:stE D.length 2147483648 2=0
 shi:stE D.length 2147483650 2=0
 len:D.length=256
theorem zyl:AwD awD:=⟨zwz,zzu,zpk,zs6,zih⟩
def awH:Hart:={ x:=List.replicate 32 0,hx:=List.length_replicate,pc:=2147483648,mode:=3,c:=⟨0,0,0,0,0,0,0,0,0,0,0,0,0,0,0,0⟩,held:=false,rat:=0 }
theorem zqS:HOk awH:=by
 refine ⟨fun n=>?_,⟨by decide,by decide⟩,⟨Al.zap,Al.zap,Al.zap,Al.zap,Al.zap,Al.zap,Al.zap,Al.zap,Al.zap,Al.zap,Al.zap,Al.zap,Al.zap,Al.zap,Al.zap,Al.zap⟩,Al.zap⟩
 have e:xV awH n=0:=by
  unfold xV awH;rw [List.getD_eq_getElem?_getD]
  by_cases h:n.toNat<32
  ·rw [List.getElem?_replicate_of_lt h]
   rfl
  ·rw [List.getElem?_eq_none (by rw [List.length_replicate];omega)]
   rfl
 rw [e];exact Al.zap
theorem zhr:(0:Int)≤0∧(0:Int)≤18446744073709551615:=by decide
theorem zqr (l:Int):Tr.zbq awH l=-1:=by
 unfold Tr.zbq;rw [show Tr.upV awH=false by decide +kernel,show Tr.midV awH=false by decide +kernel]
 simp
theorem zxH {h:Hart} (D:List UInt8) (t:Int) (hk:3≤Wk.zdQ h.c.s0 h.mode 0):fnH h D t 0=(t,true,h):=by
 have e:Wk.zbr D h.c.s0 h.c.s15 h.mode t 0=(t,-1):=by
  unfold Wk.zbr;rw [if_neg (by decide),if_pos hk]
 unfold fnH;rw [e,if_pos rfl]
theorem zjH (D:List UInt8) (F:List ByteArray) (M:List Int) (O:List Rec) (t n:Int) (h1:ldV D t 2=n) (h2:stE D.length t 2=0) (ht:¬ t<2147483648):hfH awH ⟨F,D,M,O⟩ t=(n,true,awH):=by
 unfold hfH;rw [zxH D t (by decide +kernel)]
 have e:mmV ⟨F,D,M,O⟩ t 2=(n,true):=by
  unfold mmV;rw [if_neg ht,if_pos h2,h1]
 simp only;rw [if_neg (by decide),e,if_pos rfl]
theorem zt5:De.pIns 5244179=⟨22,10,0,0,5⟩:=by kernel_rfl
theorem zAj (g:Wk):dcR awH { g with wd:=5244179,np:=2147483652 }=(true,awH,⟨22,10,0,0,5,5244179,2147483652,g.l⟩):=by
 unfold dcR;rw [show ((5244179:Int).toNat)=5244179 from rfl,zt5];rfl
theorem zp0:Tryz.prog.built 27 [(1,.int .u64 2147483648),(2,.int .i64 3)]=some (zai awH):=by kernel_rfl
theorem zoK {P:Program} {ρ:Operand→Value} {o:Oper} {t:TypeId} {i j:Nat} {x y:Operand} {vx vy:Value} {cells:Array Value} {w:World} (ho:o.op=.build t #[(i,x),(j,y)]) (hx:ρ x=vx) (hy:ρ y=vy) (h:P.built t [(i,vx),(j,vy)]=some cells):(execOp ρ o).run P w=.ok (.value (.agg cells)) w:=by
 simp [execOp,ho,hx,hy,run_build w t #[(i,vx),(j,vy)] cells h,Result.andThen]
theorem zf6 {w:World} {ops:Array Oper} {rest:List Oper} {o:Oper} {a:Act} {Q:Exit→Act→World→Prop} (hgd:Region.wanted o (yielded ops a.tmps)=true) {r:Value} (hrun:(execOp a.eval o).run Tryz.prog w=.ok (.value r) w)
  (h:wpList Tryz.prog ops Q rest (a.put o.dst r) w):wpList Tryz.prog ops Q (o :: rest) a w:=by
 refine wpList_step fun K hK=>?_
 rw [if_pos hgd];unfold Oper.wp;rw [hrun];exact hK _ _ h
theorem zy4 {w:World} {g:Nat} {dv mv:Value} (h:w.heap[g]?=some (.cells #[dv,mv,.int .u64 0] 39 (0,0))):(Instr.loadAt 39 (.pointer (some ⟨g,0,none⟩))).run Tryz.prog w=.ok (.agg #[dv,mv,.int .u64 0]) w:=by
 simp only [Instr.loadAt,Instr.sureAddr,Sem.run_bind,Sem.run_pure,Result.andThen];exact run_loadVar_row w g 39 39 _ (0,0) _ h Tryz.underlying39 rfl (by kernel_rfl)
abbrev From (N:Nat):Nat→Prop:=fun x=>N≤x
theorem zau.from {W w w':World} (X:Below W.heap.size W w) (t:zau w w' (From W.heap.size)):Below W.heap.size W w':=zau.below X t (fun _ h=>h) X.size
def zbM (dv mv:Value):Mc:=⟨awH,bdN,dv,mv,0,0,0,.slice none 0 0⟩
theorem zyH (dv mv:Value):Tryz.prog.built 42 [(0,zat awH),(1,bdV bdN),(2,.agg #[dv,mv,.int .u64 0])]=some (mcC (zbM dv mv)):=by kernel_rfl
theorem znt {P:Program} {ρ:Operand→Value} {o:Oper} {t:TypeId} {i j k:Nat} {x y z:Operand} {vx vy vz:Value} {cells:Array Value} {w:World} (ho:o.op=.build t #[(i,x),(j,y),(k,z)]) (hx:ρ x=vx) (hy:ρ y=vy) (hz:ρ z=vz) (h:P.built t [(i,vx),(j,vy),(k,vz)]=some cells):(execOp ρ o).run P w=.ok (.value (.agg cells)) w:=by
 simp [execOp,ho,hx,hy,hz,run_build w t #[(i,vx),(j,vy),(k,vz)] cells h,Result.andThen]
theorem zh4 {fn:Func} {p u:Tmp} (h:fn.results=#[.cell p 42,.tmp u]) (tmps:Array Value) (w:World) (g:Nat) (m:Mc) (v:Value) (hp:tmps.getD p undef=.pointer (some ⟨g,0,none⟩)) (hg:MBox w g m) (hv:tmps.getD u undef=v) :
  (results fn tmps).run Tryz.prog w=.ok (.tuple #[mcV m,v]) w:=by
 have hp':tmps[p]?.getD undef=.pointer (some ⟨g,0,none⟩):=by simpa using hp
 have hv':tmps[u]?.getD undef=v:=by simpa using hv
 have hl:(loadVar 42 ⟨g,0,none⟩).run Tryz.prog w=.ok (mcV m) w:=run_loadVar_row w g 42 42 (mcC m) (0,0) _ hg Tryz.underlying42 rfl (by rw [zgk,zcA])
 simp [results,h,hp',hv',asAddr,hl]
def NewM (W:World) (D:List UInt8) (M:List Int) (e:Ending) (W':World):Prop :=
 ∃ dv mv,e=.returned (.tuple #[mcV (zbM dv mv),.int .i64 0])∧OwnD W' W.heap.size dv D∧OwnM W' W.heap.size mv M∧Below W.heap.size W W'
theorem zzL (n:Nat) (s:ByteArray) (W:World) (h1:1≤n) (h2:n≤256) (hsz:s.size≤n*256):Calls Tryz.prog 31 #[.string s,.int .i64 n] W (NewM W (spl (List.replicate (n*256) 0) 0 s) (List.replicate n 0)):=by
 have C1:=hid (fun w=>zmj n s w h1 h2 hsz);generalize spl (List.replicate (n*256) 0) 0 s=D at C1 ⊢;generalize List.replicate n (0:Int)=M at C1 ⊢;go_enter Tryz.func31,Tryz.ntmps31;go_upto_region 1 with (fail);have X:=hid ((Mem.start W).newM);generalize W.alloc mcZO=wa at X ⊢;go_upto_region 2 with (first | (go_at_call 55;(with_reducible refine (C1.out _).mono ?_);rintro e wb ⟨dv,mv,rfl,hD,hM,kk⟩;have BX:=X.out.below.size;obtain ⟨p1,c1,e1⟩:=zch hD;obtain ⟨p2,c2,e2⟩:=zch hM;subst e1;subst e2;have HD:=hid (zdD hD BX);have HM:=hid (zdD hM BX);have X:=hid (X.out.next kk);clear kk hD hM BX) | (with_reducible refine zan rfl rfl (zcu (heap_alloc_last _ _) (by kernel_rfl)) rfl rfl ?_));have X:=hid ((X.out.newR).p0 (cs':=(ramC (.slice p1 D.length c1) (.slice p2 M.length c2) 0)) rfl);have HD:=hid (show OwnD ((wb.alloc zb3).setRow wb.heap.size (ramC (.slice p1 D.length c1) (.slice p2 M.length c2) 0)) W.heap.size (.slice p1 D.length c1) D from zbl (zcf HD.out (zag wb zb3)) (heap_alloc_last wb zb3) (by decide) (ramC (.slice p1 D.length c1) (.slice p2 M.length c2) 0));have HM:=hid (show OwnM ((wb.alloc zb3).setRow wb.heap.size (ramC (.slice p1 D.length c1) (.slice p2 M.length c2) 0)) W.heap.size (.slice p2 M.length c2) M from zbl (zcf HM.out (zag wb zb3)) (heap_alloc_last wb zb3) (by decide) (ramC (.slice p1 D.length c1) (.slice p2 M.length c2) 0));generalize wb.heap.size=gr at X HD HM ⊢
 generalize (wb.alloc zb3).setRow gr (ramC (.slice p1 D.length c1) (.slice p2 M.length c2) 0)=wc at X HD HM ⊢;have H1:=hid (Mc1.mk (m:=zbM (.slice p1 D.length c1) (.slice p2 M.length c2)) (zdV HD.out) (zdV HM.out) rfl);go_upto_region 5 with (first | ((with_reducible show wpList _ _ _ (⟨some 19,Op.build 27 _,_,_,_,_⟩ :: _) _ _);refine zf6 (by kernel_rfl) (zoK rfl rfl rfl zp0) ?_;simp only [Act.put,List.setIfInBounds_toArray,List.set_cons_zero,List.set_cons_succ]) | (with_reducible refine zan rfl rfl (Tr.zaY _ _ _ awH (heap_alloc_last _ _) (by kernel_rfl)) rfl rfl ?_));have bb:Below wc.heap.size wc ((wc.alloc Tr.zaj).setRow wc.heap.size (zai awH)):=below_setRow (zag wc Tr.zaj) (Nat.le_refl _) _;have gh1:((wc.alloc Tr.zaj).setRow wc.heap.size (zai awH)).heap[wc.heap.size]?=some (.cells (zai awH) 27 (0,0)):=setRow_heap _ wc.heap.size _ (zai awH) 27 (0,0) (heap_alloc_last wc Tr.zaj);have gr1:=(bb.block gr (Array.getElem?_eq_some_iff.1 X.out.g0).1).trans X.out.g0;have gt1:=(bb.block W.heap.size (Array.getElem?_eq_some_iff.1 X.out.g1).1).trans X.out.g1;have G:=hid (And.intro (zcf HD.out bb) (And.intro (zcf HM.out bb) (zac X.out.below bb)));have ne1:wc.heap.size≠W.heap.size:=fun e=>by have:=(Array.getElem?_eq_some_iff.1 X.out.g1).1;omega
 have ne2:gr≠W.heap.size:=fun e=>by
  have h:=X.out.g0;rw [e,X.out.g1] at h;simp only [Option.some.injEq,Obj.cells.injEq] at h;exact absurd h.2.1 (by decide)
 have NE:=hid (And.intro ne1 ne2);clear X HD HM bb ne1 ne2;generalize wc.heap.size=gh at gh1 gr1 gt1 G NE ⊢;generalize (wc.alloc Tr.zaj).setRow gh (zai awH)=wd at gh1 gr1 gt1 G ⊢;have GT:=hid gt1;refine dr (fun w=>w.heap[gh]?=some (.cells (zai awH) 27 (0,0))∧w.heap[gr]?=some (.cells (ramC (.slice p1 D.length c1) (.slice p2 M.length c2) 0) 39 (0,0))) fun wz hzz=>?_
 have hS:wz.heap[gh]?=some (.cells (zai awH) 27 (0,0))∧wz.heap[gr]?=some (.cells (ramC (.slice p1 D.length c1) (.slice p2 M.length c2) 0) 39 (0,0)):=⟨(hzz.block gh (Array.getElem?_eq_some_iff.1 gh1).1).trans gh1,(hzz.block gr (Array.getElem?_eq_some_iff.1 gr1).1).trans gr1⟩;have BZ:=hid (show Below wd.heap.size wd wz from hzz);clear hzz gh1 gr1 gt1;refine tl 0 hS (fun w hw=>Tr.Box.load hw.1) ?_
 refine tl 2 hS (fun w hw=>zy4 hw.2) ?_
 refine hc 1 (zbL (zyw wz)) ?_
 rintro v' we ⟨rfl,kk⟩
 have BE:=hid (zac BZ.out kk);refine ⟨⟨(kk.block gh (Array.getElem?_eq_some_iff.1 hS.1).1).trans hS.1,(kk.block gr (Array.getElem?_eq_some_iff.1 hS.2).1).trans hS.2⟩,fun hS2=>?_⟩
 clear kk hS;simp only [puts];refine tk 3 hS2 ?_ (hy:=.inl ⟨by kernel_rfl,fun w _=>znt rfl rfl rfl rfl (zyH (.slice p1 D.length c1) (.slice p2 M.length c2))⟩)
 refine hs 4 (MBox.store (zbM (.slice p1 D.length c1) (.slice p2 M.length c2)) H1.out ((BE.out.block _ (Array.getElem?_eq_some_iff.1 GT.out).1).trans GT.out) (by kernel_rfl)) fun wy hw=>?_
 refine ⟨⟨by rw [hw,setRow_other we _ _ _ NE.out.1];exact hS2.1,by rw [hw,setRow_other we _ _ _ NE.out.2];exact hS2.2⟩,fun hS3=>?_⟩
 refine tk 5 hS3 ?_
 refine wpAnyH_done (by kernel_rfl) ?_ _
 have KB:MBox wy W.heap.size (zbM (.slice p1 D.length c1) (.slice p2 M.length c2)):=by
  rw [hw];exact setRow_heap we W.heap.size _ _ 42 (0,0) ((BE.out.block _ (Array.getElem?_eq_some_iff.1 GT.out).1).trans GT.out)
 have R:=hid (show OwnD wy W.heap.size (.slice p1 D.length c1) D∧OwnM wy W.heap.size (.slice p2 M.length c2) M∧Below W.heap.size W wy from by
  obtain ⟨g1,g2,g3⟩:=G.out;have hq:=((BE.out.block _ (Array.getElem?_eq_some_iff.1 GT.out).1).trans GT.out);rw [hw];exact ⟨zbl (zcf g1 BE.out) hq (by decide) _,zbl (zcf g2 BE.out) hq (by decide) _,below_setRow (zac g3 BE.out) (Nat.le_refl _) _⟩)
 have HK:=hid KB;clear hw hS2 hS3 KB;go_wp2_with fail;refine bodyPost_ret (v:=.tuple #[mcV (zbM (.slice p1 D.length c1) (.slice p2 M.length c2)),.int .i64 0]) (zh4 Tryz.results31 _ _ W.heap.size _ _ rfl HK.out rfl) rfl ?_
 exact ⟨_,_,rfl,R.out⟩
set_option maxRecDepth 100000
structure SOk (v:Mc) (p:Pt):Prop where
 ok:VOk v p
 inn:v.b.inn.size≤1024
def newV:Mc:=⟨awH,bdN,.slice none 0 0,.slice none 0 0,0,0,0,.slice none 0 0⟩
noncomputable def newP (n:Nat) (s:ByteArray):Pt:=⟨[],spl (List.replicate (n*256) 0) 0 s,List.replicate n 0,[]⟩
theorem znq (n:Nat) (s:ByteArray) (h2:n≤256) (hs:s.size≤n*256):SOk newV (newP n s):=by
 have hl:(spl (List.replicate (n*256) (0:UInt8)) 0 s).length=n*256:=by rw [zfr _ _ _ (by rw [List.length_replicate];omega),List.length_replicate]
 refine ⟨⟨zqS,⟨(show (0:Int)≤18446744073709551615∧(18446744073709551615:Int)≤18446744073709551615 by decide),Al.zap⟩,⟨⟨zhr,zhr,zhr⟩,⟨Int.le_refl 0,(show (0:Int)<4294967296 by decide)⟩,fun f hf=>(by cases hf),Nat.zero_le _,?_,?_⟩,Al.zap⟩,Nat.zero_le _⟩
 ·show (spl _ 0 s).length≤_;rw [hl];omega
 ·show (List.replicate n (0:Int)).length≤_;rw [List.length_replicate];omega
end Go.Proofs.YtplcfdnfeclpmaaGreatDoor
namespace Go.Proofs.YtplcfdnfeclpmaaGreatDoor
open Go.RowKit Go.Deep Go.Joins
set_option maxRecDepth 100000
theorem zjd (t n:Nat) (w:World) (k:(Tryz.prog.info? t).map (·.size)=some n):(sizeOf t).run Tryz.prog w=.ok n w:=by
 cases hq:Tryz.prog.info? t with
 | none=>rw [hq] at k;cases k
 | some i=>rw [hq] at k;simp at k;simp [sizeOf,typeInfo,hq,k]
theorem zyB {P:Program} (w:World) (g k ty:Nat) (part:List Value) (d:TypeDesc)
  (hu:P.underlying ty=some d) (hd:(match d with | .struct _ | .array _ _=>true | _=>false)=true) (hi:(P.info? ty).map (·.size)=some part.length) (hp:∀ j v,part[j]?=some v→w.cell? ⟨g,k+j,none⟩=some v) :
  (Instr.loadAt ty (.pointer (some ⟨g,k,none⟩))).run P w=.ok (.agg part.toArray) w:=by
 have hl:(loadCells ⟨g,k,none⟩ part.length).run P w=.ok part.toArray w :=
  run_loadCells_list (P:=P) w ⟨g,k,none⟩ part (fun j v hv=>by rw [zdx];exact hp j v hv)
 cases hq:P.info? ty with
 | none=>simp [hq] at hi
 | some i =>
  have hs:i.size=part.length:=by simpa [hq] using hi
  have hagg:(isAgg ty).run P w=.ok true w:=by
   unfold isAgg;rw [Sem.run_bind,run_underlying hu w];cases d <;> simp_all
  simp [Instr.loadAt,Instr.sureAddr,loadVar,Sem.run_bind,hagg,sizeOf,typeInfo,hq,hs,hl,Result.andThen]
def regZ:Reg:=⟨0,0,0,0,0,0,0,0,0,0,0,0,0,0,0,0⟩
def zrr:Hart:=⟨List.replicate 32 0,rfl,0,0,regZ,false,0⟩
def mcZ:Mc:=⟨zrr,bdZ,.slice none 0 0,.slice none 0 0,0,0,0,.slice none 0 0⟩
end Go.Proofs.YtplcfdnfeclpmaaGreatDoor
namespace Go.Proofs.YtplcfdnfeclpmaaGreatDoor
open Go.RowKit Go.Deep Go.Joins
set_option maxRecDepth 100000
theorem zAn {P:Program} {ρ:Operand→Value} {o:Oper} {t:TypeId} {cells:Array Value} {w:World} (ho:o.op=.build t #[]) (h:P.built t []=some cells):(execOp ρ o).run P w=.ok (.value (.agg cells)) w:=by
 simp [execOp,ho,run_build w t #[] cells h,Result.andThen]
theorem znj:Tryz.prog.built 42 []=some (mcC mcZ):=by kernel_rfl
theorem zkF:Mc1 mcZ:=⟨rfl,rfl,rfl⟩
end Go.Proofs.YtplcfdnfeclpmaaGreatDoor
namespace Go.Proofs.YtplcfdnfeclpmaaGreatDoor
open Go.RowKit Go.Deep Go.Joins
theorem MBox.load_ram' {w:World} {g:Nat} {m:Mc} {dv mv:Value} {E:Int} (k:MBox w g m) (e1:m.dv=dv) (e2:m.mv=mv) (e3:m.E=E):(Instr.loadAt 39 (.pointer (some ⟨g,73,none⟩))).run Tryz.prog w=.ok (.agg #[dv,mv,.int .u64 E]) w:=by subst e1 e2 e3;exact k.load_ram
theorem ztu (w:World) (q:Option Addr) (c:Nat) (O:List Rec) (hr:zaW w (.slice q O.length c) 3 O.length (oC O)) (hO:O.length*32≤140737488355328) :
  ∃ p cap w',(Builtin.append_ #[40,40] 40 #[.slice none 0 0,.slice q O.length c]).run Tryz.prog w=.ok (.slice p O.length cap) w'∧w'.ownsRow w.heap.size 65 3 (.slice p O.length cap) O.length (oC O)∧Below w.heap.size w w':=by
 obtain ⟨i,hi,hz,hs,hb⟩:=zfZ;have hown:w.ownsRow w.heap.size 65 3 (.slice none 0 0) 0 []:=World.ownsRow_nil w _ _ _;have hl:=hr.1;rcases hr.2 with ⟨e1,e2⟩ | ⟨a,c2,e1,_,_,hc⟩
 ·simp only [Value.slice.injEq] at e1
  obtain ⟨rfl,_,rfl⟩:=e1;obtain rfl:O=[]:=List.eq_nil_of_length_eq_zero e2;exact ⟨_,_,w,run_append_owned_none (P:=Tryz.prog) w w.heap.size 40 40 65 i 3 Tryz.underlying40 hi _ 0 [] hown,hown,Below.refl _ _⟩
 ·simp only [Value.slice.injEq,true_and] at e1
  obtain ⟨rfl,rfl⟩:=e1;obtain ⟨v',w',hrun,ho,hgr,_⟩:=run_append_own (P:=Tryz.prog) w w.heap.size 40 40 65 i (.agg rcZ) 3 32 Tryz.underlying40 hi hz hs hb rfl (by omega) _ 0 [] hown a O.length c (oC O) hl hc (zqH O) (by unfold maxLen;omega) (by omega) (Nat.le_refl _);rw [Nat.zero_add,List.nil_append] at ho;obtain ⟨p,cap,rfl⟩:=zch ho;exact ⟨p,cap,w',hrun,ho,zi4 hgr⟩
theorem zsL (m:Mc) (p:Pt) (W:World) (K:MR W m p) (hF:p.F.length≤8796093022208) (hD:p.D.length≤140737488351232) (hM:p.M.length≤17592186043904) (hO:p.O.length*32≤140737488355328):Calls Tryz.prog 32 #[mcV m] W fun e W' =>
  ∃ q c dv mv ov,e=.returned (mcV { m with b:=m.b.at q p.F.length c,dv:=dv,mv:=mv,ov:=ov })∧FT W' W.heap.size (.slice q p.F.length c) p.F∧OwnD W' W.heap.size dv p.D∧OwnM W' W.heap.size mv p.M∧W'.ownsRow W.heap.size 65 3 ov p.O.length (oC p.O)∧Below W.heap.size W W':=by
 obtain ⟨qo,co,hov⟩:=K.o.is;have C1:=hid (fun W' (h:Below W.heap.size W W')=>zfV m.dv m.mv m.E p.D p.M W' (K.next h).d (K.next h).mm hD hM);have C2:=hid (fun W' (h:Below W.heap.size W W')=>za6 m.b p.F W' (K.next h).fr hF);have C3:=hid (fun W' (h:Below W.heap.size W W')=>ztu W' qo co p.O (hov ▸ (K.next h).o) hO);have HV:=hid hov;clear K hF hD hM hO hov;go_enter Tryz.func32,Tryz.ntmps32;go_upto_region 1 with (fail);have X:=hid (Mem.two (W:=W) (mcC m) Tryz.zeroCells42);generalize (W.alloc (Obj.cells (mcC m) 42)).alloc (Obj.cells Tryz.zeroCells42 42)=wa at X ⊢;go_upto_region 2 with (first | (with_reducible refine zaa rfl rfl (MBox.load_b' (b:=m.b) X.out.m1 rfl) rfl ?_) | (go_at_call 57;(with_reducible refine (C2.out _ X.out.below).mono ?_);rintro e wd ⟨q,c,rfl,hf,kk⟩;have XB:=X.out.below.size;have X:=hid ((X.out.next kk).addrow hf XB (by decide));clear kk hf XB) | (with_reducible refine zan rfl rfl (MBox.store_b X.out.m1 (m.b.at q p.F.length c)) rfl rfl ?_));have X:=hid (X.out.p1 (cs':=mcC { m with b:=m.b.at q p.F.length c }) rfl);generalize wd.setRow W.heap.size (mcC { m with b:=m.b.at q p.F.length c })=wc at X ⊢
 go_upto_region 3 with (first | (with_reducible refine zaa rfl rfl (MBox.load_ram' (dv:=m.dv) (mv:=m.mv) (E:=m.E) X.out.m1 rfl rfl rfl) rfl ?_) | (go_at_call 58;(with_reducible refine (C1.out _ X.out.below).mono ?_);rintro e wb ⟨dv,mv,rfl,hd,hm,kk⟩;obtain ⟨p2,c2,rfl⟩:=zch hd;obtain ⟨q2,d2,rfl⟩:=zch hm;have XB:=X.out.below.size;have X:=hid (((X.out.next kk).addrow hd XB (by decide)).addrow hm XB (by decide));clear kk hd hm XB) | (with_reducible refine zan rfl rfl (MBox.store_ram X.out.m1 p2 q2 p.D.length c2 p.M.length d2 m.E) rfl rfl ?_));have X:=hid (X.out.p1 (cs':=mcC { m with b:=m.b.at q p.F.length c,dv:=.slice p2 p.D.length c2,mv:=.slice q2 p.M.length d2 }) rfl);generalize wb.setRow W.heap.size _=we at X ⊢;generalize hm5:({ m with b:=m.b.at q p.F.length c,dv:=.slice p2 p.D.length c2,mv:=.slice q2 p.M.length d2 }:Mc)=m5 at X;have hov:m5.ov=.slice qo p.O.length co:=by rw [← hm5];exact HV.out
 obtain ⟨p4,c4,w4,hrun,ho,hb⟩:=C3.out we X.out.below;have HR:=hid hrun;have X4:=hid (X.out.next hb);have HO:=hid (zdD ho X.out.below.size);have HV5:=hid hov;have HM:=hid hm5;clear hrun ho hb hov hm5;go_upto_region 4 with (first | (with_reducible refine zaa rfl rfl (MBox.load_o' X.out.m1 HV5.out) rfl ?_) | (at_builtin;(refine zik rfl _ _ 40 rfl _ _ _ rfl rfl _ HR.out ?_)) | (with_reducible refine zan rfl rfl (MBox.store_o X4.out.m1 p4 p.O.length c4) rfl rfl ?_));have X5:=hid (X4.out.p1 (cs':=mcC { m5 with ov:=.slice p4 p.O.length c4 }) rfl);have HO:=hid (zbl HO.out X4.out.g1 (by decide) (mcC { m5 with ov:=.slice p4 p.O.length c4 }));generalize hm6:({ m5 with ov:=.slice p4 p.O.length c4 }:Mc)=m6 at X5 HO ⊢;generalize w4.setRow W.heap.size (mcC m6)=w5 at X5 HO ⊢;have h1:Mc1 m6:=by subst hm6;rw [← HM.out];exact ⟨rfl,rfl,rfl⟩
 have HN:=hid h1;have HM6:=hid hm6;clear X X4 h1 hm6 C1 C2 C3;go_wp2_with (with_reducible first | refine zaa rfl rfl (MBox.load X5.out.m1) rfl ?_ | refine zan rfl rfl (MBox.store m6 HN.out X5.out.g0 (by kernel_rfl)) rfl rfl ?_);have X6:=hid (X5.out.p0 (cs':=mcC m6) rfl);have HO:=hid (zbl HO.out X5.out.g0 (by decide) (mcC m6));generalize w5.setRow (W.heap.size+1) (mcC m6)=w6 at X6 HO ⊢;refine bodyPost_ret (v:=mcV m6) (results_cell_row Tryz.results32 _ _ (W.heap.size+1) 42 (mcC m6) (0,0) _ rfl X6.out.g0 Tryz.underlying42 rfl (by rw [zgk,zcA])) rfl ⟨q,c,.slice p2 p.D.length c2,.slice q2 p.M.length d2,.slice p4 p.O.length c4,?_,FT.of X6.out.r2,X6.out.r1,X6.out.r0,HO.out,X6.out.below⟩
 rw [← HM6.out,← HM.out]
end Go.Proofs.YtplcfdnfeclpmaaGreatDoor
