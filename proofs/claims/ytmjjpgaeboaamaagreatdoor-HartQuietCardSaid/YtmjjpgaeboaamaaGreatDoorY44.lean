/- HartQuiet,part 44. -/
import Derived.SliceStrings
import Derived.SizedLaws
import Derived.Carry
import Derived.Test.YtmjjpgaeboaamaaGreatDoorY24
import Derived.Test.YtmjjpgaeboaamaaGreatDoorY33
import Derived.Test.YtmjjpgaeboaamaaGreatDoorY43
set_option maxHeartbeats 4000000
set_option maxRecDepth 100000
open Go.Lib (hid)
namespace Go.Proofs.YtmjjpgaeboaamaaGreatDoor
open Go.RowKit Go.Deep Go.Joins
theorem Same.bd {a b:Mc} (k:Same a b):b.b=a.b.at b.b.fp b.b.fn b.b.fc:=by
 have h:=congrArg Mc.b k.re
 exact h
theorem Same.at (m:Mc) (n:Nat) (q:Option Addr) (c:Nat) (dv mv ov:Value):Same m (atM m n q c dv mv ov):=⟨fun _ _ _ _ _ _=>rfl⟩
section
variable {w : World} {B z : Nat} {v : Mc} {p : Pt} {T : Nat → Prop}
theorem Ms.data (K:Ms w B z v p T):∃ q c,w.cell? ⟨z,73,none⟩=some (.slice q p.D.length c)∧(Instr.loadAt 36 (.pointer (some ⟨z,73,none⟩))).run Tryz.prog w=.ok (.slice q p.D.length c) w∧DAt w (.slice q p.D.length c) p.D:=by
 obtain ⟨m,s1,s2,s3⟩:=K
 obtain ⟨q,c,e⟩:=zbJ s2.d
 have hd:DAt w m.dv p.D:=s2.d.at
 refine ⟨q,c,?_,?_,e ▸ hd⟩
 ·have h:=s2.box.cell_t 0
  rw [show 73+0=73 from rfl] at h
  rw [h]
  show some m.dv=_
  rw [e]
 have h:=zaU w z 73 36 42 (mcC m) _ _ s2.box Tryz.underlying36 rfl (zdm m 0)
 rw [h]
 show Result.ok m.dv w=_
 rw [e]
theorem Ms.frames (K:Ms w B z v p T):∃ q c,w.cell? ⟨z,61,none⟩=some (.slice q p.F.length c):=by
 obtain ⟨m,s1,s2,s3⟩:=K
 refine ⟨m.b.fp,m.b.fc,?_⟩
 rw [← s2.len]
 exact (cell_of_row w z 61 (mcC m) 42 (0,0) s2.box).trans ((zfH m 9 (by decide)).trans (zbb m.b 9 (by decide)))
theorem Ms.board (K:Ms w B z v p T):∃ q c,(Instr.loadAt 35 (.pointer (some ⟨z,52,none⟩))).run Tryz.prog w=.ok (bdV (v.b.at q p.F.length c)) w:=by
 obtain ⟨m,s1,s2,s3⟩:=K
 refine ⟨m.b.fp,m.b.fc,?_⟩
 have h:=s2.box.load_b' s1.bd
 rw [← s2.len]
 exact h
theorem Ms.isDone (K:Ms w B z v p T):w.cell? ⟨z,59,none⟩=some (.bool v.b.done):=by
 obtain ⟨m,s1,s2,s3⟩:=K
 rw [show v.b.done=m.b.done by rw [s1.bd];rfl]
 exact (cell_of_row w z 59 (mcC m) 42 (0,0) s2.box).trans ((zfH m 7 (by decide)).trans (zbb m.b 7 (by decide)))
end
theorem zd7 {w w':World} {p:Addr} {v:Value} (h:w.cell? p=some v) (hb:Below w.heap.size w w'):w'.cell? p=some v:=(hb.cell (World.block_lt_of_cell? w p h)).trans h
def BBox (w:World) (k:Nat) (b:Bd):Prop:=w.heap[k]?=some (.cells (bdC b) 35 (0,0))
theorem BBox.done {w:World} {k:Nat} {b:Bd} (h:BBox w k b):w.cell? ⟨k,7,none⟩=some (.bool b.done):=(cell_of_row w k 7 (bdC b) 35 (0,0) h).trans (zbb b 7 (by decide))
theorem BBox.frames {w:World} {k:Nat} {b:Bd} (h:BBox w k b):w.cell? ⟨k,9,none⟩=some (.slice b.fp b.fn b.fc):=(cell_of_row w k 9 (bdC b) 35 (0,0) h).trans (zbb b 9 (by decide))
theorem zxq {v:Mc} {p:Pt} {v':Mc} {p':Pt} (h:Qt v p v' p'):∃ J:Nat→Int→Int→Prop,J 0 (-1) (-1) ∧
  (∀ n f l (k:Nat),J n f l→p.D[k]?≠p'.D[k]?→J (n+1) (if n=0 then (k:Int) else f) k) ∧
  (∀ n f l,J n f l→0<n→8≤l - f→v'.b.done=v.b.done→p'.F.length=p.F.length→v.b.done=true):=by
 rcases h with ⟨_,a,ha⟩ | ⟨_,h⟩
 ·refine ⟨fun n f l=>n=0∨((a:Int)≤f∧l<a+8),.inl rfl,fun n f l k hj hk=>?_,fun n f l hj hn h8 _ _=>?_⟩
  ·obtain ⟨h1,h2⟩:=ha k fun e=>hk e.symm
   right
   split
   ·omega
   ·rcases hj with hj | hj
    ·omega
    ·omega
  ·rcases hj with hj | hj
   ·omega
   ·omega
 ·refine ⟨fun _ _ _=>True,trivial,fun _ _ _ _ _ _=>trivial,fun n f l _ _ _ h1 h2=>?_⟩
  rcases h with h | h | h
  ·exact absurd h1 h
  ·exact absurd h2 h
  ·exact h
theorem zob {D D1:List UInt8} {str:ByteArray} (h:(⟨D.toArray⟩:ByteArray)=str) {k:Nat} (h0:k<D.length) (h1:k<D1.length) (hx:k<str.size):Value.bool (((str[k]'hx).toNat:Int) != (D1[k].toNat:Int))=Value.bool (decide (D[k]?≠D1[k]?)):=by
 subst h
 have e:(⟨D.toArray⟩:ByteArray)[k]'hx=D[k]:=by
  show D.toArray[k]=D[k]
  rw [List.getElem_toArray]
 rw [e,List.getElem?_eq_getElem h0,List.getElem?_eq_getElem h1]
 congr 1
 by_cases h:D[k]=D1[k]
 ·rw [h]
  simp
 ·have h2:(D[k].toNat:Int)≠(D1[k].toNat:Int):=fun x=>h (UInt8.toNat_inj.1 (by omega))
  rw [decide_eq_true (by simpa using h)]
  exact bne_iff_ne.2 h2
structure Qi (W w:World) (z:Nat) (v:Mc) (p:Pt) (n:Nat):Prop where
 ms:Ms w W.heap.size z v p (fun x=>W.heap.size≤x)
 ok:VOk v p
 ln:p.O.length≤n
 bl:Below W.heap.size W w
theorem Qi.next {W w w':World} {z:Nat} {v:Mc} {p:Pt} {n:Nat} (Q:Qi W w z v p n) (hb:Below w.heap.size w w'):Qi W w' z v p n:=⟨Q.ms.next hb,Q.ok,Q.ln,zad Q.bl hb⟩
end Go.Proofs.YtmjjpgaeboaamaaGreatDoor
namespace Go.Proofs.YtmjjpgaeboaamaaGreatDoor
open Go.RowKit Go.Deep Go.Joins
theorem HOk.base {h:Hart} (k:HOk h):HOk (zb0 h):=by
 refine ⟨fun n=>?_,(show Al.U64 2147483648 from ⟨by decide,by decide⟩),k.c,k.rat⟩
 have e:=k.x n
 unfold xV zb0 at *
 rw [List.getD_eq_getElem?_getD] at *
 by_cases h0:n.toNat=0
 ·rw [h0,List.getElem?_set_self (by rw [h.hx];decide)]
  exact Al.zap
 ·rw [List.getElem?_set_ne (fun x=>h0 x.symm)]
  exact e
theorem VOk.base {m:Mc} {p:Pt} (V:VOk m p) {D:List UInt8} {M:List Int} (hD:D.length=p.D.length) (hM:M.length=p.M.length):VOk { m with h:=zb0 m.h } { p with D:=D,M:=M } :=
 ⟨V.h.base,V.b,⟨V.ok.bd,V.ok.c,V.ok.fz,V.ok.fl,hD ▸ V.ok.dl,hM ▸ V.ok.ml⟩,V.cnt⟩
theorem Qi.board {W w:World} {z:Nat} {v:Mc} {u:Pt} {n:Nat} (Q:Qi W w z v u n) (b:Bd):BBox ((w.alloc zak).setRow w.heap.size (bdC b)) w.heap.size b∧Ms ((w.alloc zak).setRow w.heap.size (bdC b)) W.heap.size z v u (fun x=>W.heap.size≤x∧x≠w.heap.size)∧Below W.heap.size W ((w.alloc zak).setRow w.heap.size (bdC b)):=by
 have h1:=heap_alloc_last w zak
 have ht:zan (w.alloc zak) ((w.alloc zak).setRow w.heap.size (bdC b)) (fun x=>x=w.heap.size):=(zan.refl _ (fun x=>x=w.heap.size)).setRow (.inl rfl) _
 have hb:=zad Q.bl (zaf w zak)
 refine ⟨setRow_heap _ w.heap.size _ (bdC b) 35 (0,0) h1,?_,zan.below hb ht (fun x hx=>hx ▸ Q.bl.size) hb.size⟩
 obtain ⟨m,s1,s2,s3⟩:=Q.ms.sep zak
 exact ⟨m,s1,s2.keep fun x hx=>ht.block x (s2.lt hx).2 fun e=>(s3 x hx).2 e,s3⟩
theorem zoV {n0 j:Nat} (h:(n0+31)*32≤140737488355328) (hj:j<30):(n0+j+1)*32≤140737488355328:=Nat.le_trans (Nat.mul_le_mul_right 32 (show n0+j+1≤n0+31 from Nat.add_le_add_left (Nat.le_succ_of_le hj) n0)) h
theorem Qi.step {W w:World} {z:Nat} {v:Mc} {u:Pt} {n k:Nat} {b:Bd} (V:VOk v u) (hn:u.O.length≤n) (hO:(n+1)*32≤140737488355328) (hL:De.Laid W) (hb:BBox w k b) (K:Ms w W.heap.size z v u (fun x=>W.heap.size≤x∧x≠k)) (X:Below W.heap.size W w):∃ v1 u1,Qt v u v1 u1∧Calls Tryz.prog 15 #[.pointer (some ⟨z,0,none⟩)] w fun e w'=>e=.returned (.tuple #[])∧BBox w' k b∧Qi W w' z v1 u1 (n+1):=by
 have hk:k<w.heap.size:=(Array.getElem?_eq_some_iff.1 hb).1
 refine ⟨_,_,ztY V,(ziq W.heap.size z (fun x=>W.heap.size≤x∧x≠k) v u w K X.size (fun x hx=>⟨Nat.le_trans X.size hx,by omega⟩) V (Nat.le_trans (Nat.mul_le_mul_right 32 (Nat.succ_le_succ hn)) hO) (hL.below X) (fun x hx h=>absurd hL.1 (by omega))).mono fun e w' h=>?_⟩
 obtain ⟨he,hm,ht⟩:=h
 exact ⟨he,(ht.block k hk fun h=>h.2 rfl).trans hb,hm.mono fun x hx=>hx.1,zmW V,by have:=zwh V;omega,zan.below X ht (fun x hx=>hx.1) X.size⟩
theorem zsz (m:Mc) (p:Pt) (L:List Int) (wq:Option Addr) (wl:Nat) (W:World) (K:MR W m p) (V:VOk m p) (hO:(p.O.length+31)*32≤140737488355328) (hLd:De.Laid W) (hL:zaY W (.slice wq L.length wl) 1 L.length (L.map (.int .u32))) (hu:∀ n∈L,0≤n∧n<4294967296):TB 4 #[mcV m,.slice wq L.length wl] W (.bool true):=by
 have C0:=hid (fun w (h:Below W.heap.size W w)=>znh w (hLd.below h))
 have C1:=hid (fun w (h:Below W.heap.size W w)=>zvp m p L wq wl w (K.next h) V.ok.fl V.ok.dl V.ok.ml (by omega) (hL.below h) hu)
 have HV:=hid (And.intro V (And.intro hO hLd))
 have HLL:=zaY.le hL
 clear K V hO hL hu hLd
 go_enter Tryz.func4,Tryz.ntmps4
 go_upto_region 1 with (fail)
 have X:=hid ((Mem.start W).new (mcC m) 42 (by decide))
 generalize W.alloc (Obj.cells (mcC m) 42)=wa at X ⊢
 go_upto_region 4 with (first | (go_at_call 12;(with_reducible refine (C0.out _ X.out.below).mono ?_);rintro e wb ⟨rfl,kk⟩;have X:=hid (X.out.next kk);clear kk) | (with_reducible refine zaa rfl rfl (MBox.load X.out.m0) rfl ?_) | (go_at_call 13;(with_reducible refine (C1.out _ X.out.below).mono ?_);rintro e wn ⟨q,c,dv,mv,ov,D,M,rfl,hcp,hdl,hml,kk⟩;have CA:=hid (hcp.base X.out.below.size);have HDL:=hid (And.intro hdl hml);have HONE:Hid (Mc1 { m with h:=zb0 m.h,b:=m.b.at q p.F.length c,dv:=dv,mv:=mv,ov:=ov }):=hid (CP.one (p:={ p with D:=D,M:=M }) (m:={ m with h:=zb0 m.h }) hcp);have X:=hid (X.out.next kk);clear kk hcp hdl hml) | (with_reducible refine zam rfl rfl (MBox.store { m with h:=zb0 m.h,b:=m.b.at q p.F.length c,dv:=dv,mv:=mv,ov:=ov } HONE.out X.out.newM.g0 (by kernel_rfl)) rfl rfl ?_) | fail)
 generalize hmb:({ m with h:=zb0 m.h }:Mc)=mb
 have hbx:({ m with h:=zb0 m.h,b:=m.b.at q p.F.length c,dv:=dv,mv:=mv,ov:=ov }:Mc)=atM mb p.F.length q c dv mv ov:=by rw [← hmb]
 rw [hbx]
 have HB:=hid hmb
 clear hbx hmb
 have CA:=hid ((CA.out.next (zaf wn mcZO)).over X.out.newM.g0 (mcC (atM mb p.F.length q c dv mv ov)))
 have X:=hid (X.out.newM.p0 (cs':=mcC (atM mb p.F.length q c dv mv ov)) rfl)
 generalize wn.heap.size=z at X CA ⊢
 generalize (wn.alloc mcZO).setRow z (mcC (atM mb p.F.length q c dv mv ov))=wd at X CA ⊢
 have Q0:Qi W wd z mb { p with D:=D,M:=M } (p.O.length+0):=by
  have k:=CP.ms (m:=mb) CA.out (X.out.big _ (List.mem_cons_self ..)) X.out.m0
  refine ⟨⟨_,Same.at mb _ q c dv mv ov,k,fun x hx=>(k.lt hx).1⟩,?_,Nat.le_refl _,X.out.below⟩
  rw [← HB.out]
  exact VOk.base HV.out.1 HDL.out.1 HDL.out.2
 have Q0:=hid Q0
 have HN:=hid HV.out.2.1
 have HL:=hid HV.out.2.2
 generalize ({ p with D:=D,M:=M }:Pt)=P at Q0
 generalize p.O.length=n0 at Q0 HN
 clear CA X C0 C1 HDL HONE HV HB
 go_wp2_with (fail)
 go_loopw [6] (fun i wr=>∃ (j:Nat) (v:Mc) (u:Pt),j≤30∧i=.int .i64 j∧Hid (Qi W wr z v u (n0+j))) (fun i _=>30 - (intOf i).toNat)
 case atStart=>exact ⟨0,mb,P,by omega,rfl,Q0⟩
 case round =>
  obtain ⟨j,v,u,hj,rfl,QQ⟩:=hrel
  go_upto_region 5 with (fail)
  go_cut [25] from 18 to 26 (fun v wx=>v=.bool (decide (j<L.length) && decide (j<30))∧wx=wr)
  case first =>
   by_cases h1:j<L.length
   ·by_cases h2:j<30
    ·have g1:decide ((j:Int)<30)=true:=decide_eq_true (by omega)
     have g2:decide (j<30)=true:=decide_eq_true h2
     have g3:decide (j<L.length)=true:=decide_eq_true h1
     go_wp2_with fail
     go_meet
     exact ⟨by rw [g2,g3];rfl,rfl⟩
    ·have g1:decide ((j:Int)<30)=false:=decide_eq_false (by omega)
     have g2:decide (j<30)=false:=decide_eq_false h2
     have g3:decide (j<L.length)=true:=decide_eq_true h1
     go_wp2_with fail
     go_meet
     exact ⟨by rw [g2,g3];rfl,rfl⟩
   ·have g3:decide (j<L.length)=false:=decide_eq_false h1
    go_wp2_with fail
    go_meet
    exact ⟨by rw [g3];rfl,rfl⟩
  case rest =>
   obtain ⟨rfl,rfl⟩:=hcut
   rcases Bool.eq_false_or_eq_true (decide (j<L.length) && decide (j<30)) with hgo | hgo
   ·rw [hgo]
    have hl30:j<30:=by simp at hgo;omega
    clear hgo
    obtain ⟨q7,c7,_,l7,d7⟩:=QQ.out.ms.data
    obtain ⟨q8,c8,l8⟩:=QQ.out.ms.board
    have cv:=znx d7
    have hDl:=d7.le
    have hSz:(⟨u.D.toArray⟩:ByteArray).size=u.D.length:=List.size_toArray
    generalize hst:(⟨u.D.toArray⟩:ByteArray)=str at cv hSz
    have HST:=hid hst
    clear hst
    have L7:=hid l7
    have L8:=hid l8
    clear l7 l8 d7
    go_upto_region 9 with (first | (with_reducible first | refine zaa rfl rfl L7.out rfl ?_ | refine zaa rfl rfl L8.out rfl ?_ | refine zam rfl rfl (zaT _ _ _ (v.b.at q8 u.F.length c8) (heap_alloc_last _ _) (by kernel_rfl)) rfl rfl ?_) | fail)
    clear cv L7 L8
    obtain ⟨bb,km,X⟩:=QQ.out.board (v.b.at q8 u.F.length c8)
    generalize wc.heap.size=k at bb km X ⊢
    generalize (wc.alloc zak).setRow k (bdC (v.b.at q8 u.F.length c8))=w1 at bb km X ⊢
    have V0:=QQ.out.ok
    obtain ⟨v1,u1,hq,CS⟩:=Qi.step V0 QQ.out.ln (zoV HN.out hl30) HL.out bb km X
    have CS:=hid CS
    obtain ⟨J,j0,js,jf⟩:=zxq hq
    have hDD:u1.D.length=u.D.length:=by
     rcases hq with h | h
     ·exact h.1
     ·exact h.1
    clear V0 hq bb km X QQ
    go_upto_region 10 with (first | (go_at_call 15;(with_reducible refine CS.out.mono ?_);rintro e w2 ⟨rfl,bb,QQ⟩;have QQ:=hid QQ;have BB:=hid bb;clear bb) | fail)
    have HDD:=hid hDD
    have HJ:=hid (And.intro j0 (And.intro js jf))
    obtain ⟨qd,cd,lc,ld,dd⟩:=QQ.out.ms.data
    have LC:=hid lc
    have LD:=hid ld
    have DD:=hid dd
    clear CS hDD j0 js jf lc ld dd
    go_wp2_with fail
    go_loopw [9,10,11,12] (fun n f l i wr=>∃ (k1 n1:Nat) (f1 l1:Int),k1≤u.D.length∧n1≤k1∧-1≤f1∧f1≤k1∧-1≤l1∧l1≤k1∧n=.int .i64 n1∧f=.int .i64 f1∧l=.int .i64 l1∧i=.int .i64 k1∧Hid (J n1 f1 l1)∧Hid (Below w2.heap.size w2 wr)) (fun _ _ _ i _=>u.D.length - (intOf i).toNat)
    case atStart=>exact ⟨0,0,-1,-1,by omega,by omega,by omega,by omega,by omega,by omega,rfl,rfl,rfl,rfl,hid HJ.out.1,hid (Below.refl _ _)⟩
    case round =>
     obtain ⟨k1,n1,f1,l1,r1,r2,r3,r4,r5,r6,rfl,rfl,rfl,rfl,RJ,Y⟩:=hrel
     go_upto_region 12 with (fail)
     go_cut [46] from 35 to 47 (fun v wx=>v=.bool (decide (k1<u.D.length))∧wx=wr)
     case first =>
      by_cases h1:k1<u.D.length
      ·have g1:decide (k1<u.D.length)=true:=decide_eq_true h1
       have g2:decide ((k1:Int)<u1.D.length)=true:=decide_eq_true (by rw [HDD.out];omega)
       have g3:decide (k1<u1.D.length)=true:=decide_eq_true (by rw [HDD.out];omega)
       have m_d:=zd7 LC.out Y.out
       go_wp2_with fail
       go_meet
       exact ⟨by rw [g1],rfl⟩
      ·have g1:decide (k1<u.D.length)=false:=decide_eq_false h1
       go_wp2_with fail
       go_meet
       exact ⟨by rw [g1],rfl⟩
     case rest =>
      obtain ⟨rfl,rfl⟩:=hcut
      rcases Bool.eq_false_or_eq_true (decide (k1<u.D.length)) with hgo | hgo
      ·rw [hgo]
       have hlt:k1<u.D.length:=of_decide_eq_true hgo
       clear hgo
       obtain ⟨gd,od,cc,e,_,_,_,hcell⟩:=DD.out.cell (by rw [HDD.out];omega)
       simp only [Value.slice.injEq] at e
       obtain ⟨rfl,_,rfl⟩:=e
       have hlt1:k1<u1.D.length:=by rw [HDD.out];exact hlt
       have c0:=hid (hcell k1 hlt1)
       have hx:k1<str.size:=by rw [hSz];exact hlt
       clear hcell
       go_upto_region 14 with (fail)
       go_cut [58] from 49 to 59 (fun v wx=>v=.bool (decide (u.D[k1]?≠u1.D[k1]?))∧Hid (Below w2.heap.size w2 wx))
       case first =>
        refine dr (fun w=>Below w2.heap.size w2 w) fun wz hzz=>?_
        have X:=hid (zad Y.out hzz)
        clear hzz
        have hS:=X.out
        refine tk 0 hS ?_
        refine tk 1 hS ?_
        refine tk 2 hS ?_
        refine tk 3 hS ?_
        refine tk 4 hS ?_
        refine tl 5 hS (fun w hw=>zeX w z 73 36 _ _ Tryz.underlying36 rfl (zd7 LC.out hw)) ?_
        refine tk 6 hS ?_
        refine tk 7 hS ?_
        refine tl 8 hS (fun w hw=>zeX w gd (od+k1) 5 _ _ Tryz.underlying5 rfl (zd7 c0.out hw)) ?_
        refine tk 9 hS ?_
        refine wpAnyH_done (by kernel_rfl) ?_ _
        go_wp2_with fail
        go_meet
        exact ⟨zob HST.out hlt hlt1 hx,X⟩
       case rest =>
        obtain ⟨rfl,Z⟩:=hcut
        by_cases hne:u.D[k1]?≠u1.D[k1]?
        ·rw [decide_eq_true hne]
         have RJ2:=hid (HJ.out.2.1 n1 f1 l1 k1 RJ.out hne)
         clear hne
         by_cases hn0:n1=0
         ·subst hn0
          rw [if_pos rfl] at RJ2
          go_wp2_with fail
          exact ⟨⟨k1+1,0+1,k1,k1,by omega,by omega,by omega,by omega,by omega,by omega,by go_num,rfl,rfl,by go_num,RJ2,Z⟩,by simp [intOf];omega⟩
         ·rw [if_neg hn0] at RJ2
          have g1:((n1:Int)==0)=false:=by rw [beq_eq_false_iff_ne];omega
          go_wp2_with fail
          exact ⟨⟨k1+1,n1+1,f1,k1,by omega,by omega,by omega,by omega,by omega,by omega,by go_num,rfl,rfl,by go_num,RJ2,Z⟩,by simp [intOf];omega⟩
        ·rw [decide_eq_false hne]
         clear hne
         go_wp2_with fail
         exact ⟨⟨k1+1,n1,f1,l1,by omega,by omega,by omega,by omega,by omega,by omega,rfl,rfl,rfl,by go_num,RJ,Z⟩,by simp [intOf];omega⟩
      ·rw [hgo]
       clear hgo
       obtain ⟨qf,cf,fc⟩:=QQ.out.ms.frames
       have m_f:=zd7 fc Y.out
       have m_n:=zd7 QQ.out.ms.isDone Y.out
       have b_f:=zd7 BB.out.frames Y.out
       have b_n:=zd7 BB.out.done Y.out
       have JF:=hid (HJ.out.2.2 n1 f1 l1 RJ.out)
       have i1:(v.b.at q8 u.F.length c8).done=v.b.done:=rfl
       have i2:(v.b.at q8 u.F.length c8).fp=q8:=rfl
       have i3:(v.b.at q8 u.F.length c8).fn=u.F.length:=rfl
       have i4:(v.b.at q8 u.F.length c8).fc=c8:=rfl
       rw [i1] at b_n
       rw [i2,i3,i4] at b_f
       clear i1 i2 i3 i4 fc
       go_upto_region 18 with (fail)
       go_cut [95] from 65 to 96 (fun v wx=>v=.bool false∧wx=wc)
       case first =>
        by_cases a1:0<n1
        ·have g1:decide ((0:Int)<n1)=true:=decide_eq_true (by omega)
         by_cases a2:8≤l1 - f1
         ·have g2:decide (8≤l1 - f1)=true:=decide_eq_true a2
          by_cases a3:v1.b.done=v.b.done
          ·by_cases a4:u1.F.length=u.F.length
           ·have a5:v.b.done=true:=JF.out a1 a2 a3 a4
            rw [a3] at m_n
            rw [a5] at m_n b_n
            rw [a4] at m_f
            go_wp2_with fail
            all_goals (go_meet;exact ⟨rfl,rfl⟩)
           ·have g4:((u1.F.length:Int)==u.F.length)=false:=by rw [beq_eq_false_iff_ne];omega
            rw [a3] at m_n
            go_wp2_with fail
            all_goals (go_meet;exact ⟨rfl,rfl⟩)
          ·have g3:(v1.b.done==v.b.done)=false:=by rw [beq_eq_false_iff_ne];exact a3
           go_wp2_with fail
           all_goals (go_meet;exact ⟨rfl,rfl⟩)
         ·have g2:decide (8≤l1 - f1)=false:=decide_eq_false a2
          go_wp2_with fail
          all_goals (go_meet;exact ⟨rfl,rfl⟩)
        ·have g1:decide ((0:Int)<n1)=false:=decide_eq_false (by omega)
         go_wp2_with fail
         all_goals (go_meet;exact ⟨rfl,rfl⟩)
       case rest =>
        obtain ⟨rfl,rfl⟩:=hcut
        have Q2:Hid (Qi W wc z v1 u1 (n0+(j+1))):=hid (QQ.out.next Y.out)
        go_wp2_with fail
        exact ⟨⟨j+1,v1,u1,by omega,by go_num,Q2⟩,by simp [intOf];omega⟩
   ·rw [hgo]
    clear hgo
    go_wp2_with fail
    go_ret
    exact ⟨rfl,QQ.out.bl⟩
end Go.Proofs.YtmjjpgaeboaamaaGreatDoor
namespace Go.Proofs.YtmjjpgaeboaamaaGreatDoor
open Go.RowKit Go.Deep Go.Joins Go.WideShapes Go.ChangeShapes Go.ChangeAt
theorem own:ownKnob Tryz.prog.godebug=none:=by kernel_rfl
theorem zg1:laidOutB Tryz.prog=true:=by kernel_rfl
theorem zhF:Tryz.prog.cellsOf 39=3:=by kernel_rfl
theorem zwd:Tryz.prog.cellsOf 5=1:=by kernel_rfl
theorem zbl:Tryz.prog.cellsOf 22=1:=by kernel_rfl
theorem zrb:Tryz.prog.bytesOf 5=1:=by kernel_rfl
theorem ztJ:Tryz.prog.bytesOf 22=8:=by kernel_rfl
def toB (zs:List Int):List UInt8:=zs.map fun n=>UInt8.ofNat n.toNat
theorem zk6 (zs:List Int) (i:Nat) (h:i<zs.length) (hw:∀ n∈zs,0≤n∧n≤255):(dC (toB zs))[i]?=some (.int .u8 (zs.getD i 0)):=by
 have h2:=hw zs[i] (List.getElem_mem _)
 have e:zs.getD i 0=zs[i]:=by rw [List.getD_eq_getElem?_getD,List.getElem?_eq_getElem h];rfl
 rw [e]
 simp only [dC,toB,List.getElem?_map,List.getElem?_eq_getElem h,Option.map_some]
 congr 2
 rw [UInt8.toNat_ofNat']
 omega
section
variable {H : Type} {enc : TypeId × Value → H} {w : World} {base : Nat} {spare : Nat → Bool} {held : Bool}
theorem zpB {fuel:Nat} {c:Value} {x:DataW H × List MemPlace} (h:DataW.trod enc Tryz.prog w base spare held fuel 36 [c]=some x) :
  ∃ D,DAt w c D∧∀ N,(∀ k∈x.1.weights Tryz.prog 36,k≤N)→D.length≤N:=by
 rcases open_ints Tryz.underlying36 Tryz.underlying5 zwd h with ⟨hcs,rfl⟩ | ⟨a,len,cap,zs,hcs,_,hl,hm,hz,rfl,hcell,hwf⟩
 ·simp only [List.cons.injEq,and_true] at hcs
  subst hcs
  exact ⟨[],⟨rfl,.inl ⟨rfl,rfl⟩⟩,fun N _=>Nat.zero_le _⟩
 ·simp only [List.cons.injEq,and_true] at hcs
  subst hcs
  have hlen:len≤zs.length:=by rw [hz];split <;> omega
  have hb:∀ n∈zs,0≤n∧n≤255:=fun n hn=>bounds_u8 (hwf n hn)
  have hDl:(toB (zs.take len)).length=len:=by simp [toB];omega
  refine ⟨toB (zs.take len),⟨by rw [ze7,Nat.mul_one],.inr ⟨a,cap,by rw [hDl],by rw [hDl];exact hl,hm,fun j u hu=>?_⟩⟩,fun N hN=>?_⟩
  ·have hj:j<len:=by
    have:=(List.getElem?_eq_some_iff.1 hu).1
    rw [ze7,hDl] at this
    exact this
   rw [zk6 _ j (by simp;omega) (fun n hn=>hb n (List.mem_of_mem_take hn))] at hu
   rw [hcell j (by omega),← Option.some.inj hu,List.getD_eq_getElem?_getD,List.getD_eq_getElem?_getD,List.getElem?_take_of_lt hj]
  ·have:=hN _ (by simp only [DataW.weights,Tryz.underlying36,List.mem_cons];exact .inl rfl)
   rw [zrb] at this
   simp [lits] at this
   rw [hDl]
   omega
theorem ztw {fuel:Nat} {c:Value} {x:DataW H × List MemPlace} (h:DataW.trod enc Tryz.prog w base spare held fuel 37 [c]=some x) :
  ∃ M,MAt w c M∧(∀ n∈M,0≤n∧n≤18446744073709551615)∧∀ N,(∀ k∈x.1.weights Tryz.prog 37,k≤N)→M.length*8≤N:=by
 rcases open_ints Tryz.underlying37 Tryz.underlying22 zbl h with ⟨hcs,rfl⟩ | ⟨a,len,cap,zs,hcs,_,hl,hm,hz,rfl,hcell,hwf⟩
 ·simp only [List.cons.injEq,and_true] at hcs
  subst hcs
  exact ⟨[],⟨rfl,.inl ⟨rfl,rfl⟩⟩,fun n hn=>by (cases hn),fun N _=>Nat.zero_le _⟩
 ·simp only [List.cons.injEq,and_true] at hcs
  subst hcs
  have hlen:len≤zs.length:=by rw [hz];split <;> omega
  have hb:∀ n∈zs,0≤n∧n≤18446744073709551615:=fun n hn=>bounds_u64 (hwf n hn)
  have hDl:(zs.take len).length=len:=by simp;omega
  refine ⟨zs.take len,⟨by rw [zhm,Nat.mul_one],.inr ⟨a,cap,by rw [hDl],by rw [hDl];exact hl,hm,fun j u hu=>?_⟩⟩,fun n hn=>hb n (List.mem_of_mem_take hn),fun N hN=>?_⟩
  ·have hj:j<len:=by
    have:=(List.getElem?_eq_some_iff.1 hu).1
    rw [zhm,hDl] at this
    exact this
   rw [hcell j (by omega),← hu]
   simp only [mC,List.getElem?_map,List.getElem?_take_of_lt hj,List.getElem?_eq_getElem (show j<zs.length by omega),List.getD_eq_getElem?_getD,Option.map_some,Option.getD_some]
  ·have:=hN _ (by simp only [DataW.weights,Tryz.underlying37,List.mem_cons];exact .inl rfl)
   rw [ztJ] at this
   simp [lits] at this
   rw [hDl]
   omega
end
end Go.Proofs.YtmjjpgaeboaamaaGreatDoor
namespace Go.Proofs.YtmjjpgaeboaamaaGreatDoor.Pc
set_option maxRecDepth 100000
open Go.RowKit Go.Deep Go.Joins
open Go.WideShapes Go.ChangeShapes Go.ChangeAt
theorem zgG:Tryz.prog.cellsOf 33=9:=by kernel_rfl
theorem zhO:Tryz.prog.cellsOf 30=4:=by kernel_rfl
theorem zje:Tryz.prog.cellsOf 31=2:=by kernel_rfl
theorem zgg:Tryz.prog.cellsOf 29=1:=by kernel_rfl
theorem zg1:laidOutB Tryz.prog=true:=by kernel_rfl
theorem zbd {α:Type} (l:List α) (a k:Nat):l.drop a=(l.drop a).take k ++ l.drop (a+k):=by
 rw [← List.drop_drop,List.take_append_drop]
section
variable {H : Type} {enc : TypeId × Value → H} {w : World} {base : Nat} {spare : Nat → Bool} {held : Bool}
theorem zen {n:Nat} {cs:List Value} {y:DataW H × List MemPlace} (h:DataW.trod enc Tryz.prog w base spare held n 29 cs=some y):∃ k:Int,cs=[.int .u32 k]∧U32 k:=by
 obtain ⟨k,e,rfl,hk⟩:=DataW.trod_int Tryz.underlying29 h
 have b:=bounds_u32 hk
 exact ⟨k,e,b.1,by omega⟩
theorem zmw {n:Nat} {cs:List Value} {y:DataW H × List MemPlace} (h:DataW.trod enc Tryz.prog w base spare held n 30 cs=some y):∃ a b c d:Int,cs=[.int .u32 a,.int .u32 b,.int .u32 c,.int .u32 d]∧U32 a∧U32 b∧U32 c∧U32 d:=by
 obtain ⟨xs,m,_,_,hlen,hxs,hg⟩:=DataW.trod_array Tryz.underlying30 h
 rw [zhO] at hlen
 match cs,hlen,xs,hxs with
 | [c0,c1,c2,c3],_,[y0,y1,y2,y3],_ =>
  have g0:=hg 0 (by omega)
  have g1:=hg 1 (by omega)
  have g2:=hg 2 (by omega)
  have g3:=hg 3 (by omega)
  rw [zgg] at g0 g1 g2 g3
  obtain ⟨k0,e0,o0⟩:=zen (y:=y0) (by simpa using g0)
  obtain ⟨k1,e1,o1⟩:=zen (y:=y1) (by simpa using g1)
  obtain ⟨k2,e2,o2⟩:=zen (y:=y2) (by simpa using g2)
  obtain ⟨k3,e3,o3⟩:=zen (y:=y3) (by simpa using g3)
  simp only [List.cons.injEq,and_true] at e0 e1 e2 e3
  exact ⟨k0,k1,k2,k3,by rw [e0,e1,e2,e3],o0,o1,o2,o3⟩
theorem zjx {n:Nat} {cs:List Value} {y:DataW H × List MemPlace} (h:DataW.trod enc Tryz.prog w base spare held n 31 cs=some y):∃ a b:Int,cs=[.int .u32 a,.int .u32 b]∧U32 a∧U32 b:=by
 obtain ⟨xs,m,_,_,hlen,hxs,hg⟩:=DataW.trod_array Tryz.underlying31 h
 rw [zje] at hlen
 match cs,hlen,xs,hxs with
 | [c0,c1],_,[y0,y1],_ =>
  have g0:=hg 0 (by omega)
  have g1:=hg 1 (by omega)
  rw [zgg] at g0 g1
  obtain ⟨k0,e0,o0⟩:=zen (y:=y0) (by simpa using g0)
  obtain ⟨k1,e1,o1⟩:=zen (y:=y1) (by simpa using g1)
  simp only [List.cons.injEq,and_true] at e0 e1
  exact ⟨k0,k1,by rw [e0,e1],o0,o1⟩
theorem zqq {n:Nat} {cs:List Value} {y:DataW H × List MemPlace} (h:DataW.trod enc Tryz.prog w base spare held n 33 cs=some y):∃ p:Pl,cs=plL p∧Ok p:=by
 obtain ⟨xs,m,_,_,hlen,hxs,hg⟩:=DataW.trod_struct Tryz.underlying33 h
 rw [zgG] at hlen
 match xs,hxs with
 | [y0,y1,y2,y3],_ =>
  have g0:DataW.trod enc Tryz.prog w base spare held m 30 ((cs.drop 0).take (Tryz.prog.cellsOf 30))=some y0:=hg 0 _ rfl
  have g1:DataW.trod enc Tryz.prog w base spare held m 31 ((cs.drop 4).take (Tryz.prog.cellsOf 31))=some y1:=hg 1 _ rfl
  have g2:DataW.trod enc Tryz.prog w base spare held m 31 ((cs.drop 6).take (Tryz.prog.cellsOf 31))=some y2:=hg 2 _ rfl
  have g3:DataW.trod enc Tryz.prog w base spare held m 29 ((cs.drop 8).take (Tryz.prog.cellsOf 29))=some y3:=hg 3 _ rfl
  obtain ⟨a0,a1,a2,a3,e0,oa0,oa1,oa2,oa3⟩:=zmw g0
  obtain ⟨b0,b1,e1,ob0,ob1⟩:=zjx g1
  obtain ⟨c0,c1,e2,oc0,oc1⟩:=zjx g2
  obtain ⟨d0,e3,od0⟩:=zen g3
  rw [zhO] at e0
  rw [zje] at e1 e2
  rw [zgg] at e3
  refine ⟨⟨a0,a1,a2,a3,b0,b1,c0,c1,d0⟩,?_,⟨oa0,oa1,oa2,oa3,ob0,ob1,oc0,oc1,od0⟩⟩
  have k0:=zbd cs 0 4
  have k1:=zbd cs 4 2
  have k2:=zbd cs 6 2
  have k3:=zbd cs 8 1
  have z:cs.drop 9=[]:=List.drop_eq_nil_of_le (by omega)
  rw [show 8+1=9 from rfl,z,e3] at k3
  rw [show 6+2=8 from rfl,k3,e2] at k2
  rw [show 4+2=6 from rfl,k2,e1] at k1
  rw [show 0+4=4 from rfl,k1,e0] at k0
  exact k0
end
end Go.Proofs.YtmjjpgaeboaamaaGreatDoor.Pc
namespace Go.Proofs.YtmjjpgaeboaamaaGreatDoor
set_option maxRecDepth 100000
open Go.RowKit Go.Deep Go.Joins
open Go.WideShapes Go.ChangeShapes Go.ChangeAt
theorem ziu:Tryz.prog.cellsOf 35=21:=by kernel_rfl
theorem zgG:Tryz.prog.cellsOf 33=9:=by kernel_rfl
theorem zhG:Tryz.prog.cellsOf 28=1:=by kernel_rfl
theorem zfI:Tryz.prog.cellsOf 9=1:=by kernel_rfl
theorem ze3:Tryz.prog.cellsOf 4=1:=by kernel_rfl
theorem zh8:Tryz.prog.cellsOf 3=1:=by kernel_rfl
theorem ztW:Tryz.prog.bytesOf 9=16:=by kernel_rfl
theorem zbd {α:Type} (l:List α) (a k:Nat):l.drop a=(l.drop a).take k ++ l.drop (a+k):=by
 rw [← List.drop_drop,List.take_append_drop]
def U64 (x:Int):Prop:=0≤x∧x≤18446744073709551615
structure OkB (b:Bd):Prop where
 cmp:U64 b.cmp
 sector:U64 b.sector
 addr:U64 b.addr
 nicA:U64 b.nicA
 nicL:U64 b.nicL
 inn:b.inn.size≤maxLen
 sec:b.sec.size≤maxLen
 pl:Pc.Ok b.pl
section
variable {H : Type} {enc : TypeId × Value → H} {w : World} {base : Nat} {spare : Nat → Bool} {held : Bool}
theorem zbh {n:Nat} {cs:List Value} {y:DataW H × List MemPlace} (h:DataW.trod enc Tryz.prog w base spare held n 22 cs=some y):∃ k:Int,cs=[.int .u64 k]∧U64 k:=by
 obtain ⟨k,e,rfl,hk⟩:=DataW.trod_int Tryz.underlying22 h
 have b:=bounds_u64 hk
 exact ⟨k,e,b.1,b.2⟩
theorem zq5 {fuel:Nat} {c:Value} {x:DataW H × List MemPlace} (h:DataW.trod enc Tryz.prog w base spare held fuel 28 [c]=some x) :
  ∃ F,FAt w c F∧(∀ s∈F,s.size≤maxLen)∧∀ N,(∀ k∈x.1.weights Tryz.prog 28,k≤N)→F.length*16≤N:=by
 rcases open_strings Tryz.underlying28 Tryz.underlying9 zfI h with ⟨hcs,rfl⟩ | ⟨a,len,cap,ss,hcs,_,hl,hm,hz,rfl,hcell,hsz⟩
 ·simp only [List.cons.injEq,and_true] at hcs
  subst hcs
  exact ⟨[],⟨rfl,.inl ⟨rfl,rfl⟩⟩,fun s hs=>by (cases hs),fun N _=>Nat.zero_le _⟩
 ·simp only [List.cons.injEq,and_true] at hcs
  subst hcs
  have hlen:len≤ss.length:=by rw [hz];split <;> omega
  have hDl:(ss.take len).length=len:=by simp;omega
  refine ⟨ss.take len,⟨by rw [zeY,Nat.mul_one],.inr ⟨a,cap,by rw [hDl],by rw [hDl];exact hl,hm,fun j u hu=>?_⟩⟩,fun s hs=>hsz s (List.mem_of_mem_take hs),fun N hN=>?_⟩
  ·have hj:j<len:=by
    have:=(List.getElem?_eq_some_iff.1 hu).1
    rw [zeY,hDl] at this
    exact this
   rw [hcell j (by omega),← hu]
   simp only [sC,List.getElem?_map,List.getElem?_take_of_lt hj,List.getElem?_eq_getElem (show j<ss.length by omega),List.getD_eq_getElem?_getD,Option.map_some,Option.getD_some]
  ·have:=hN _ (by simp only [DataW.weights,Tryz.underlying28,List.mem_cons];exact .inl rfl)
   rw [ztW] at this
   simp [strs] at this
   rw [hDl]
   omega
theorem zoS {fuel:Nat} {cs:List Value} {y:DataW H × List MemPlace} (hf:DataW.trod enc Tryz.prog w base spare held fuel 35 cs=some y) :
  ∃ b F,cs=(bdC b).toList∧FAt w (.slice b.fp b.fn b.fc) F∧(∀ s∈F,s.size≤maxLen)∧OkB b∧∀ N,(∀ k∈y.1.weights Tryz.prog 35,k≤N)→F.length*16≤N:=by
 obtain ⟨xs,n,_,hd,hsz,hlen,hg⟩:=DataW.trod_struct Tryz.underlying35 hf
 rw [ziu] at hsz
 subst hd
 match xs,hlen with
 | [y0,y1,y2,y3,y4,y5,y6,y7,y8,y9,y10,y11,y12],_ =>
  have g0:DataW.trod enc Tryz.prog w base spare held n 4 ((cs.drop 0).take (Tryz.prog.cellsOf 4))=some y0:=hg 0 _ rfl
  have g1:DataW.trod enc Tryz.prog w base spare held n 22 ((cs.drop 1).take (Tryz.prog.cellsOf 22))=some y1:=hg 1 _ rfl
  have g2:DataW.trod enc Tryz.prog w base spare held n 9 ((cs.drop 2).take (Tryz.prog.cellsOf 9))=some y2:=hg 2 _ rfl
  have g3:DataW.trod enc Tryz.prog w base spare held n 4 ((cs.drop 3).take (Tryz.prog.cellsOf 4))=some y3:=hg 3 _ rfl
  have g4:DataW.trod enc Tryz.prog w base spare held n 9 ((cs.drop 4).take (Tryz.prog.cellsOf 9))=some y4:=hg 4 _ rfl
  have g5:DataW.trod enc Tryz.prog w base spare held n 22 ((cs.drop 5).take (Tryz.prog.cellsOf 22))=some y5:=hg 5 _ rfl
  have g6:DataW.trod enc Tryz.prog w base spare held n 22 ((cs.drop 6).take (Tryz.prog.cellsOf 22))=some y6:=hg 6 _ rfl
  have g7:DataW.trod enc Tryz.prog w base spare held n 4 ((cs.drop 7).take (Tryz.prog.cellsOf 4))=some y7:=hg 7 _ rfl
  have g8:DataW.trod enc Tryz.prog w base spare held n 4 ((cs.drop 8).take (Tryz.prog.cellsOf 4))=some y8:=hg 8 _ rfl
  have g9:DataW.trod enc Tryz.prog w base spare held n 28 ((cs.drop 9).take (Tryz.prog.cellsOf 28))=some y9:=hg 9 _ rfl
  have g10:DataW.trod enc Tryz.prog w base spare held n 22 ((cs.drop 10).take (Tryz.prog.cellsOf 22))=some y10:=hg 10 _ rfl
  have g11:DataW.trod enc Tryz.prog w base spare held n 22 ((cs.drop 11).take (Tryz.prog.cellsOf 22))=some y11:=hg 11 _ rfl
  have g12:DataW.trod enc Tryz.prog w base spare held n 33 ((cs.drop 12).take (Tryz.prog.cellsOf 33))=some y12:=hg 12 _ rfl
  obtain ⟨k0,e0,_⟩:=DataW.trod_bool Tryz.underlying4 g0
  rw [ze3] at e0
  obtain ⟨k1,e1,o1⟩:=zbh g1
  rw [zbl] at e1
  obtain ⟨k2,e2,_,o2⟩:=DataW.trod_string Tryz.underlying9 g2
  rw [zfI] at e2
  obtain ⟨k3,e3,_⟩:=DataW.trod_bool Tryz.underlying4 g3
  rw [ze3] at e3
  obtain ⟨k4,e4,_,o4⟩:=DataW.trod_string Tryz.underlying9 g4
  rw [zfI] at e4
  obtain ⟨k5,e5,o5⟩:=zbh g5
  rw [zbl] at e5
  obtain ⟨k6,e6,o6⟩:=zbh g6
  rw [zbl] at e6
  obtain ⟨k7,e7,_⟩:=DataW.trod_bool Tryz.underlying4 g7
  rw [ze3] at e7
  obtain ⟨k8,e8,_⟩:=DataW.trod_bool Tryz.underlying4 g8
  rw [ze3] at e8
  have l9:(cs.drop 9).take (Tryz.prog.cellsOf 28)=[cs[9]'(by omega)]:=by
   rw [zhG,List.drop_eq_getElem_cons (by omega)]
   rfl
  rw [l9] at g9
  obtain ⟨F,hF,hFs,hw⟩:=zq5 g9
  obtain ⟨q,cap,hq⟩:=hF.is
  have e9:(cs.drop 9).take 1=[.slice q F.length cap]:=by rw [← hq,← l9,zhG]
  obtain ⟨k10,e10,o10⟩:=zbh g10
  rw [zbl] at e10
  obtain ⟨k11,e11,o11⟩:=zbh g11
  rw [zbl] at e11
  obtain ⟨k12,e12,o12⟩:=Pc.zqq g12
  rw [zgG] at e12
  refine ⟨⟨k0,k1,k2,k3,k4,k5,k6,k7,k8,q,F.length,cap,k10,k11,k12⟩,F,?_,hq ▸ hF,hFs,⟨o1,o5,o6,o10,o11,o2,o4,o12⟩,fun N hN=>hw N fun k hk=>hN k ?_⟩
  ·have e:cs=bdL ⟨k0,k1,k2,k3,k4,k5,k6,k7,k8,q,F.length,cap,k10,k11,k12⟩ ++ plL k12:=by
    have a0:=zbd cs 0 1
    have a1:=zbd cs 1 1
    have a2:=zbd cs 2 1
    have a3:=zbd cs 3 1
    have a4:=zbd cs 4 1
    have a5:=zbd cs 5 1
    have a6:=zbd cs 6 1
    have a7:=zbd cs 7 1
    have a8:=zbd cs 8 1
    have a9:=zbd cs 9 1
    have a10:=zbd cs 10 1
    have a11:=zbd cs 11 1
    have a12:=zbd cs 12 9
    have z:cs.drop 21=[]:=List.drop_eq_nil_of_le (by omega)
    rw [show 12+9=21 from rfl,z,e12] at a12
    rw [show 11+1=12 from rfl,a12,e11] at a11
    rw [show 10+1=11 from rfl,a11,e10] at a10
    rw [show 9+1=10 from rfl,a10,e9] at a9
    rw [show 8+1=9 from rfl,a9,e8] at a8
    rw [show 7+1=8 from rfl,a8,e7] at a7
    rw [show 6+1=7 from rfl,a7,e6] at a6
    rw [show 5+1=6 from rfl,a6,e5] at a5
    rw [show 4+1=5 from rfl,a5,e4] at a4
    rw [show 3+1=4 from rfl,a4,e3] at a3
    rw [show 2+1=3 from rfl,a3,e2] at a2
    rw [show 1+1=2 from rfl,a2,e1] at a1
    rw [show 0+1=1 from rfl,a1,e0] at a0
    rw [List.append_nil] at a0
    exact a0
   rw [ziM]
   exact e
  ·simp [DataW.weights,Tryz.underlying35,DataW.weightsEach,hk]
end
end Go.Proofs.YtmjjpgaeboaamaaGreatDoor
