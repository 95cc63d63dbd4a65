/- MachineOn, part 21. -/
import Derived.Test.YtplcfdnfeclpmaaGreatDoorV05
set_option maxHeartbeats 4000000
set_option maxRecDepth 100000
open Go.Lib (hid)
open Go Go.RowKit Go.Deep Go.Joins Go.Proofs.Tryz
namespace Go.Proofs.YtplcfdnfeclpmaaGreatDoor
theorem zmb (b:Bd) (F:List ByteArray) (p1 q1:Option Addr) (c1 d1:Nat) (E k:Int) (es:ByteArray) (D:List UInt8) (M:List Int) (W:World) (hf:FAt W (.slice b.fp b.fn b.fc) F) (hF:F.length≤8796093022208) (hz:∀ f∈F,f.size≤9223372036854775807) (hd:DAt W (.slice p1 D.length c1) D) (hm:MAt W (.slice q1 M.length d1) M) (hD:D.length≤140737488351232) (hM:M.length≤17592186043904) (hb:BdOk b) :
  Calls Tryz.prog 201 #[bdV b,.agg (ramC (.slice p1 D.length c1) (.slice q1 M.length d1) E),.agg #[.int .i64 k,.string es]] W (zkd W E (actF b F E D M k es)):=by
 have HFR:=hid (fun W' (h:Below W.heap.size W W')=>hf.next h);have HDD:=hid (fun W' (h:Below W.heap.size W W')=>hd.below h);have HMM:=hid (fun W' (h:Below W.heap.size W W')=>hm.below h);have HSZ:=hid (And.intro hF (And.intro hD hM));have HB:=hid (And.intro hb hz);clear hf hF hd hm hD hM hb hz;go_enter func201,ntmps201;have X:=hid (zvr W b p1 q1 D.length M.length c1 d1 E k es);go_upto_region 1 with (fail);generalize ((((W.alloc (bdO b)).alloc (.cells (ramC (.slice p1 D.length c1) (.slice q1 M.length d1) E) 39)).alloc (.cells #[.int .i64 k,.string es] 162)).alloc zaj).alloc zb3=wr at X ⊢
 go_cut [10] (fun s10 wx=>∃ (z:Nat) (p:Option Addr) (c:Nat) (p2:Option Addr) (c2:Nat) (q2:Option Addr) (d2:Nat),s10=.pointer (some ⟨z,0,none⟩)∧Hid (Mem W wx [(z,ramC (.slice p2 D.length c2) (.slice q2 M.length d2) E,39),(W.heap.size+1+1+1+1,zgB,39),(W.heap.size+1+1+1,bdC bdZ,35),(W.heap.size+1+1,#[.int .i64 k,.string es],162),(W.heap.size+1,(ramC (.slice p1 D.length c1) (.slice q1 M.length d1) E),39),(W.heap.size,bdC (b.at p F.length c),35)] [(22,.slice q2 M.length d2,M.length,mC M),(5,.slice p2 D.length c2,D.length,dC D),(9,.slice p F.length c,F.length,sC F)]))
 case first =>
  refine dr (fun w=>w.heap[W.heap.size+1]?=some (.cells (ramC (.slice p1 D.length c1) (.slice q1 M.length d1) E) 39 (0,0))) fun wz hzz=>?_
  replace X:=hid (X.out.next hzz)
  clear hzz;refine tl 2 X.out.g3 (fun w hw=>zck hw) ?_
  refine two 0 4 (ld 0 (Box.load X.out.b4) X.out.g3 ?_ ?_)
  ·refine two 1 4 (cc 1 (zh3 (za6 b F _ (HFR.out _ X.out.below) HSZ.out.1)) ?_ ?_)
   ·rintro v' wb ⟨p,c,rfl,ho',kk⟩
    have X:=hid ((X.out.next kk).addrow ho' X.out.below.size (by decide));refine ⟨X.out.g3,fun hS=>?_⟩
    clear ho' kk;simp only [puts];refine two 3 4 (cc 3 (zgN (zfV _ _ E D M _ (HDD.out _ X.out.below) (HMM.out _ X.out.below) HSZ.out.2.1 HSZ.out.2.2)) ?_ ?_)
    ·rintro v' wm ⟨p2,c2,q2,d2,rfl,ho',ho2,kk⟩
     have X:=hid (((X.out.next kk).addrow ho' X.out.below.size (by decide)).addrow ho2 X.out.below.size (by decide));refine ⟨X.out.g3,fun hS=>?_⟩
     clear ho' ho2 kk;simp only [puts];refine ho 4 X.out.newR.g4 ?_
     have X:=hid X.out.newR;generalize wm.heap.size=z at X ⊢;generalize wm.alloc zb3=wn at X ⊢;refine hs 5 (zaY _ _ _ _ X.out.b5 (zaN _)) fun wy hw=>?_
     have X:=hid (X.out.p5 hw);refine ⟨X.out.g4,fun hS=>?_⟩
     clear hw;refine hs 6 (zcu X.out.g0 rfl) fun wy hw=>?_
     have X:=hid (X.out.p0 hw);refine ⟨X.out.g4,fun hS=>?_⟩
     clear hw;refine wpAnyH_done (by kernel_rfl) ?_ _
     go_wp2_with fail
     go_meet
     exact ⟨_,p,c,p2,c2,q2,d2,rfl,X⟩
    ·refine al 4 X.out.newR.g4 ?_ AllReadyH.nil
     have X:=hid X.out.newR;generalize wb.heap.size=z at X ⊢;generalize wb.alloc zb3=wn at X ⊢;refine hc 3 (zgN (zfV _ _ E D M _ (HDD.out _ X.out.below) (HMM.out _ X.out.below) HSZ.out.2.1 HSZ.out.2.2)) ?_
     rintro v' wm ⟨p2,c2,q2,d2,rfl,ho',ho2,kk⟩
     have X:=hid (((X.out.next kk).addrow ho' X.out.below.size (by decide)).addrow ho2 X.out.below.size (by decide));refine ⟨X.out.g4,fun hS=>?_⟩
     clear ho' ho2 kk;simp only [puts];refine hs 5 (zaY _ _ _ _ X.out.b5 (zaN _)) fun wy hw=>?_
     have X:=hid (X.out.p5 hw);refine ⟨X.out.g4,fun hS=>?_⟩
     clear hw;refine hs 6 (zcu X.out.g0 rfl) fun wy hw=>?_
     have X:=hid (X.out.p0 hw);refine ⟨X.out.g4,fun hS=>?_⟩
     clear hw;refine wpAnyH_done (by kernel_rfl) ?_ _
     go_wp2_with fail
     go_meet
     exact ⟨_,p,c,p2,c2,q2,d2,rfl,X⟩
   ·refine al 4 X.out.newR.g4 ?_ AllReadyH.nil
    have X:=hid X.out.newR;generalize wz.heap.size=z at X ⊢;generalize wz.alloc zb3=wn at X ⊢;refine hc 1 (zh3 (za6 b F _ (HFR.out _ X.out.below) HSZ.out.1)) ?_
    rintro v' wb ⟨p,c,rfl,ho',kk⟩
    have X:=hid ((X.out.next kk).addrow ho' X.out.below.size (by decide));refine ⟨X.out.g4,fun hS=>?_⟩
    clear ho' kk;simp only [puts];refine hc 3 (zgN (zfV _ _ E D M _ (HDD.out _ X.out.below) (HMM.out _ X.out.below) HSZ.out.2.1 HSZ.out.2.2)) ?_
    rintro v' wm ⟨p2,c2,q2,d2,rfl,ho',ho2,kk⟩
    have X:=hid (((X.out.next kk).addrow ho' X.out.below.size (by decide)).addrow ho2 X.out.below.size (by decide));refine ⟨X.out.g4,fun hS=>?_⟩
    clear ho' ho2 kk;simp only [puts];refine hs 5 (zaY _ _ _ _ X.out.b5 (zaN _)) fun wy hw=>?_
    have X:=hid (X.out.p5 hw);refine ⟨X.out.g4,fun hS=>?_⟩
    clear hw;refine hs 6 (zcu X.out.g0 rfl) fun wy hw=>?_
    have X:=hid (X.out.p0 hw);refine ⟨X.out.g4,fun hS=>?_⟩
    clear hw;refine wpAnyH_done (by kernel_rfl) ?_ _
    go_wp2_with fail
    go_meet
    exact ⟨_,p,c,p2,c2,q2,d2,rfl,X⟩
  ·refine al 4 X.out.newR.g4 ?_ AllReadyH.nil
   have X:=hid X.out.newR;generalize wz.heap.size=z at X ⊢;generalize wz.alloc zb3=wn at X ⊢;refine hl 0 (Box.load X.out.b5) X.out.g4 ?_
   refine hc 1 (zh3 (za6 b F _ (HFR.out _ X.out.below) HSZ.out.1)) ?_
   rintro v' wb ⟨p,c,rfl,ho',kk⟩
   have X:=hid ((X.out.next kk).addrow ho' X.out.below.size (by decide));refine ⟨X.out.g4,fun hS=>?_⟩
   clear ho' kk;simp only [puts];refine hc 3 (zgN (zfV _ _ E D M _ (HDD.out _ X.out.below) (HMM.out _ X.out.below) HSZ.out.2.1 HSZ.out.2.2)) ?_
   rintro v' wm ⟨p2,c2,q2,d2,rfl,ho',ho2,kk⟩
   have X:=hid (((X.out.next kk).addrow ho' X.out.below.size (by decide)).addrow ho2 X.out.below.size (by decide));refine ⟨X.out.g4,fun hS=>?_⟩
   clear ho' ho2 kk;simp only [puts];refine hs 5 (zaY _ _ _ _ X.out.b5 (zaN _)) fun wy hw=>?_
   have X:=hid (X.out.p5 hw);refine ⟨X.out.g4,fun hS=>?_⟩
   clear hw;refine hs 6 (zcu X.out.g0 rfl) fun wy hw=>?_
   have X:=hid (X.out.p0 hw);refine ⟨X.out.g4,fun hS=>?_⟩
   clear hw;refine wpAnyH_done (by kernel_rfl) ?_ _
   go_wp2_with fail
   go_meet
   exact ⟨_,p,c,p2,c2,q2,d2,rfl,X⟩
 case rest =>
  clear X HFR HDD HMM HSZ;obtain ⟨z,p,c,p2,c2,q2,d2,rfl,X⟩:=hcut;have m_k:wc.cell? ⟨W.heap.size+1+1,0,none⟩=some (.int .i64 k):=cell_of_row _ _ 0 _ 162 (0,0) X.out.g3
  have hk:k=1∨(k=2∧16≤b.sector)∨(k=2∧b.sector<16)∨(k=3∧16≤b.sector)∨(k=3∧b.sector<16∧zb0 D.length b.addr 64≠0)∨(k=3∧b.sector<16∧zb0 D.length b.addr 64=0∧hasB b=true)∨(k=3∧b.sector<16∧zb0 D.length b.addr 64=0∧hasB b=false)∨(k=4∧¬ 0<F.length)∨(k=4∧∃ h:0<F.length,putB D.length b.nicA F[0]=false)∨(k=4∧∃ h:0<F.length,putB D.length b.nicA F[0]=true)∨k=5∨(k≠1∧k≠2∧k≠3∧k≠4∧k≠5):=by
   by_cases k1:k=1
   ·simp [k1]
   by_cases k5:k=5
   ·simp [k5]
   by_cases k2:k=2
   ·have:16≤b.sector∨b.sector<16:=by omega
    simp [k2,this]
   by_cases k3:k=3
   ·by_cases h:16≤b.sector
    ·simp [k3,h]
    ·by_cases ht:zb0 D.length b.addr 64=0 <;> cases hasB b <;> simp [k3,ht] <;> omega
   by_cases k4:k=4
   ·by_cases h:0<F.length
    ·cases hp:putB D.length b.nicA F[0] <;> simp [k4,h,hp]
    ·simp [k4,h]
   ·simp [k1,k2,k3,k4,k5]
  rcases hk with rfl | ⟨rfl,h16⟩ | ⟨rfl,h16⟩ | ⟨rfl,h16⟩ | ⟨rfl,h16,hte⟩ | ⟨rfl,h16,hte,hb⟩ | ⟨rfl,h16,hte,hb⟩ | ⟨rfl,h0⟩ | ⟨rfl,h0,hk⟩ | ⟨rfl,h0,hk⟩ | rfl | ⟨k1,k2,k3,k4,k5⟩
  ·have HE:Hid (actF b F E D M 1 es=⟨b,F,D,M,es,true⟩):=hid (by simp [actF])
   go_upto_region 4 with (fail);clear m_k;generalize wc=wn at X ⊢;have X0:=X;refine dr (fun w=>w.heap[W.heap.size]?=wn.heap[W.heap.size]?∧w.heap[z]?=wn.heap[z]?∧w.heap[W.heap.size+1+1]?=wn.heap[W.heap.size+1+1]?) fun wz hzz=>?_
   have X:=hid (X0.out.next hzz);have hS:wz.heap[W.heap.size]?=wn.heap[W.heap.size]?∧wz.heap[z]?=wn.heap[z]?∧wz.heap[W.heap.size+1+1]?=wn.heap[W.heap.size+1+1]?:=⟨hzz.block _ X0.out.b5.lt,hzz.block _ (Array.getElem?_eq_some_iff.1 X0.out.g0).1,hzz.block _ (Array.getElem?_eq_some_iff.1 X0.out.g3).1⟩;clear hzz;refine tl 0 hS (fun w hw=>Box.load (hw.1.trans X0.out.b5)) ?_
   refine tl 1 hS (fun w hw=>zck (hw.2.1.trans X0.out.g0)) ?_
   refine tk 2 hS ?_
   refine tl 3 hS (fun w hw=>za0 w _ 1 9 162 _ _ _ (hw.2.2.trans X0.out.g3) underlying9 rfl rfl) ?_
   refine hs 4 (zaY _ _ _ _ X.out.b2 (zaN _)) fun wy hw=>?_
   have X:=hid (X.out.p2 hw);refine ⟨⟨X.out.b5.trans X0.out.b5.symm,X.out.g0.trans X0.out.g0.symm,X.out.g3.trans X0.out.g3.symm⟩,fun hS=>?_⟩
   clear hw;refine hs 5 (zcu X.out.g1 rfl) fun wy hw=>?_
   have X:=hid (X.out.p1 hw);refine ⟨⟨X.out.b5.trans X0.out.b5.symm,X.out.g0.trans X0.out.g0.symm,X.out.g3.trans X0.out.g3.symm⟩,fun hS=>?_⟩
   clear hw;refine tk 6 hS ?_
   refine tk 7 hS ?_
   refine wpAnyH_done (by kernel_rfl) ?_ _
   go_wp2_with fail;exact bodyPost_ret (v:=.tuple #[bdV _,.agg (ramC _ _ _),.string _,.bool _]) (zdk results201 _ _ (W.heap.size+1+1+1) (W.heap.size+1+1+1+1) _ _ _ _ _ _ rfl X.out.b2 rfl X.out.g1 rfl rfl) rfl (by rw [HE.out];first | exact ⟨_,_,_,_,rfl,FT.of X.out.r2,X.out.r1,X.out.r0,X.out.below⟩ | exact ⟨_,_,_,_,by rw [List.length_tail];exact rfl,zdf X.out.r2 h0 hFc hFm,X.out.r1,X.out.r0,X.out.below⟩ | exact ⟨_,_,_,_,by rw [show F.tail.length=0 by rw [List.length_tail];omega];exact rfl,zde X.out.r2 (by omega),X.out.r1,X.out.r0,X.out.below⟩)
  ·have HE:Hid (actF b F E D M 2 es=⟨{ b with done:=true,bad:=true },F,D,M,⟨#[]⟩,false⟩):=hid (by simp [actF,h16])
   have hsec:decide ((16:Int)≤b.sector)=true:=decide_eq_true h16;go_upto_region 7 with (with_reducible refine Box.w_done X.out.b5 rfl rfl rfl rfl ?_;intro wb hwy;have X:=hid (X.out.p5 (cs':=bdC (({ b with done:=true }:Bd).at p F.length c)) hwy);clear hwy);clear m_k;refine dr (fun _=>True) fun wz hzz=>?_
   have X:=hid (X.out.next hzz);clear hzz;have hS:=trivial;refine tk 0 hS ?_
   refine hl 1 (Box.at_sector X.out.b5) hS ?_
   refine tk 2 hS ?_
   refine tk 3 hS ?_
   refine tk 4 hS ?_
   refine tk 5 hS ?_
   refine tk 6 hS ?_
   refine tk 7 hS ?_
   refine tk 8 hS ?_
   refine tk 9 hS ?_
   refine tk 10 hS ?_
   refine tk 11 hS ?_
   refine hs 12 (Box.at_st_bad X.out.b5 _) fun wn hw=>?_
   have X:=hid (X.out.p5 hw);refine ⟨trivial,fun hS=>wpAnyH_done (by kernel_rfl) ?_ _⟩
   clear hw;go_upto_region 21 with (fail)
   all_goals
    have X0:=X;refine dr (fun w=>w.heap[W.heap.size]?=wn.heap[W.heap.size]?∧w.heap[z]?=wn.heap[z]?) fun wz hzz=>?_
    have X:=hid (X0.out.next hzz);have hS:wz.heap[W.heap.size]?=wn.heap[W.heap.size]?∧wz.heap[z]?=wn.heap[z]?:=⟨hzz.block _ X0.out.b5.lt,hzz.block _ (Array.getElem?_eq_some_iff.1 X0.out.g0).1⟩;clear hzz;refine tl 0 hS (fun w hw=>Box.load (hw.1.trans X0.out.b5)) ?_
    refine tl 1 hS (fun w hw=>zck (hw.2.trans X0.out.g0)) ?_
    refine hs 2 (zaY _ _ _ _ X.out.b2 (zaN _)) fun wy hw=>?_
    have X:=hid (X.out.p2 hw);refine ⟨⟨X.out.b5.trans X0.out.b5.symm,X.out.g0.trans X0.out.g0.symm⟩,fun hS=>?_⟩
    clear hw;refine hs 3 (zcu X.out.g1 rfl) fun wy hw=>?_
    have X:=hid (X.out.p1 hw);refine ⟨⟨X.out.b5.trans X0.out.b5.symm,X.out.g0.trans X0.out.g0.symm⟩,fun hS=>?_⟩
    clear hw;refine tk 4 hS ?_
    refine tk 5 hS ?_
    refine wpAnyH_done (by kernel_rfl) ?_ _
    go_wp2_with fail;exact bodyPost_ret (v:=.tuple #[bdV _,.agg (ramC _ _ _),.string _,.bool _]) (zdk results201 _ _ (W.heap.size+1+1+1) (W.heap.size+1+1+1+1) _ _ _ _ _ _ rfl X.out.b2 rfl X.out.g1 rfl rfl) rfl (by rw [HE.out];first | exact ⟨_,_,_,_,rfl,FT.of X.out.r2,X.out.r1,X.out.r0,X.out.below⟩ | exact ⟨_,_,_,_,by rw [List.length_tail];exact rfl,zdf X.out.r2 h0 hFc hFm,X.out.r1,X.out.r0,X.out.below⟩ | exact ⟨_,_,_,_,by rw [show F.tail.length=0 by rw [List.length_tail];omega];exact rfl,zde X.out.r2 (by omega),X.out.r1,X.out.r0,X.out.below⟩)
  ·have HE:Hid (actF b F E D M 2 es=⟨{ b with done:=true,bad:=!putB D.length b.addr (secV b) },F,putD D b.addr (secV b),putM D.length M E b.addr (secV b),⟨#[]⟩,false⟩):=hid (by simp [actF,Int.not_le.2 h16])
   have hsec:decide ((16:Int)≤b.sector)=false:=decide_eq_false (by omega);have c70:Hid (∀ W p c,TB 220 #[bdV (({ b with done:=true }:Bd).at p F.length c)] W (.string (secV b))):=hid fun W p c=>zug (({ b with done:=true }:Bd).at p F.length c) W HB.out.1.sector.1 h16
   have HZ:=hid (zzr b);clear h16;go_upto_region 7 with (with_reducible refine Box.w_done X.out.b5 rfl rfl rfl rfl ?_;intro wb hwy;have X:=hid (X.out.p5 (cs':=bdC (({ b with done:=true }:Bd).at p F.length c)) hwy);clear hwy);clear m_k;generalize secV b=sx at HE c70 HZ;refine dr (SA W.heap.size b) fun wz hzz=>?_
   have X:=hid (X.out.next hzz);clear hzz;have hS:=X.out.b5.sa;refine tk 0 hS ?_
   refine tl 1 hS (fun w hw=>hw.1) ?_
   refine tk 2 hS ?_
   refine tk 3 hS ?_
   refine tk 4 hS ?_
   refine tl 5 hS (fun w hw=>hw.2) ?_
   refine hl 6 (Box.load X.out.b5) hS ?_
   refine hc 7 (zbL (c70.out _ p c)) ?_
   rintro v' wb ⟨rfl,kk⟩
   have X:=hid (X.out.next kk);refine ⟨X.out.b5.sa,fun hS=>?_⟩
   clear kk;simp only [puts];refine hc 8 (zht X.out (by simp) b.addr sx HB.out.1.addr.1 HB.out.1.addr.2 HZ.out) ?_
   rintro v' wq ⟨rfl,X'⟩
   have X:=hid X';clear X';refine ⟨X.out.b5.sa,fun hS=>?_⟩
   simp only [puts];generalize putB D.length b.addr sx=ok at HE ⊢;refine tk 9 hS ?_
   refine tk 10 hS ?_
   refine tk 11 hS ?_
   refine hs 12 (Box.at_st_bad X.out.b5 _) fun wn hw=>?_
   have X:=hid (X.out.p5 hw);refine ⟨X.out.b5.sa,fun hS=>wpAnyH_done (by kernel_rfl) ?_ _⟩
   clear hw;go_upto_region 21 with (fail)
   all_goals
    have X0:=X;refine dr (fun w=>w.heap[W.heap.size]?=wn.heap[W.heap.size]?∧w.heap[z]?=wn.heap[z]?) fun wz hzz=>?_
    have X:=hid (X0.out.next hzz);have hS:wz.heap[W.heap.size]?=wn.heap[W.heap.size]?∧wz.heap[z]?=wn.heap[z]?:=⟨hzz.block _ X0.out.b5.lt,hzz.block _ (Array.getElem?_eq_some_iff.1 X0.out.g0).1⟩;clear hzz;refine tl 0 hS (fun w hw=>Box.load (hw.1.trans X0.out.b5)) ?_
    refine tl 1 hS (fun w hw=>zck (hw.2.trans X0.out.g0)) ?_
    refine hs 2 (zaY _ _ _ _ X.out.b2 (zaN _)) fun wy hw=>?_
    have X:=hid (X.out.p2 hw);refine ⟨⟨X.out.b5.trans X0.out.b5.symm,X.out.g0.trans X0.out.g0.symm⟩,fun hS=>?_⟩
    clear hw;refine hs 3 (zcu X.out.g1 rfl) fun wy hw=>?_
    have X:=hid (X.out.p1 hw);refine ⟨⟨X.out.b5.trans X0.out.b5.symm,X.out.g0.trans X0.out.g0.symm⟩,fun hS=>?_⟩
    clear hw;refine tk 4 hS ?_
    refine tk 5 hS ?_
    refine wpAnyH_done (by kernel_rfl) ?_ _
    go_wp2_with fail;exact bodyPost_ret (v:=.tuple #[bdV _,.agg (ramC _ _ _),.string _,.bool _]) (zdk results201 _ _ (W.heap.size+1+1+1) (W.heap.size+1+1+1+1) _ _ _ _ _ _ rfl X.out.b2 rfl X.out.g1 rfl rfl) rfl (by rw [HE.out];first | exact ⟨_,_,_,_,rfl,FT.of X.out.r2,X.out.r1,X.out.r0,X.out.below⟩ | exact ⟨_,_,_,_,by rw [List.length_tail];exact rfl,zdf X.out.r2 h0 hFc hFm,X.out.r1,X.out.r0,X.out.below⟩ | exact ⟨_,_,_,_,by rw [show F.tail.length=0 by rw [List.length_tail];omega];exact rfl,zde X.out.r2 (by omega),X.out.r1,X.out.r0,X.out.below⟩)
  ·have HE:Hid (actF b F E D M 3 es=⟨{ b with done:=true,bad:=true },F,D,M,⟨#[]⟩,false⟩):=hid (by simp [actF,h16])
   have hsec:decide ((16:Int)≤b.sector)=true:=decide_eq_true h16;obtain ⟨te,hte⟩:∃ x,zb0 D.length b.addr 64=x:=⟨_,rfl⟩;obtain ⟨ts,hts⟩:∃ x,zcg D b.addr 64=x:=⟨_,rfl⟩
   have c71:Hid (∀ w p2 c2 q2 d2,DAt w (.slice p2 D.length c2) D→TB 221 #[.agg (ramC (.slice p2 D.length c2) (.slice q2 M.length d2) E),.int .u64 b.addr,.int .i64 64] w (.tuple #[.string ts,.int .i64 te])):=hid fun w p2 c2 q2 d2 h=>by
    have k:=zfz (.slice p2 D.length c2) D (.slice q2 M.length d2) (.int .u64 E) b.addr 64 w h HB.out.1.addr.1 HB.out.1.addr.2 (by omega) (by omega);rw [hts,hte] at k;exact k
   clear hts hte h16;go_upto_region 11 with (first | (with_reducible first | refine zaa rfl rfl (zck X.out.g0) rfl ?_ | refine zaa rfl rfl (Box.at_addr X.out.b5) rfl ?_) | (go_at_call 221;(with_reducible refine (c71.out _ _ _ _ _ (DAt.of X.out.r1)).mono ?_);rintro e w7 ⟨rfl,kk⟩;have X:=hid (X.out.next kk);clear kk) | (with_reducible refine Box.w_done X.out.b5 rfl rfl rfl rfl ?_;intro wb hwy;have X:=hid (X.out.p5 (cs':=bdC (({ b with done:=true }:Bd).at p F.length c)) hwy);clear hwy));clear m_k;have m_sec:=X.out.b5.at_cell_sector;go_upto_region 12 with (with_reducible refine Box.w_bad X.out.b5 rfl rfl rfl rfl ?_;intro wv hwy;have X:=hid (X.out.p5 (cs':=bdC (({ b with done:=true,bad:=true }:Bd).at p F.length c)) hwy);clear hwy);clear m_sec;have m_bad:=X.out.b5.at_cell_bad;go_upto_region 21 with (fail);clear m_bad;generalize wv=wn at X ⊢
   all_goals
    have X0:=X;refine dr (fun w=>w.heap[W.heap.size]?=wn.heap[W.heap.size]?∧w.heap[z]?=wn.heap[z]?) fun wz hzz=>?_
    have X:=hid (X0.out.next hzz);have hS:wz.heap[W.heap.size]?=wn.heap[W.heap.size]?∧wz.heap[z]?=wn.heap[z]?:=⟨hzz.block _ X0.out.b5.lt,hzz.block _ (Array.getElem?_eq_some_iff.1 X0.out.g0).1⟩;clear hzz;refine tl 0 hS (fun w hw=>Box.load (hw.1.trans X0.out.b5)) ?_
    refine tl 1 hS (fun w hw=>zck (hw.2.trans X0.out.g0)) ?_
    refine hs 2 (zaY _ _ _ _ X.out.b2 (zaN _)) fun wy hw=>?_
    have X:=hid (X.out.p2 hw);refine ⟨⟨X.out.b5.trans X0.out.b5.symm,X.out.g0.trans X0.out.g0.symm⟩,fun hS=>?_⟩
    clear hw;refine hs 3 (zcu X.out.g1 rfl) fun wy hw=>?_
    have X:=hid (X.out.p1 hw);refine ⟨⟨X.out.b5.trans X0.out.b5.symm,X.out.g0.trans X0.out.g0.symm⟩,fun hS=>?_⟩
    clear hw;refine tk 4 hS ?_
    refine tk 5 hS ?_
    refine wpAnyH_done (by kernel_rfl) ?_ _
    go_wp2_with fail;exact bodyPost_ret (v:=.tuple #[bdV _,.agg (ramC _ _ _),.string _,.bool _]) (zdk results201 _ _ (W.heap.size+1+1+1) (W.heap.size+1+1+1+1) _ _ _ _ _ _ rfl X.out.b2 rfl X.out.g1 rfl rfl) rfl (by rw [HE.out];first | exact ⟨_,_,_,_,rfl,FT.of X.out.r2,X.out.r1,X.out.r0,X.out.below⟩ | exact ⟨_,_,_,_,by rw [List.length_tail];exact rfl,zdf X.out.r2 h0 hFc hFm,X.out.r1,X.out.r0,X.out.below⟩ | exact ⟨_,_,_,_,by rw [show F.tail.length=0 by rw [List.length_tail];omega];exact rfl,zde X.out.r2 (by omega),X.out.r1,X.out.r0,X.out.below⟩)
  ·have HE:Hid (actF b F E D M 3 es=⟨{ b with done:=true,bad:=true },F,D,M,⟨#[]⟩,false⟩):=hid (by simp [actF,hte])
   have hsec:decide ((16:Int)≤b.sector)=false:=decide_eq_false (by omega);generalize hte':zb0 D.length b.addr 64=te at hte;have htn:(te != 0)=true:=bne_iff_ne.2 hte;obtain ⟨ts,hts⟩:∃ x,zcg D b.addr 64=x:=⟨_,rfl⟩
   have c71:Hid (∀ w p2 c2 q2 d2,DAt w (.slice p2 D.length c2) D→TB 221 #[.agg (ramC (.slice p2 D.length c2) (.slice q2 M.length d2) E),.int .u64 b.addr,.int .i64 64] w (.tuple #[.string ts,.int .i64 te])):=hid fun w p2 c2 q2 d2 h=>by
    have k:=zfz (.slice p2 D.length c2) D (.slice q2 M.length d2) (.int .u64 E) b.addr 64 w h HB.out.1.addr.1 HB.out.1.addr.2 (by omega) (by omega);rw [hts,hte'] at k;exact k
   clear hts hte hte' h16;go_upto_region 11 with (first | (with_reducible first | refine zaa rfl rfl (zck X.out.g0) rfl ?_ | refine zaa rfl rfl (Box.at_addr X.out.b5) rfl ?_) | (go_at_call 221;(with_reducible refine (c71.out _ _ _ _ _ (DAt.of X.out.r1)).mono ?_);rintro e w7 ⟨rfl,kk⟩;have X:=hid (X.out.next kk);clear kk) | (with_reducible refine Box.w_done X.out.b5 rfl rfl rfl rfl ?_;intro wb hwy;have X:=hid (X.out.p5 (cs':=bdC (({ b with done:=true }:Bd).at p F.length c)) hwy);clear hwy));clear m_k;have m_sec:=X.out.b5.at_cell_sector;go_upto_region 12 with (with_reducible refine Box.w_bad X.out.b5 rfl rfl rfl rfl ?_;intro wv hwy;have X:=hid (X.out.p5 (cs':=bdC (({ b with done:=true,bad:=true }:Bd).at p F.length c)) hwy);clear hwy);clear m_sec;have m_bad:=X.out.b5.at_cell_bad;go_upto_region 21 with (fail);clear m_bad;generalize wv=wn at X ⊢
   all_goals
    have X0:=X;refine dr (fun w=>w.heap[W.heap.size]?=wn.heap[W.heap.size]?∧w.heap[z]?=wn.heap[z]?) fun wz hzz=>?_
    have X:=hid (X0.out.next hzz);have hS:wz.heap[W.heap.size]?=wn.heap[W.heap.size]?∧wz.heap[z]?=wn.heap[z]?:=⟨hzz.block _ X0.out.b5.lt,hzz.block _ (Array.getElem?_eq_some_iff.1 X0.out.g0).1⟩;clear hzz;refine tl 0 hS (fun w hw=>Box.load (hw.1.trans X0.out.b5)) ?_
    refine tl 1 hS (fun w hw=>zck (hw.2.trans X0.out.g0)) ?_
    refine hs 2 (zaY _ _ _ _ X.out.b2 (zaN _)) fun wy hw=>?_
    have X:=hid (X.out.p2 hw);refine ⟨⟨X.out.b5.trans X0.out.b5.symm,X.out.g0.trans X0.out.g0.symm⟩,fun hS=>?_⟩
    clear hw;refine hs 3 (zcu X.out.g1 rfl) fun wy hw=>?_
    have X:=hid (X.out.p1 hw);refine ⟨⟨X.out.b5.trans X0.out.b5.symm,X.out.g0.trans X0.out.g0.symm⟩,fun hS=>?_⟩
    clear hw;refine tk 4 hS ?_
    refine tk 5 hS ?_
    refine wpAnyH_done (by kernel_rfl) ?_ _
    go_wp2_with fail;exact bodyPost_ret (v:=.tuple #[bdV _,.agg (ramC _ _ _),.string _,.bool _]) (zdk results201 _ _ (W.heap.size+1+1+1) (W.heap.size+1+1+1+1) _ _ _ _ _ _ rfl X.out.b2 rfl X.out.g1 rfl rfl) rfl (by rw [HE.out];first | exact ⟨_,_,_,_,rfl,FT.of X.out.r2,X.out.r1,X.out.r0,X.out.below⟩ | exact ⟨_,_,_,_,by rw [List.length_tail];exact rfl,zdf X.out.r2 h0 hFc hFm,X.out.r1,X.out.r0,X.out.below⟩ | exact ⟨_,_,_,_,by rw [show F.tail.length=0 by rw [List.length_tail];omega];exact rfl,zde X.out.r2 (by omega),X.out.r1,X.out.r0,X.out.below⟩)
  ·have HE:Hid (actF b F E D M 3 es=⟨{ b with done:=true,bad:=false,sec:=(b.sec.extract 0 (64*b.sector.toNat) ++ zcg D b.addr 64) ++ b.sec.extract (64*b.sector.toNat+64) b.sec.size },F,D,M,⟨#[]⟩,false⟩):=hid (by simp [actF,hte,hb,Int.not_le.2 h16])
   have hsec:decide ((16:Int)≤b.sector)=false:=decide_eq_false (by omega);obtain ⟨ts,hts⟩:∃ x,zcg D b.addr 64=x:=⟨_,rfl⟩
   have c71:Hid (∀ w p2 c2 q2 d2,DAt w (.slice p2 D.length c2) D→TB 221 #[.agg (ramC (.slice p2 D.length c2) (.slice q2 M.length d2) E),.int .u64 b.addr,.int .i64 64] w (.tuple #[.string ts,.int .i64 0])):=hid fun w p2 c2 q2 d2 h=>by
    have k:=zfz (.slice p2 D.length c2) D (.slice q2 M.length d2) (.int .u64 E) b.addr 64 w h HB.out.1.addr.1 HB.out.1.addr.2 (by omega) (by omega);rw [hts,hte] at k;exact k
   have c72:Hid (∀ W p c,TB 59 #[bdV (({ b with done:=true,bad:=false }:Bd).at p F.length c)] W (.bool true)):=hid fun W p c=>by
    have k:=zd9 (({ b with done:=true,bad:=false }:Bd).at p F.length c) W;rw [show hasB (({ b with done:=true,bad:=false }:Bd).at p F.length c)=true from hb] at k;exact k
   obtain ⟨n,hn⟩:∃ n:Nat,b.sector=n:=⟨b.sector.toNat,by have:=HB.out.1.sector.1;omega⟩;have htz:ts.size≤64:=by rw [← hts];exact zq9 D b.addr 64
   have hsz:b.sec.size=1024:=by unfold hasB at hb;have:=eq_of_beq hb;omega
   have k1:IntKind.u64.wrap (b.sector*64)=((64*n:Nat):Int):=by rw [IntKind.wrap_u64];omega
   have k2:IntKind.u64.wrap (((64*n:Nat):Int)+64)=((64*n+64:Nat):Int):=by rw [IntKind.wrap_u64];omega
   have k3:64*n+64≤b.sec.size:=by omega
   rw [hts,show b.sector.toNat=n by omega] at HE;obtain ⟨pa,hpa⟩:∃ x,b.sec.extract 0 (64*n)=x:=⟨_,rfl⟩;obtain ⟨su,hsu⟩:∃ x,b.sec.extract (64*n+64) b.sec.size=x:=⟨_,rfl⟩;have hpz:pa.size≤1024:=by rw [← hpa];simp;omega
   have hsz2:su.size≤1024:=by rw [← hsu];simp;omega
   rw [hpa,hsu] at HE;generalize hm2:64*n+64=m2 at k2 k3 hsu;have k4:64*n≤m2:=by omega
   clear hm2;generalize 64*n=m at k1 k2 k4 hpa;have i0:(0:Int)≤m:=by omega
   have i1:(m:Int)≤m2:=by omega
   have i2:(m2:Int)≤b.sec.size:=by omega
   have i3:(0:Int)≤m2:=by omega
   have i4:(m:Int)≤b.sec.size:=by omega
   have i5:m≤b.sec.size:=by omega
   have hs1:¬ (9223372036854775807<(pa.size:Int)+ts.size):=by omega
   have hs2:¬ (9223372036854775807<pa.size+ts.size):=by omega
   have hs3:¬ (9223372036854775807<((pa ++ ts).size:Int)+su.size):=by rw [ByteArray.size_append];omega
   have hs4:¬ (9223372036854775807<(pa ++ ts).size+su.size):=by rw [ByteArray.size_append];omega
   have hs5:¬ (9223372036854775807<(pa.size:Int)+ts.size+su.size):=by omega
   have hs6:¬ (9223372036854775807<pa.size+ts.size+su.size):=by omega
   have HI:=hid (And.intro k1 (And.intro k2 (And.intro k3 (And.intro k4 (And.intro i0 (And.intro i1 (And.intro i2 (And.intro i3 (And.intro i4 i5)))))))));have HJ:=hid (And.intro hpa (And.intro hsu (And.intro hs1 (And.intro hs2 (And.intro hs3 (And.intro hs4 (And.intro hs5 hs6)))))));clear hts hte h16 hn htz hsz hb k1 k2 k3 k4 i0 i1 i2 i3 i4 i5 hpz hsz2 hs1 hs2 hs3 hs4 hs5 hs6 hpa hsu;go_upto_region 11 with (first | (with_reducible first | refine zaa rfl rfl (zck X.out.g0) rfl ?_ | refine zaa rfl rfl (Box.at_addr X.out.b5) rfl ?_) | (go_at_call 221;(with_reducible refine (c71.out _ _ _ _ _ (DAt.of X.out.r1)).mono ?_);rintro e w7 ⟨rfl,kk⟩;have X:=hid (X.out.next kk);clear kk) | (with_reducible refine Box.w_done X.out.b5 rfl rfl rfl rfl ?_;intro wb hwy;have X:=hid (X.out.p5 (cs':=bdC (({ b with done:=true }:Bd).at p F.length c)) hwy);clear hwy));clear m_k;have m_sec:=X.out.b5.at_cell_sector;go_upto_region 12 with (with_reducible refine Box.w_bad X.out.b5 rfl rfl rfl rfl ?_;intro wv hwy;have X:=hid (X.out.p5 (cs':=bdC (({ b with done:=true,bad:=false }:Bd).at p F.length c)) hwy);clear hwy);clear m_sec;have m_bad:=X.out.b5.at_cell_bad;go_upto_region 13 with (first | ((with_reducible show wpList _ _ _ (⟨some 65,Op.load 35 (.tmp 3),_,_,_,_⟩ :: _) _ _);refine zaU (by kernel_rfl) rfl (Box.load X.out.b5) rfl ?_;simp only [puts]) | (go_at_call 59;(with_reducible refine (c72.out _ _ _).mono ?_);rintro e w8 ⟨rfl,kk⟩;have X:=hid (X.out.next kk);clear kk));clear m_bad
   obtain ⟨k1,k2,k3,k4,i0,i1,i2,i3,i4,i5⟩:=HI.out;have m_sec:=X.out.b5.at_cell_sector;go_upto_region 14 with (fail);clear m_sec;obtain ⟨j1,j2,j3,j4,j5,j6,j7,j8⟩:=HJ.out;refine dr (fun _=>True) fun wz hzz=>?_
   have X:=hid (X.out.next hzz);clear hzz;have hS:=trivial;refine tk 0 hS ?_
   refine tk 2 hS ?_
   refine tk 4 hS ?_
   refine tk 6 hS ?_
   refine tk 8 hS ?_
   refine tk 9 hS ?_
   refine two 1 7 (ld 1 (Box.at_sec X.out.b5) hS ?_ (ld 7 (Box.at_sec X.out.b5) hS ?_ AllReadyH.nil))
   refine tk 3 hS ?_
   refine tk 5 hS ?_
   refine hl 7 (Box.at_sec X.out.b5) hS ?_
   refine tk 10 hS ?_
   rotate_left
   refine tk 10 hS ?_
   refine hl 1 (Box.at_sec X.out.b5) hS ?_
   refine tk 3 hS ?_
   refine tk 5 hS ?_
   all_goals
    refine tk 11 hS ?_
    refine tk 12 hS ?_
    refine hs 13 (Box.at_st_sec X.out.b5 _) fun wn hw=>?_
    have X:=hid (X.out.p5 hw);refine ⟨trivial,fun hS=>wpAnyH_done (by kernel_rfl) ?_ _⟩
    clear hw k1 k2 k3 k4 i0 i1 i2 i3 i4 i5 j1 j2 j3 j4 j5 j6 j7 j8;go_upto_region 21 with (fail)
   all_goals
    have X0:=X;refine dr (fun w=>w.heap[W.heap.size]?=wn.heap[W.heap.size]?∧w.heap[z]?=wn.heap[z]?) fun wz hzz=>?_
    have X:=hid (X0.out.next hzz);have hS:wz.heap[W.heap.size]?=wn.heap[W.heap.size]?∧wz.heap[z]?=wn.heap[z]?:=⟨hzz.block _ X0.out.b5.lt,hzz.block _ (Array.getElem?_eq_some_iff.1 X0.out.g0).1⟩;clear hzz;refine tl 0 hS (fun w hw=>Box.load (hw.1.trans X0.out.b5)) ?_
    refine tl 1 hS (fun w hw=>zck (hw.2.trans X0.out.g0)) ?_
    refine hs 2 (zaY _ _ _ _ X.out.b2 (zaN _)) fun wy hw=>?_
    have X:=hid (X.out.p2 hw);refine ⟨⟨X.out.b5.trans X0.out.b5.symm,X.out.g0.trans X0.out.g0.symm⟩,fun hS=>?_⟩
    clear hw;refine hs 3 (zcu X.out.g1 rfl) fun wy hw=>?_
    have X:=hid (X.out.p1 hw);refine ⟨⟨X.out.b5.trans X0.out.b5.symm,X.out.g0.trans X0.out.g0.symm⟩,fun hS=>?_⟩
    clear hw;refine tk 4 hS ?_
    refine tk 5 hS ?_
    refine wpAnyH_done (by kernel_rfl) ?_ _
    go_wp2_with fail;exact bodyPost_ret (v:=.tuple #[bdV _,.agg (ramC _ _ _),.string _,.bool _]) (zdk results201 _ _ (W.heap.size+1+1+1) (W.heap.size+1+1+1+1) _ _ _ _ _ _ rfl X.out.b2 rfl X.out.g1 rfl rfl) rfl (by rw [HE.out];first | exact ⟨_,_,_,_,rfl,FT.of X.out.r2,X.out.r1,X.out.r0,X.out.below⟩ | exact ⟨_,_,_,_,by rw [List.length_tail];exact rfl,zdf X.out.r2 h0 hFc hFm,X.out.r1,X.out.r0,X.out.below⟩ | exact ⟨_,_,_,_,by rw [show F.tail.length=0 by rw [List.length_tail];omega];exact rfl,zde X.out.r2 (by omega),X.out.r1,X.out.r0,X.out.below⟩)
  ·have HE:Hid (actF b F E D M 3 es=⟨{ b with done:=true,bad:=false },F,D,M,⟨#[]⟩,false⟩):=hid (by simp [actF,hte,hb,Int.not_le.2 h16])
   have hsec:decide ((16:Int)≤b.sector)=false:=decide_eq_false (by omega);obtain ⟨ts,hts⟩:∃ x,zcg D b.addr 64=x:=⟨_,rfl⟩
   have c71:Hid (∀ w p2 c2 q2 d2,DAt w (.slice p2 D.length c2) D→TB 221 #[.agg (ramC (.slice p2 D.length c2) (.slice q2 M.length d2) E),.int .u64 b.addr,.int .i64 64] w (.tuple #[.string ts,.int .i64 0])):=hid fun w p2 c2 q2 d2 h=>by
    have k:=zfz (.slice p2 D.length c2) D (.slice q2 M.length d2) (.int .u64 E) b.addr 64 w h HB.out.1.addr.1 HB.out.1.addr.2 (by omega) (by omega);rw [hts,hte] at k;exact k
   have c72:Hid (∀ W p c,TB 59 #[bdV (({ b with done:=true,bad:=false }:Bd).at p F.length c)] W (.bool false)):=hid fun W p c=>by
    have k:=zd9 (({ b with done:=true,bad:=false }:Bd).at p F.length c) W;rw [show hasB (({ b with done:=true,bad:=false }:Bd).at p F.length c)=false from hb] at k;exact k
   clear hts hte h16 hb;go_upto_region 11 with (first | (with_reducible first | refine zaa rfl rfl (zck X.out.g0) rfl ?_ | refine zaa rfl rfl (Box.at_addr X.out.b5) rfl ?_) | (go_at_call 221;(with_reducible refine (c71.out _ _ _ _ _ (DAt.of X.out.r1)).mono ?_);rintro e w7 ⟨rfl,kk⟩;have X:=hid (X.out.next kk);clear kk) | (with_reducible refine Box.w_done X.out.b5 rfl rfl rfl rfl ?_;intro wb hwy;have X:=hid (X.out.p5 (cs':=bdC (({ b with done:=true }:Bd).at p F.length c)) hwy);clear hwy));clear m_k;have m_sec:=X.out.b5.at_cell_sector;go_upto_region 12 with (with_reducible refine Box.w_bad X.out.b5 rfl rfl rfl rfl ?_;intro wv hwy;have X:=hid (X.out.p5 (cs':=bdC (({ b with done:=true,bad:=false }:Bd).at p F.length c)) hwy);clear hwy);clear m_sec;have m_bad:=X.out.b5.at_cell_bad;go_upto_region 21 with (first | ((with_reducible show wpList _ _ _ (⟨some 65,Op.load 35 (.tmp 3),_,_,_,_⟩ :: _) _ _);refine zaU (by kernel_rfl) rfl (Box.load X.out.b5) rfl ?_;simp only [puts]) | (go_at_call 59;(with_reducible refine (c72.out _ _ _).mono ?_);rintro e w8 ⟨rfl,kk⟩;have X:=hid (X.out.next kk);clear kk));clear m_bad;generalize w8=wn at X ⊢
   all_goals
    have X0:=X;refine dr (fun w=>w.heap[W.heap.size]?=wn.heap[W.heap.size]?∧w.heap[z]?=wn.heap[z]?) fun wz hzz=>?_
    have X:=hid (X0.out.next hzz);have hS:wz.heap[W.heap.size]?=wn.heap[W.heap.size]?∧wz.heap[z]?=wn.heap[z]?:=⟨hzz.block _ X0.out.b5.lt,hzz.block _ (Array.getElem?_eq_some_iff.1 X0.out.g0).1⟩;clear hzz;refine tl 0 hS (fun w hw=>Box.load (hw.1.trans X0.out.b5)) ?_
    refine tl 1 hS (fun w hw=>zck (hw.2.trans X0.out.g0)) ?_
    refine hs 2 (zaY _ _ _ _ X.out.b2 (zaN _)) fun wy hw=>?_
    have X:=hid (X.out.p2 hw);refine ⟨⟨X.out.b5.trans X0.out.b5.symm,X.out.g0.trans X0.out.g0.symm⟩,fun hS=>?_⟩
    clear hw;refine hs 3 (zcu X.out.g1 rfl) fun wy hw=>?_
    have X:=hid (X.out.p1 hw);refine ⟨⟨X.out.b5.trans X0.out.b5.symm,X.out.g0.trans X0.out.g0.symm⟩,fun hS=>?_⟩
    clear hw;refine tk 4 hS ?_
    refine tk 5 hS ?_
    refine wpAnyH_done (by kernel_rfl) ?_ _
    go_wp2_with fail;exact bodyPost_ret (v:=.tuple #[bdV _,.agg (ramC _ _ _),.string _,.bool _]) (zdk results201 _ _ (W.heap.size+1+1+1) (W.heap.size+1+1+1+1) _ _ _ _ _ _ rfl X.out.b2 rfl X.out.g1 rfl rfl) rfl (by rw [HE.out];first | exact ⟨_,_,_,_,rfl,FT.of X.out.r2,X.out.r1,X.out.r0,X.out.below⟩ | exact ⟨_,_,_,_,by rw [List.length_tail];exact rfl,zdf X.out.r2 h0 hFc hFm,X.out.r1,X.out.r0,X.out.below⟩ | exact ⟨_,_,_,_,by rw [show F.tail.length=0 by rw [List.length_tail];omega];exact rfl,zde X.out.r2 (by omega),X.out.r1,X.out.r0,X.out.below⟩)
  ·have HE:Hid (actF b F E D M 4 es=⟨b,F,D,M,⟨#[]⟩,false⟩):=hid (by simp [actF,h0])
   have g0:decide (0<F.length)=false:=decide_eq_false h0;clear h0;go_upto_region 16 with (fail);clear m_k;refine dr (fun w=>Box w W.heap.size (b.at p F.length c)) fun wn hzz=>?_
   have X:=hid (X.out.next hzz);clear hzz;have hS:=X.out.b5;refine tk 0 hS ?_
   refine tl 1 hS (fun w hw=>Box.rd_fr hw) ?_
   refine tk 2 hS ?_
   refine tk 3 hS ?_
   refine tk 4 hS ?_
   refine tk 5 hS ?_
   refine tk 6 hS ?_
   refine tk 7 hS ?_
   refine tk 8 hS ?_
   refine tk 9 hS ?_
   refine tk 10 hS ?_
   refine tk 11 hS ?_
   refine tk 12 hS ?_
   refine wpAnyH_done (by kernel_rfl) ?_ _
   go_upto_region 21 with (fail)
   all_goals
    have X0:=X;refine dr (fun w=>w.heap[W.heap.size]?=wn.heap[W.heap.size]?∧w.heap[z]?=wn.heap[z]?) fun wz hzz=>?_
    have X:=hid (X0.out.next hzz);have hS:wz.heap[W.heap.size]?=wn.heap[W.heap.size]?∧wz.heap[z]?=wn.heap[z]?:=⟨hzz.block _ X0.out.b5.lt,hzz.block _ (Array.getElem?_eq_some_iff.1 X0.out.g0).1⟩;clear hzz;refine tl 0 hS (fun w hw=>Box.load (hw.1.trans X0.out.b5)) ?_
    refine tl 1 hS (fun w hw=>zck (hw.2.trans X0.out.g0)) ?_
    refine hs 2 (zaY _ _ _ _ X.out.b2 (zaN _)) fun wy hw=>?_
    have X:=hid (X.out.p2 hw);refine ⟨⟨X.out.b5.trans X0.out.b5.symm,X.out.g0.trans X0.out.g0.symm⟩,fun hS=>?_⟩
    clear hw;refine hs 3 (zcu X.out.g1 rfl) fun wy hw=>?_
    have X:=hid (X.out.p1 hw);refine ⟨⟨X.out.b5.trans X0.out.b5.symm,X.out.g0.trans X0.out.g0.symm⟩,fun hS=>?_⟩
    clear hw;refine tk 4 hS ?_
    refine tk 5 hS ?_
    refine wpAnyH_done (by kernel_rfl) ?_ _
    go_wp2_with fail;exact bodyPost_ret (v:=.tuple #[bdV _,.agg (ramC _ _ _),.string _,.bool _]) (zdk results201 _ _ (W.heap.size+1+1+1) (W.heap.size+1+1+1+1) _ _ _ _ _ _ rfl X.out.b2 rfl X.out.g1 rfl rfl) rfl (by rw [HE.out];first | exact ⟨_,_,_,_,rfl,FT.of X.out.r2,X.out.r1,X.out.r0,X.out.below⟩ | exact ⟨_,_,_,_,by rw [List.length_tail];exact rfl,zdf X.out.r2 h0 hFc hFm,X.out.r1,X.out.r0,X.out.below⟩ | exact ⟨_,_,_,_,by rw [show F.tail.length=0 by rw [List.length_tail];omega];exact rfl,zde X.out.r2 (by omega),X.out.r1,X.out.r0,X.out.below⟩)
  ·have HE:Hid (actF b F E D M 4 es=⟨b,F,putD D b.nicA F[0],putM D.length M E b.nicA F[0],⟨#[]⟩,false⟩):=hid (by simp [actF,h0,hk])
   have g0:decide (0<F.length)=true:=decide_eq_true h0;have HZ:=hid (HB.out.2 F[0] (List.getElem_mem h0));have HK:=hid hk;obtain ⟨f0,hf0⟩:∃ x,F[0]=x:=⟨_,rfl⟩;rw [hf0] at HE HZ HK;have HF0:=hid hf0;clear hk hf0;go_upto_region 16 with (fail);clear m_k;obtain ⟨gr,hp,hFc⟩:=ziP X.out.r2 h0;subst hp;have hFm:=ziU X.out.r2 h0;refine dr (fun w=>Box w W.heap.size (b.at (some ⟨gr,0,none⟩) F.length c)∧w.cell? ⟨gr,0,none⟩=some (.string f0)) fun wz hzz=>?_
   have X:=hid (X.out.next hzz);clear hzz;have hS:=And.intro X.out.b5 (HF0.out ▸ zfN X.out.r2 0 h0);refine tk 0 hS ?_
   refine tl 1 hS (fun w hw=>Box.rd_fr hw.1) ?_
   refine tk 2 hS ?_
   refine tk 3 hS ?_
   refine tk 4 hS ?_
   refine tk 5 hS ?_
   refine tl 6 hS (fun w hw=>Box.at_nicA hw.1) ?_
   refine tk 7 hS ?_
   refine tl 8 hS (fun w hw=>Box.rd_fr hw.1) ?_
   refine tk 9 hS ?_
   refine tk 10 hS ?_
   refine hc 11 (zht X.out (by simp) b.nicA f0 HB.out.1.nicA.1 HB.out.1.nicA.2 HZ.out) ?_
   rintro v' wn ⟨hv',X'⟩
   rw [HK.out] at hv';subst hv';have X:=hid X';clear X';refine ⟨⟨X.out.b5,HF0.out ▸ zfN X.out.r2 0 h0⟩,fun hS=>?_⟩
   simp only [puts];refine tk 12 hS ?_
   refine wpAnyH_done (by kernel_rfl) ?_ _
   go_upto_region 21 with (fail)
   all_goals
    have X0:=X;refine dr (fun w=>w.heap[W.heap.size]?=wn.heap[W.heap.size]?∧w.heap[z]?=wn.heap[z]?) fun wz hzz=>?_
    have X:=hid (X0.out.next hzz);have hS:wz.heap[W.heap.size]?=wn.heap[W.heap.size]?∧wz.heap[z]?=wn.heap[z]?:=⟨hzz.block _ X0.out.b5.lt,hzz.block _ (Array.getElem?_eq_some_iff.1 X0.out.g0).1⟩;clear hzz;refine tl 0 hS (fun w hw=>Box.load (hw.1.trans X0.out.b5)) ?_
    refine tl 1 hS (fun w hw=>zck (hw.2.trans X0.out.g0)) ?_
    refine hs 2 (zaY _ _ _ _ X.out.b2 (zaN _)) fun wy hw=>?_
    have X:=hid (X.out.p2 hw);refine ⟨⟨X.out.b5.trans X0.out.b5.symm,X.out.g0.trans X0.out.g0.symm⟩,fun hS=>?_⟩
    clear hw;refine hs 3 (zcu X.out.g1 rfl) fun wy hw=>?_
    have X:=hid (X.out.p1 hw);refine ⟨⟨X.out.b5.trans X0.out.b5.symm,X.out.g0.trans X0.out.g0.symm⟩,fun hS=>?_⟩
    clear hw;refine tk 4 hS ?_
    refine tk 5 hS ?_
    refine wpAnyH_done (by kernel_rfl) ?_ _
    go_wp2_with fail;exact bodyPost_ret (v:=.tuple #[bdV _,.agg (ramC _ _ _),.string _,.bool _]) (zdk results201 _ _ (W.heap.size+1+1+1) (W.heap.size+1+1+1+1) _ _ _ _ _ _ rfl X.out.b2 rfl X.out.g1 rfl rfl) rfl (by rw [HE.out];first | exact ⟨_,_,_,_,rfl,FT.of X.out.r2,X.out.r1,X.out.r0,X.out.below⟩ | exact ⟨_,_,_,_,by rw [List.length_tail];exact rfl,zdf X.out.r2 h0 hFc hFm,X.out.r1,X.out.r0,X.out.below⟩ | exact ⟨_,_,_,_,by rw [show F.tail.length=0 by rw [List.length_tail];omega];exact rfl,zde X.out.r2 (by omega),X.out.r1,X.out.r0,X.out.below⟩)
  ·have HE:Hid (actF b F E D M 4 es=⟨b,F.tail,putD D b.nicA F[0],putM D.length M E b.nicA F[0],⟨#[]⟩,false⟩):=hid (by simp [actF,h0,hk])
   have g0:decide (0<F.length)=true:=decide_eq_true h0;have HZ:=hid (HB.out.2 F[0] (List.getElem_mem h0));have HK:=hid hk;obtain ⟨f0,hf0⟩:∃ x,F[0]=x:=⟨_,rfl⟩;rw [hf0] at HE HZ HK;have HF0:=hid hf0;clear hk hf0;go_upto_region 16 with (fail);clear m_k;obtain ⟨gr,hp,hFc⟩:=ziP X.out.r2 h0;subst hp;have hFm:=ziU X.out.r2 h0;refine dr (fun w=>Box w W.heap.size (b.at (some ⟨gr,0,none⟩) F.length c)∧w.cell? ⟨gr,0,none⟩=some (.string f0)) fun wz hzz=>?_
   have X:=hid (X.out.next hzz);clear hzz;have hS:=And.intro X.out.b5 (HF0.out ▸ zfN X.out.r2 0 h0);refine tk 0 hS ?_
   refine tl 1 hS (fun w hw=>Box.rd_fr hw.1) ?_
   refine tk 2 hS ?_
   refine tk 3 hS ?_
   refine tk 4 hS ?_
   refine tk 5 hS ?_
   refine tl 6 hS (fun w hw=>Box.at_nicA hw.1) ?_
   refine tk 7 hS ?_
   refine tl 8 hS (fun w hw=>Box.rd_fr hw.1) ?_
   refine tk 9 hS ?_
   refine tk 10 hS ?_
   refine hc 11 (zht X.out (by simp) b.nicA f0 HB.out.1.nicA.1 HB.out.1.nicA.2 HZ.out) ?_
   rintro v' wn ⟨hv',X'⟩
   rw [HK.out] at hv';subst hv';have X:=hid X';clear X';refine ⟨⟨X.out.b5,HF0.out ▸ zfN X.out.r2 0 h0⟩,fun hS=>?_⟩
   simp only [puts];refine tk 12 hS ?_
   refine wpAnyH_done (by kernel_rfl) ?_ _
   have hc1:(1:Int)≤F.length:=by omega
   have hc2:(1:Int)≤c:=by omega
   rcases Nat.lt_or_ge 1 c with hc0 | hc0
   have hc0:¬ c=1:=by omega
   rotate_left
   obtain rfl:c=1:=by omega
   all_goals
    go_upto_region 21 with (first | (with_reducible refine zaa rfl rfl (Box.rd_fr X.out.b5) rfl ?_) | (with_reducible refine Box.w_fr X.out.b5 rfl rfl rfl rfl ?_;intro wy hwy;have X:=hid (X.out.p5 hwy);clear hwy));generalize wy=wn at X ⊢
   all_goals
    have X0:=X;refine dr (fun w=>w.heap[W.heap.size]?=wn.heap[W.heap.size]?∧w.heap[z]?=wn.heap[z]?) fun wz hzz=>?_
    have X:=hid (X0.out.next hzz);have hS:wz.heap[W.heap.size]?=wn.heap[W.heap.size]?∧wz.heap[z]?=wn.heap[z]?:=⟨hzz.block _ X0.out.b5.lt,hzz.block _ (Array.getElem?_eq_some_iff.1 X0.out.g0).1⟩;clear hzz;refine tl 0 hS (fun w hw=>Box.load (hw.1.trans X0.out.b5)) ?_
    refine tl 1 hS (fun w hw=>zck (hw.2.trans X0.out.g0)) ?_
    refine hs 2 (zaY _ _ _ _ X.out.b2 (zaN _)) fun wy hw=>?_
    have X:=hid (X.out.p2 hw);refine ⟨⟨X.out.b5.trans X0.out.b5.symm,X.out.g0.trans X0.out.g0.symm⟩,fun hS=>?_⟩
    clear hw;refine hs 3 (zcu X.out.g1 rfl) fun wy hw=>?_
    have X:=hid (X.out.p1 hw);refine ⟨⟨X.out.b5.trans X0.out.b5.symm,X.out.g0.trans X0.out.g0.symm⟩,fun hS=>?_⟩
    clear hw;refine tk 4 hS ?_
    refine tk 5 hS ?_
    refine wpAnyH_done (by kernel_rfl) ?_ _
    go_wp2_with fail;exact bodyPost_ret (v:=.tuple #[bdV _,.agg (ramC _ _ _),.string _,.bool _]) (zdk results201 _ _ (W.heap.size+1+1+1) (W.heap.size+1+1+1+1) _ _ _ _ _ _ rfl X.out.b2 rfl X.out.g1 rfl rfl) rfl (by rw [HE.out];first | exact ⟨_,_,_,_,rfl,FT.of X.out.r2,X.out.r1,X.out.r0,X.out.below⟩ | exact ⟨_,_,_,_,by rw [List.length_tail];exact rfl,zdf X.out.r2 h0 hFc hFm,X.out.r1,X.out.r0,X.out.below⟩ | exact ⟨_,_,_,_,by rw [show F.tail.length=0 by rw [List.length_tail];omega];exact rfl,zde X.out.r2 (by omega),X.out.r1,X.out.r0,X.out.below⟩)
  ·have HE:Hid (actF b F E D M 5 es=⟨b,F,D,M,(goV D b).1,(goV D b).2⟩):=hid (by simp [actF])
   have ha2:0≤(b.at p F.length c).nicA∧(b.at p F.length c).nicA≤18446744073709551615:=HB.out.1.nicA;go_upto_region 20 with (first | (with_reducible first | refine zaa rfl rfl (Box.load X.out.b5) rfl ?_ | refine zaa rfl rfl (zck X.out.g0) rfl ?_) | (go_at_call 222;(with_reducible refine (zp3 (b.at p F.length c) p2 q2 D.length M.length c2 d2 E D _ ha2 (DAt.of X.out.r1)).mono ?_);rintro e wn ⟨rfl,kk⟩;have X:=hid (X.out.next kk);clear kk));clear m_k ha2;have X0:=X;refine dr (fun w=>w.heap[W.heap.size]?=wn.heap[W.heap.size]?∧w.heap[z]?=wn.heap[z]?) fun wz hzz=>?_
   have X:=hid (X0.out.next hzz);have hS:wz.heap[W.heap.size]?=wn.heap[W.heap.size]?∧wz.heap[z]?=wn.heap[z]?:=⟨hzz.block _ X0.out.b5.lt,hzz.block _ (Array.getElem?_eq_some_iff.1 X0.out.g0).1⟩;clear hzz;refine tl 0 hS (fun w hw=>Box.load (hw.1.trans X0.out.b5)) ?_
   refine tl 1 hS (fun w hw=>zck (hw.2.trans X0.out.g0)) ?_
   refine tk 2 hS ?_
   refine tk 3 hS ?_
   refine hs 4 (zaY _ _ _ _ X.out.b2 (zaN _)) fun wy hw=>?_
   have X:=hid (X.out.p2 hw);refine ⟨⟨X.out.b5.trans X0.out.b5.symm,X.out.g0.trans X0.out.g0.symm⟩,fun hS=>?_⟩
   clear hw;refine hs 5 (zcu X.out.g1 rfl) fun wy hw=>?_
   have X:=hid (X.out.p1 hw);refine ⟨⟨X.out.b5.trans X0.out.b5.symm,X.out.g0.trans X0.out.g0.symm⟩,fun hS=>?_⟩
   clear hw;refine tk 6 hS ?_
   refine tk 7 hS ?_
   refine wpAnyH_done (by kernel_rfl) ?_ _
   go_wp2_with fail;exact bodyPost_ret (v:=.tuple #[bdV _,.agg (ramC _ _ _),.string _,.bool _]) (zdk results201 _ _ (W.heap.size+1+1+1) (W.heap.size+1+1+1+1) _ _ _ _ _ _ rfl X.out.b2 rfl X.out.g1 rfl rfl) rfl (by rw [HE.out];first | exact ⟨_,_,_,_,rfl,FT.of X.out.r2,X.out.r1,X.out.r0,X.out.below⟩ | exact ⟨_,_,_,_,by rw [List.length_tail];exact rfl,zdf X.out.r2 h0 hFc hFm,X.out.r1,X.out.r0,X.out.below⟩ | exact ⟨_,_,_,_,by rw [show F.tail.length=0 by rw [List.length_tail];omega];exact rfl,zde X.out.r2 (by omega),X.out.r1,X.out.r0,X.out.below⟩)
  ·have HE:Hid (actF b F E D M k es=⟨b,F,D,M,⟨#[]⟩,false⟩):=hid (by simp [actF,k1,k2,k3,k4,k5])
   have e1:(k==1)=false:=beq_eq_false_iff_ne.2 k1;have e2:(k==2)=false:=beq_eq_false_iff_ne.2 k2;have e3:(k==3)=false:=beq_eq_false_iff_ne.2 k3;have e4:(k==4)=false:=beq_eq_false_iff_ne.2 k4;have e5:(k==5)=false:=beq_eq_false_iff_ne.2 k5;clear k1 k2 k3 k4 k5;go_upto_region 21 with (fail);clear m_k;generalize wc=wn at X ⊢
   all_goals
    have X0:=X;refine dr (fun w=>w.heap[W.heap.size]?=wn.heap[W.heap.size]?∧w.heap[z]?=wn.heap[z]?) fun wz hzz=>?_
    have X:=hid (X0.out.next hzz);have hS:wz.heap[W.heap.size]?=wn.heap[W.heap.size]?∧wz.heap[z]?=wn.heap[z]?:=⟨hzz.block _ X0.out.b5.lt,hzz.block _ (Array.getElem?_eq_some_iff.1 X0.out.g0).1⟩;clear hzz;refine tl 0 hS (fun w hw=>Box.load (hw.1.trans X0.out.b5)) ?_
    refine tl 1 hS (fun w hw=>zck (hw.2.trans X0.out.g0)) ?_
    refine hs 2 (zaY _ _ _ _ X.out.b2 (zaN _)) fun wy hw=>?_
    have X:=hid (X.out.p2 hw);refine ⟨⟨X.out.b5.trans X0.out.b5.symm,X.out.g0.trans X0.out.g0.symm⟩,fun hS=>?_⟩
    clear hw;refine hs 3 (zcu X.out.g1 rfl) fun wy hw=>?_
    have X:=hid (X.out.p1 hw);refine ⟨⟨X.out.b5.trans X0.out.b5.symm,X.out.g0.trans X0.out.g0.symm⟩,fun hS=>?_⟩
    clear hw;refine tk 4 hS ?_
    refine tk 5 hS ?_
    refine wpAnyH_done (by kernel_rfl) ?_ _
    go_wp2_with fail;exact bodyPost_ret (v:=.tuple #[bdV _,.agg (ramC _ _ _),.string _,.bool _]) (zdk results201 _ _ (W.heap.size+1+1+1) (W.heap.size+1+1+1+1) _ _ _ _ _ _ rfl X.out.b2 rfl X.out.g1 rfl rfl) rfl (by rw [HE.out];first | exact ⟨_,_,_,_,rfl,FT.of X.out.r2,X.out.r1,X.out.r0,X.out.below⟩ | exact ⟨_,_,_,_,by rw [List.length_tail];exact rfl,zdf X.out.r2 h0 hFc hFm,X.out.r1,X.out.r0,X.out.below⟩ | exact ⟨_,_,_,_,by rw [show F.tail.length=0 by rw [List.length_tail];omega];exact rfl,zde X.out.r2 (by omega),X.out.r1,X.out.r0,X.out.below⟩)
end Go.Proofs.YtplcfdnfeclpmaaGreatDoor
