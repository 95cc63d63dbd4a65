/- MachineOn, part 42. -/
import Derived.Test.YtplcfdnfeclpmaaGreatDoorV15
import Derived.Test.YtplcfdnfeclpmaaGreatDoorV36
import Derived.Test.YtplcfdnfeclpmaaGreatDoorV39
import Derived.Test.YtplcfdnfeclpmaaGreatDoorV41
set_option maxHeartbeats 4000000
set_option maxRecDepth 100000
open Go.Lib (hid)
open Go Go.RowKit Go.Deep Go.Joins Go.Proofs.Tryz
namespace Go.Proofs.YtplcfdnfeclpmaaGreatDoor
structure HOk (h:Hart):Prop where
 x:∀ n,Al.U64 (xV h n)
 pc:Al.U64 h.pc
 c:Cs.RU h.c
 rat:Al.U64 h.rat
theorem zis (a t:Int):Al.U64 (Tr.zez a t):=by
 unfold Tr.zez
 split
 ·exact zaX _
 ·exact Al.zad _ _ _
theorem zjN {h:Hart} (H:HOk h) (k:Nat) (hk:k≤63) (it:Bool) (v:Int) (hv:Al.U64 v):HOk (Tr.zdY h k it v):=by
 have ht:Al.U64 (Tr.zcE k it):=by
  unfold Tr.zcE
  split
  ·exact Al.zad _ _ _
  ·exact ⟨by omega,by omega⟩
 obtain ⟨c0,c1,c2,c3,c4,c5,c6,c7,c8,c9,c10,c11,c12,c13,c14,c15⟩:=H.c;unfold Tr.zdY
 split
 ·exact ⟨H.x,zis _ _,⟨Al.zad BinOp.andNot _ _,c1,c2,c3,c4,c5,c6,c7,c8,c9,c10,c11,Al.zad BinOp.andNot _ _,ht,hv,c15⟩,Al.zap⟩
 ·exact ⟨H.x,zis _ _,⟨Al.zad BinOp.andNot _ _,c1,c2,c3,c4,c5,c6,Al.zad BinOp.andNot _ _,ht,hv,c10,c11,c12,c13,c14,c15⟩,Al.zap⟩
theorem zd3 {h:Hart} (H:HOk h) (c v:Int) (hv:Al.U64 v):HOk (tkH h c v):=by
 unfold tkH
 split
 ·exact zjN H _ (by omega) _ _ hv
 ·exact H
theorem zdl {h:Hart} (H:HOk h) (n v:Int) (hv:Al.U64 v):HOk (putH h n v):=by
 unfold putH
 split
 ·exact H
 ·refine ⟨fun k=>?_,H.pc,H.c,H.rat⟩
  have hk:=H.x k;unfold xV at hk ⊢;show Al.U64 ((h.x.set n.toNat v).getD k.toNat 0)
  rw [List.getD_eq_getElem?_getD,List.getElem?_set]
  split
  ·split
   ·exact hv
   ·exact Al.zap
  ·rw [← List.getD_eq_getElem?_getD]
   exact hk
theorem zg0 {h:Hart} (H:HOk h):HOk (relH h):=⟨H.x,H.pc,H.c,Al.zap⟩
theorem zc8 {h:Hart} (H:HOk h) (D:List UInt8) (t kind:Int) (ht:Al.U64 t):HOk (fnH h D t kind).2.2:=by
 unfold fnH
 split
 ·exact H
 ·exact zd3 H _ _ ht
theorem zfK {h:Hart} (H:HOk h) (g:Wk):HOk (noH h g):=zd3 H _ _ (zaX _)
theorem zz0 {h:Hart} (H:HOk h):HOk (Tr.zd6 h):=by
 obtain ⟨c0,c1,c2,c3,c4,c5,c6,c7,c8,c9,c10,c11,c12,c13,c14,c15⟩:=H.c;refine ⟨H.x,c7,⟨?_,c1,c2,c3,c4,c5,c6,c7,c8,c9,c10,c11,c12,c13,c14,c15⟩,H.rat⟩
 show Al.U64 (Tr.zdK _ _)
 unfold Tr.zdK
 split <;> exact Al.zad _ _ _
theorem zvg {h:Hart} (H:HOk h):HOk (Tr.zeb h):=by
 obtain ⟨c0,c1,c2,c3,c4,c5,c6,c7,c8,c9,c10,c11,c12,c13,c14,c15⟩:=H.c;exact ⟨H.x,c12,⟨Al.zad BinOp.andNot _ _,c1,c2,c3,c4,c5,c6,c7,c8,c9,c10,c11,c12,c13,c14,c15⟩,H.rat⟩
theorem wr_u {v:Mc} (H:HOk v.h) (g:Wk) (was:Int):Al.U64 (wrV v g was).1:=by
 have hg:Al.U64 (zeo v g):=by
  unfold zeo
  split
  ·exact zaX _
  ·exact H.x _
 unfold wrV
 split
 ·exact Al.zad BinOp.or _ _
 ·split
  ·exact Al.zad BinOp.andNot _ _
  ·exact hg
theorem zsv {v:Mc} (H:HOk v.h) (g:Wk):HOk (ctR v g).2:=by
 have hu:=Cs.rd_u v.h.c v.h.mode g.i g.l v.cnt;unfold ctR;simp only
 split
 ·exact zfK H g
 ·split
  ·split
   ·exact zfK H g
   ·have H2:HOk { v.h with c:=(Cs.wtV v.h.c v.h.mode g.i (wrV v g (Cs.rdV v.h.c v.h.mode g.i g.l v.cnt).1).1).1 }:=⟨H.x,H.pc,Cs.wt_u _ _ _ _ H.c,H.rat⟩
    exact zdl H2 _ _ hu
  ·exact zdl H _ _ hu
theorem zy3 {s:Int} (h:zdd s=true):s.toNat≤8:=by
 unfold zdd at h;have:=of_decide_eq_true h;omega
theorem zjp (D:List UInt8) (t s:Int):Al.U64 (ldV D t s):=by
 unfold ldV
 split
 ·rename_i h
  unfold stB at h;rw [Bool.and_eq_true] at h;have h8:=zy3 h.1;refine ⟨by omega,?_⟩
  have h1:=zid ((D.drop (t - 2147483648).toNat).take s.toNat);have h2:((D.drop (t - 2147483648).toNat).take s.toNat).length≤8:=by rw [List.length_take];exact Nat.le_trans (Nat.min_le_left _ _) h8
  have h3:256 ^ ((D.drop (t - 2147483648).toNat).take s.toNat).length≤256 ^ 8:=Nat.pow_le_pow_right (by omega) h2;have h4:(256:Nat) ^ 8=18446744073709551616:=by decide
  omega
 ·exact Al.zap
theorem mm_u (p:Pt) (t s:Int):Al.U64 (mmV p t s).1:=by
 unfold mmV
 split
 ·exact Al.zap
 ·split
  ·exact zjp _ _ _
  ·exact Al.zap
theorem zjW (s:Bool):Al.U64 (bV s 0):=by cases s <;> exact ⟨by decide,by decide⟩
structure BOk (b:Bd):Prop where
 cmp:Al.U64 b.cmp
 nicL:Al.U64 b.nicL
theorem zxI (b:Bd) (F:List ByteArray) (t s n:Int) (hn:Al.U64 n) (H:BOk b) (K:BdOk b):Al.U64 (ldF b F t s n).2.2.1:=by
 have hh:Al.U64 (zet b.inn):=by
  unfold zet
  split
  ·exact ⟨by omega,by have:=UInt8.toNat_lt (b.inn[0]'(by assumption));omega⟩
  ·exact Al.zap
 have hl:Al.U64 (lenF F):=by
  unfold lenF
  split
  ·exact zaX _
  ·exact Al.zap
 have k1:Al.U64 b.sector:=⟨K.sector.1,by have:=K.sector.2;omega⟩;have k2:Al.U64 b.addr:=⟨K.addr.1,by have:=K.addr.2;omega⟩;have k3:Al.U64 b.nicA:=⟨K.nicA.1,by have:=K.nicA.2;omega⟩;show (fun R:Bd × List ByteArray × Int × Bool=>Al.U64 R.2.2.1) (ldF b F t s n)
 unfold ldF;refine zaf (fun R:Bd × List ByteArray × Int × Bool=>Al.U64 R.2.2.1) _ _ _ (zjW _) ?_
 refine zaf (fun R:Bd × List ByteArray × Int × Bool=>Al.U64 R.2.2.1) _ _ _ (H.cmp) ?_
 refine zaf (fun R:Bd × List ByteArray × Int × Bool=>Al.U64 R.2.2.1) _ _ _ (hn) ?_
 refine zaf (fun R:Bd × List ByteArray × Int × Bool=>Al.U64 R.2.2.1) _ _ _ (hh) ?_
 refine zaf (fun R:Bd × List ByteArray × Int × Bool=>Al.U64 R.2.2.1) _ _ _ (zjW _) ?_
 refine zaf (fun R:Bd × List ByteArray × Int × Bool=>Al.U64 R.2.2.1) _ _ _ (Al.zad BinOp.or _ _) ?_
 refine zaf (fun R:Bd × List ByteArray × Int × Bool=>Al.U64 R.2.2.1) _ _ _ (k1) ?_
 refine zaf (fun R:Bd × List ByteArray × Int × Bool=>Al.U64 R.2.2.1) _ _ _ (k2) ?_
 refine zaf (fun R:Bd × List ByteArray × Int × Bool=>Al.U64 R.2.2.1) _ _ _ (Al.zad BinOp.or _ _) ?_
 refine zaf (fun R:Bd × List ByteArray × Int × Bool=>Al.U64 R.2.2.1) _ _ _ (hl) ?_
 refine zaf (fun R:Bd × List ByteArray × Int × Bool=>Al.U64 R.2.2.1) _ _ _ (k3) ?_
 refine zaf (fun R:Bd × List ByteArray × Int × Bool=>Al.U64 R.2.2.1) _ _ _ (H.nicL) ?_
 exact Al.zap
theorem zhl (m:Bool) (k q:Int) (x:Int × Int) (hk:Al.U64 k) (hx:Al.U64 x.1):Al.U64 (Pc.zba m k q x).1:=by
 unfold Pc.zba
 split
 ·exact hk
 ·exact hx
theorem ziy (h:Pl) (s c:Int):Al.U64 (Pc.zaO h s c):=by
 have hs:∀ e l,Al.U64 (Pc.stB h s e l 4).1:=fun e l=>zhl _ _ _ _ ⟨by omega,by omega⟩ (zhl _ _ _ _ ⟨by omega,by omega⟩ (zhl _ _ _ _ ⟨by omega,by omega⟩ Al.zap))
 unfold Pc.zaO
 split
 ·exact hs _ _
 ·split
  ·exact hs _ _
  ·exact Al.zap
theorem zur (h:Pl) (s t z:Int):Al.U64 (Pc.ldF h s t z).2.1:=by
 show (fun R:Pl × Int × Bool=>Al.U64 R.2.1) (Pc.ldF h s t z)
 unfold Pc.ldF;refine zaf (fun R:Pl × Int × Bool=>Al.U64 R.2.1) _ _ _ (zaX _) ?_
 refine zaf (fun R:Pl × Int × Bool=>Al.U64 R.2.1) _ _ _ (zaX _) ?_
 refine zaf (fun R:Pl × Int × Bool=>Al.U64 R.2.1) _ _ _ (zaX _) ?_
 refine zaf (fun R:Pl × Int × Bool=>Al.U64 R.2.1) _ _ _ (zaX _) ?_
 refine zaf (fun R:Pl × Int × Bool=>Al.U64 R.2.1) _ _ _ (zaX _) ?_
 refine zaf (fun R:Pl × Int × Bool=>Al.U64 R.2.1) _ _ _ (zaX _) ?_
 refine zaf (fun R:Pl × Int × Bool=>Al.U64 R.2.1) _ _ _ (zaX _) ?_
 refine zaf (fun R:Pl × Int × Bool=>Al.U64 R.2.1) _ _ _ (zaX _) ?_
 refine zaf (fun R:Pl × Int × Bool=>Al.U64 R.2.1) _ _ _ (ziy h s 0) ?_
 refine zaf (fun R:Pl × Int × Bool=>Al.U64 R.2.1) _ _ _ (ziy h s 1) ?_
 exact Al.zap
theorem zrX {v:Mc} {p:Pt} (hn:Al.U64 v.cnt) (H:BOk v.b) (ok:POk v p) (t s:Int):Al.U64 (ldM v p t s).2.2.1:=by
 unfold ldM
 split
 ·exact zjp _ _ _
 split
 ·split
  ·exact zur _ _ _ _
  ·exact Al.zap
 ·split
  ·exact zxI _ _ _ _ _ hn H ok.bd
  ·exact Al.zap
theorem zvi (b:Bd) (F:List ByteArray) (t s n:Int) (H:BOk b):(ldF b F t s n).2.2.2=true→BOk (ldF b F t s n).1:=by
 show (fun R:Bd × List ByteArray × Int × Bool=>R.2.2.2=true→BOk R.1) (ldF b F t s n)
 unfold ldF;refine zaf (fun R:Bd × List ByteArray × Int × Bool=>R.2.2.2=true→BOk R.1) _ _ _ (fun _=>⟨H.cmp,H.nicL⟩) ?_
 refine zaf (fun R:Bd × List ByteArray × Int × Bool=>R.2.2.2=true→BOk R.1) _ _ _ (fun _=>⟨H.cmp,H.nicL⟩) ?_
 refine zaf (fun R:Bd × List ByteArray × Int × Bool=>R.2.2.2=true→BOk R.1) _ _ _ (fun _=>⟨H.cmp,H.nicL⟩) ?_
 refine zaf (fun R:Bd × List ByteArray × Int × Bool=>R.2.2.2=true→BOk R.1) _ _ _ (fun _=>⟨H.cmp,H.nicL⟩) ?_
 refine zaf (fun R:Bd × List ByteArray × Int × Bool=>R.2.2.2=true→BOk R.1) _ _ _ (fun _=>⟨H.cmp,H.nicL⟩) ?_
 refine zaf (fun R:Bd × List ByteArray × Int × Bool=>R.2.2.2=true→BOk R.1) _ _ _ (fun _=>⟨H.cmp,H.nicL⟩) ?_
 refine zaf (fun R:Bd × List ByteArray × Int × Bool=>R.2.2.2=true→BOk R.1) _ _ _ (fun _=>⟨H.cmp,H.nicL⟩) ?_
 refine zaf (fun R:Bd × List ByteArray × Int × Bool=>R.2.2.2=true→BOk R.1) _ _ _ (fun _=>⟨H.cmp,H.nicL⟩) ?_
 refine zaf (fun R:Bd × List ByteArray × Int × Bool=>R.2.2.2=true→BOk R.1) _ _ _ (fun _=>⟨H.cmp,H.nicL⟩) ?_
 refine zaf (fun R:Bd × List ByteArray × Int × Bool=>R.2.2.2=true→BOk R.1) _ _ _ (fun _=>⟨H.cmp,H.nicL⟩) ?_
 refine zaf (fun R:Bd × List ByteArray × Int × Bool=>R.2.2.2=true→BOk R.1) _ _ _ (fun _=>⟨H.cmp,H.nicL⟩) ?_
 refine zaf (fun R:Bd × List ByteArray × Int × Bool=>R.2.2.2=true→BOk R.1) _ _ _ (fun _=>⟨H.cmp,H.nicL⟩) ?_
 exact fun h=>by cases h
theorem zqW {v:Mc} {p:Pt} (H:BOk v.b) (t s:Int):BOk (ldM v p t s).1.b:=by
 unfold ldM
 split
 ·exact H
 split
 ·split
  ·exact ⟨H.cmp,H.nicL⟩
  ·exact H
 ·split
  ·rename_i h
   exact zvi _ _ _ _ _ H h
  ·exact H
theorem zkS (v:Mc) (p:Pt) (t s:Int):(ldM v p t s).1.h=v.h∧(ldM v p t s).1.cnt=v.cnt∧(ldM v p t s).1.E=v.E:=by
 unfold ldM
 split
 ·exact ⟨rfl,rfl,rfl⟩
 split
 ·split <;> exact ⟨rfl,rfl,rfl⟩
 ·split <;> exact ⟨rfl,rfl,rfl⟩
theorem zrT (b:Bd) (F:List ByteArray) (E:Int) (D:List UInt8) (M:List Int) (k:Int) (es:ByteArray):(actF b F E D M k es).b.cmp=b.cmp∧(actF b F E D M k es).b.nicL=b.nicL:=by
 unfold actF
 split
 ·exact ⟨rfl,rfl⟩
 split
 ·split <;> exact ⟨rfl,rfl⟩
 split
 ·split
  ·exact ⟨rfl,rfl⟩
  ·split <;> exact ⟨rfl,rfl⟩
 split
 ·split <;> exact ⟨rfl,rfl⟩
 split <;> exact ⟨rfl,rfl⟩
theorem ac_h (v:Mc) (p:Pt) (k:Int) (es:ByteArray):(acM v p k es).1.h=v.h∧(acM v p k es).1.cnt=v.cnt∧(acM v p k es).1.E=v.E∧(BOk v.b→BOk (acM v p k es).1.b):=by
 obtain ⟨h1,h2⟩:=zrT v.b p.F v.E p.D p.M k es;unfold acM
 split
 ·exact ⟨rfl,rfl,rfl,fun H=>⟨by show Al.U64 (actF v.b p.F v.E p.D p.M k es).b.cmp;rw [h1];exact H.cmp,by show Al.U64 (actF v.b p.F v.E p.D p.M k es).b.nicL;rw [h2];exact H.nicL⟩⟩
 ·exact ⟨rfl,rfl,rfl,fun H=>⟨by show Al.U64 (actF v.b p.F v.E p.D p.M k es).b.cmp;rw [h1];exact H.cmp,by show Al.U64 (actF v.b p.F v.E p.D p.M k es).b.nicL;rw [h2];exact H.nicL⟩⟩
theorem zt2 (b:Bd) (F:List ByteArray) (t s x:Int) (H:BOk b) (hx:Al.U64 x):(stF b F t s x).2.2.2.2=true→BOk (stF b F t s x).1:=by
 show (fun R:Bd × List ByteArray × Int × ByteArray × Bool=>R.2.2.2.2=true→BOk R.1) (stF b F t s x)
 unfold stF;refine zaf (fun R:Bd × List ByteArray × Int × ByteArray × Bool=>R.2.2.2.2=true→BOk R.1) _ _ _ (fun _=>⟨H.cmp,H.nicL⟩) ?_
 refine zaf (fun R:Bd × List ByteArray × Int × ByteArray × Bool=>R.2.2.2.2=true→BOk R.1) _ _ _ (fun _=>⟨hx,H.nicL⟩) ?_
 refine zaf (fun R:Bd × List ByteArray × Int × ByteArray × Bool=>R.2.2.2.2=true→BOk R.1) _ _ _ (fun _=>⟨H.cmp,H.nicL⟩) ?_
 refine zaf (fun R:Bd × List ByteArray × Int × ByteArray × Bool=>R.2.2.2.2=true→BOk R.1) _ _ _ (fun _=>⟨H.cmp,H.nicL⟩) ?_
 refine zaf (fun R:Bd × List ByteArray × Int × ByteArray × Bool=>R.2.2.2.2=true→BOk R.1) _ _ _ (fun _=>⟨H.cmp,H.nicL⟩) ?_
 refine zaf (fun R:Bd × List ByteArray × Int × ByteArray × Bool=>R.2.2.2.2=true→BOk R.1) _ _ _ (fun _=>⟨H.cmp,H.nicL⟩) ?_
 refine zaf (fun R:Bd × List ByteArray × Int × ByteArray × Bool=>R.2.2.2.2=true→BOk R.1) _ _ _ (fun _=>⟨H.cmp,H.nicL⟩) ?_
 refine zaf (fun R:Bd × List ByteArray × Int × ByteArray × Bool=>R.2.2.2.2=true→BOk R.1) _ _ _ (fun _=>⟨H.cmp,H.nicL⟩) ?_
 refine zaf (fun R:Bd × List ByteArray × Int × ByteArray × Bool=>R.2.2.2.2=true→BOk R.1) _ _ _ (fun _=>⟨H.cmp,H.nicL⟩) ?_
 refine zaf (fun R:Bd × List ByteArray × Int × ByteArray × Bool=>R.2.2.2.2=true→BOk R.1) _ _ _ (fun _=>⟨H.cmp,hx⟩) ?_
 exact fun h=>by cases h
theorem zg8 {v:Mc} {p:Pt} (t s x:Int):(stM v p t s x).1.h=v.h∧(stM v p t s x).1.cnt=v.cnt∧(stM v p t s x).1.E=v.E:=by
 unfold stM;refine zaf (fun R:Mc × Pt × Bool=>R.1.h=v.h∧R.1.cnt=v.cnt∧R.1.E=v.E) _ _ _ ⟨rfl,rfl,rfl⟩ ?_
 refine zaf (fun R:Mc × Pt × Bool=>R.1.h=v.h∧R.1.cnt=v.cnt∧R.1.E=v.E) _ _ _ ⟨rfl,rfl,rfl⟩ ?_
 refine zaf (fun R:Mc × Pt × Bool=>R.1.h=v.h∧R.1.cnt=v.cnt∧R.1.E=v.E) _ _ _ ?_ ?_
 ·exact zaf (fun R:Mc × Pt × Bool=>R.1.h=v.h∧R.1.cnt=v.cnt∧R.1.E=v.E) _ _ _ ⟨rfl,rfl,rfl⟩ ⟨rfl,rfl,rfl⟩
 refine zaf (fun R:Mc × Pt × Bool=>R.1.h=v.h∧R.1.cnt=v.cnt∧R.1.E=v.E) _ _ _ ?_ ⟨rfl,rfl,rfl⟩
 refine zaf (fun R:Mc × Pt × Bool=>R.1.h=v.h∧R.1.cnt=v.cnt∧R.1.E=v.E) _ _ _ ⟨rfl,rfl,rfl⟩ ?_
 obtain ⟨a,b,c,_⟩:=ac_h { v with b:=(stF v.b p.F t s x).1 } { p with F:=(stF v.b p.F t s x).2.1 } (stF v.b p.F t s x).2.2.1 (stF v.b p.F t s x).2.2.2.1;exact ⟨a,b,c⟩
theorem ztR {v:Mc} {p:Pt} (H:BOk v.b) (t s x:Int) (hx:Al.U64 x):BOk (stM v p t s x).1.b:=by
 have hd:=zt2 v.b p.F t s x H hx;unfold stM;refine zaf (fun R:Mc × Pt × Bool=>BOk R.1.b) _ _ _ H ?_
 refine zaf (fun R:Mc × Pt × Bool=>BOk R.1.b) _ _ _ H ?_
 refine zaf (fun R:Mc × Pt × Bool=>BOk R.1.b) _ _ _ ?_ ?_
 ·exact zaf (fun R:Mc × Pt × Bool=>BOk R.1.b) _ _ _ ⟨H.cmp,H.nicL⟩ H
 by_cases hc:(stF v.b p.F t s x).2.2.2.2=true
 ·rw [if_pos hc]
  refine zaf (fun R:Mc × Pt × Bool=>BOk R.1.b) _ _ _ (hd hc) ?_
  exact (ac_h { v with b:=(stF v.b p.F t s x).1 } { p with F:=(stF v.b p.F t s x).2.1 } (stF v.b p.F t s x).2.2.1 (stF v.b p.F t s x).2.2.2.1).2.2.2 (hd hc)
 ·rw [if_neg hc]
  exact H
def dcR (h:Hart) (g:Wk):Bool × Hart × Wk :=
 if (De.pIns g.wd.toNat).op=0 then (false,noH h g,g)
 else (true,h,{ g with o:=(De.pIns g.wd.toNat).op,r:=(De.pIns g.wd.toNat).rd,a:=(De.pIns g.wd.toNat).rs1,b:=(De.pIns g.wd.toNat).rs2,i:=(De.pIns g.wd.toNat).imm })
abbrev inZ:Array Value:=#[.int .i64 0,.int .i64 0,.int .i64 0,.int .i64 0,.int .i64 0]
theorem zuu (o r a b i:Int):(inC o r a b i).all (·.oneCell')=true:=by simp [Value.oneCell']
theorem zvR {w:World} {k:Nat} {o r a b i:Int} (h:w.heap[k]?=some (.cells (inC o r a b i) 80 (0,0))):(Instr.loadAt 80 (.pointer (some ⟨k,0,none⟩))).run Tryz.prog w=.ok (.agg (inC o r a b i)) w:=by
 simp only [Instr.loadAt,Instr.sureAddr,Sem.run_bind,Sem.run_pure,Result.andThen];exact run_loadVar_row w k 80 80 (inC o r a b i) (0,0) _ h underlying80 rfl (by rw [zib];rfl)
theorem zjX {w:World} {k:Nat} {old:Array Value} (o r a b i:Int) (h:w.heap[k]?=some (.cells old 80 (0,0))) (ho:old.size=5):(Instr.storeAt 80 (.pointer (some ⟨k,0,none⟩)) (.agg (inC o r a b i))).run Tryz.prog w=.ok () (w.setRow k (inC o r a b i)):=by
 simp only [Instr.storeAt,Instr.sureAddr,Sem.run_bind,Sem.run_pure,Result.andThen];exact run_storeVar_row w k 80 80 old (inC o r a b i) h (by rw [zib];rfl) (by rw [ho];rfl) (zuu o r a b i)
theorem zyV (B z k:Nat) (T:Nat→Prop) (v:Mc) (p:Pt) (g:Wk) (W:World) (K:St W B z k T v p g) (hwd:0≤g.wd) (hL:De.Laid W) (hz:(De.pIns g.wd.toNat).op=0):Calls Tryz.prog 50 #[.pointer (some ⟨k,0,none⟩)] W fun e W'=>e=.returned (.bool false)∧Cw W W' B z k T (turn v (noH v.h g)) p g:=by
 obtain ⟨n,hn⟩:=Int.eq_ofNat_of_zero_le hwd;rw [hn,Int.toNat_natCast] at hz;have HWD:=hid (fun w (h:Below W.heap.size W w)=>(KW.wd (K.next h).kw).trans (by rw [hn]));have SO:=hid (fun w (h:Below W.heap.size W w)=>K.next h);have CD:=hid (fun w (h:Below W.heap.size W w)=>De.zcl n w (hL.below h));have e1:De.wE n=60:=by unfold De.wE;rw [if_pos hz]
 have e2:De.wI n=⟨0,0,0,0,0⟩:=by unfold De.wI;rw [if_pos hz]
 rw [e1,e2] at CD;clear K hL hz hn hwd e1 e2;have X:=hid (Mem.start W);go_enter func50,ntmps50;go_upto_region 2 with (first | (with_reducible refine zaa rfl rfl (HWD.out _ X.out.below) rfl ?_) | (go_at_call 76;(with_reducible refine (CD.out _ X.out.below).mono ?_);rintro e wb ⟨rfl,kk⟩;have X:=hid (X.out.next kk);clear kk) | (with_reducible refine zan rfl rfl (zjX 0 0 0 0 0 (X.out.new inZ 80 (by decide)).g0 rfl) rfl rfl ?_));have X:=hid ((X.out.new inZ 80 (by decide)).p0 (cs':=inC 0 0 0 0 0) rfl);generalize wb.heap.size=gi at X ⊢;generalize (wb.alloc (.cells inZ 80)).setRow gi (inC 0 0 0 0 0)=wc at X ⊢;have SX:=hid (SO.out _ X.out.below);have CW:=hid (Cw.before (Cw.below SX.out (Below.refl _ _)) X.out.below);go_wp2_with (go_at_call 77;(with_reducible refine (ze3 B z k T v p g _ SX.out).mono ?_);rintro e wb ⟨rfl,kk⟩;have CW:=hid (CW.out.trans kk);have SX:=hid CW.out.1;clear kk);go_ret;exact ⟨rfl,CW.out⟩
theorem zvb (B z k:Nat) (T:Nat→Prop) (v:Mc) (p:Pt) (g:Wk) (W:World) (K:St W B z k T v p g) (hwd:0≤g.wd) (hL:De.Laid W) (hz:(De.pIns g.wd.toNat).op≠0):Calls Tryz.prog 50 #[.pointer (some ⟨k,0,none⟩)] W fun e W'=>e=.returned (.bool true)∧Cw W W' B z k T v p { g with o:=(De.pIns g.wd.toNat).op,r:=(De.pIns g.wd.toNat).rd,a:=(De.pIns g.wd.toNat).rs1,b:=(De.pIns g.wd.toNat).rs2,i:=(De.pIns g.wd.toNat).imm }:=by
 obtain ⟨n,hn⟩:=Int.eq_ofNat_of_zero_le hwd;rw [hn,Int.toNat_natCast] at hz;have HWD:=hid (fun w (h:Below W.heap.size W w)=>(KW.wd (K.next h).kw).trans (by rw [hn]));have SO:=hid (fun w (h:Below W.heap.size W w)=>K.next h);have CD:=hid (fun w (h:Below W.heap.size W w)=>De.zcl n w (hL.below h));have e1:De.wE n=0:=by unfold De.wE;rw [if_neg hz]
 have e2:De.wI n=De.pIns n:=by unfold De.wI;rw [if_neg hz]
 rw [e1,e2] at CD;rw [show g.wd.toNat=n by rw [hn,Int.toNat_natCast]];generalize De.pIns n=q at CD ⊢;obtain ⟨o,r,a,b,i⟩:=q;simp only at CD ⊢;clear K hL hz hn hwd e1 e2;have X:=hid (Mem.start W);go_enter func50,ntmps50;go_upto_region 2 with (first | (with_reducible refine zaa rfl rfl (HWD.out _ X.out.below) rfl ?_) | (go_at_call 76;(with_reducible refine (CD.out _ X.out.below).mono ?_);rintro e wb ⟨rfl,kk⟩;have X:=hid (X.out.next kk);clear kk) | (with_reducible refine zan rfl rfl (zjX o r a b i (X.out.new inZ 80 (by decide)).g0 rfl) rfl rfl ?_));have X:=hid ((X.out.new inZ 80 (by decide)).p0 (cs':=inC o r a b i) rfl);generalize wb.heap.size=gi at X ⊢;generalize (wb.alloc (.cells inZ 80)).setRow gi (inC o r a b i)=wc at X ⊢;have SX:=hid (SO.out _ X.out.below);have KX:=hid SX.out.kw;have CX:=hid (Cw.before (SX.out.setwk { g with o:=o,r:=r,a:=a,b:=b,i:=i }) X.out.below);go_wp2_with (with_reducible first | refine zaa rfl rfl (zvR X.out.g0) rfl ?_ | refine zan rfl rfl (KW.setin KX.out o r a b i) rfl rfl ?_);go_ret;exact ⟨rfl,CX.out⟩
theorem zhR (B z k:Nat) (T:Nat→Prop) (v:Mc) (p:Pt) (g:Wk) (W:World) (K:St W B z k T v p g) (hwd:0≤g.wd) (hL:De.Laid W):Calls Tryz.prog 50 #[.pointer (some ⟨k,0,none⟩)] W fun e W'=>e=.returned (.bool (dcR v.h g).1)∧Cw W W' B z k T (turn v (dcR v.h g).2.1) p (dcR v.h g).2.2:=by
 unfold dcR
 by_cases hz:(De.pIns g.wd.toNat).op=0
 ·rw [if_pos hz]
  exact zyV B z k T v p g W K hwd hL hz
 ·rw [if_neg hz]
  exact zvb B z k T v p g W K hwd hL hz
theorem zlC (B z k:Nat) (T:Nat→Prop) (v:Mc) (p:Pt) (g:Wk) (W:World) (K:St W B z k T v p g) (hr:Rgs g) (ok:POk v p) (hO:(p.O.length+1)*32≤140737488355328) (H:HOk v.h) (hn:Al.U64 v.cnt):Calls Tryz.prog 51 #[.pointer (some ⟨k,0,none⟩)] W fun e W'=>e=.returned (.bool (doR v p g).1)∧Cw W W' B z k T (doR v p g).2.1 (doR v p g).2.2.1 (doR v p g).2.2.2:=by
 have hfx:∀ (h:Hart) (t kd:Int),Al.U64 t→(fnH v.h p.D t kd).2.2=h→Al.U64 (xV h g.b):=fun h t kd ht e=>by rw [← e];exact (zc8 H _ _ _ ht).x _
 unfold doR
 by_cases h1:g.o=1
 ·rw [if_pos h1];exact zmL B z k T v p g W K hr h1
 rw [if_neg h1]
 by_cases h2:g.o=2
 ·rw [if_pos h2];exact zAp B z k T v p g W K hr h2
 rw [if_neg h2]
 by_cases h3:g.o=3
 ·rw [if_pos h3];exact zyQ B z k T v p g W K hr h3
 rw [if_neg h3]
 by_cases h4:g.o=4
 ·rw [if_pos h4];exact zu6 B z k T v p g W K hr h4
 rw [if_neg h4]
 by_cases h5:g.o∈([5,6,7,8,9,10]:List Int)
 ·rw [if_pos h5];exact zsK B z k T v p g W K hr h5
 rw [if_neg h5]
 by_cases h6:g.o∈([11,12,13,14,15,16,17]:List Int)
 ·rw [if_pos h6];exact zAI B z k T v p g W K hr ok h6
 rw [if_neg h6]
 by_cases h7:g.o∈([18,19,20,21]:List Int)
 ·rw [if_pos h7];exact zqU B z k T v p g W K hr ok hO (fun h e=>hfx h _ _ (zaX _) e) h7
 rw [if_neg h7]
 by_cases h8:g.o∈([50,51,97]:List Int)
 ·rw [if_pos h8];exact zz2 B z k T v p g W K h8
 rw [if_neg h8]
 by_cases h9:g.o=98
 ·rw [if_pos h9]
  by_cases hm:v.h.mode=0
  ·rw [if_pos hm];exact zye B z k T v p g W K hm h9
  ·rw [if_neg hm];exact zpp B z k T v p g W K hm h9
 rw [if_neg h9]
 by_cases h10:g.o∈([54,55,56,57,58,59]:List Int)
 ·rw [if_pos h10];exact zno B z k T v p g W K hr H.c hn (fun was _=>wr_u H g was) h10
 rw [if_neg h10]
 by_cases h11:g.o=52
 ·rw [if_pos h11];exact zxo B z k T v p g W K h11
 rw [if_neg h11]
 by_cases h12:g.o=53
 ·rw [if_pos h12];exact zqZ B z k T v p g W K h12
 rw [if_neg h12]
 by_cases h13:g.o=95
 ·rw [if_pos h13];exact ztb B z k T v p g W K h13
 rw [if_neg h13]
 by_cases h14:g.o=96
 ·rw [if_pos h14];exact znC B z k T v p g W K h14
 rw [if_neg h14]
 by_cases h15:g.o∈([73,74,75,76,77,78,79,80,81,82,83,84,85,86,87,88,89,90,91,92,93,94]:List Int)
 ·rw [if_pos h15];exact zyr B z k T v p g W K hr ok hO (H.x _) (fun h kd e=>hfx h _ kd (H.x _) e) (fun pl s=>mm_u p pl s) h15
 rw [if_neg h15];refine zxs B z k T v p g W K hr H.x (fun h=>?_) h15
 simp only [List.mem_cons,List.not_mem_nil,or_false,not_or] at h h5 h6 h7 h8 h10;omega
theorem zke (h:Hart) (l:Int):Tr.zbq h l=-1∨∃ n:Nat,n≤63∧Tr.zbq h l=n:=by
 have hf:∀ n:Int,Tr.zbU n=-1∨∃ k:Nat,k≤63∧Tr.zbU n=k:=fun n=>by
  unfold Tr.zbU
  split
  ·exact .inr ⟨11,by omega,rfl⟩
  split
  ·exact .inr ⟨3,by omega,rfl⟩
  split
  ·exact .inr ⟨7,by omega,rfl⟩
  split
  ·exact .inr ⟨9,by omega,rfl⟩
  split
  ·exact .inr ⟨1,by omega,rfl⟩
  split
  ·exact .inr ⟨5,by omega,rfl⟩
  ·exact .inl rfl
 unfold Tr.zbq
 split
 ·exact hf _
 ·split
  ·exact hf _
  ·exact .inl rfl
noncomputable def spR (v:Mc) (p:Pt) (g:Wk):Mc × Pt × Wk :=
 if Tr.zbq v.h g.l≠-1 then (turn v (Tr.zdY v.h (Tr.zbq v.h g.l).toNat true 0),p,g) else
 if (ftR v p g).1=false then (turn v (ftR v p g).2.1,p,(ftR v p g).2.2) else
 if (dcR (ftR v p g).2.1 (ftR v p g).2.2).1=false then (turn v (dcR (ftR v p g).2.1 (ftR v p g).2.2).2.1,p,(dcR (ftR v p g).2.1 (ftR v p g).2.2).2.2) else
 let c:=doR (turn v (dcR (ftR v p g).2.1 (ftR v p g).2.2).2.1) p (dcR (ftR v p g).2.1 (ftR v p g).2.2).2.2
 if c.1=false then (c.2.1,c.2.2.1,c.2.2.2) else (turn c.2.1 { c.2.1.h with pc:=c.2.2.2.np },c.2.2.1,c.2.2.2)
theorem zxt (B z k:Nat) (T:Nat→Prop) (v:Mc) (p:Pt) (g:Wk) (W:World) (K:St W B z k T v p g) (n:Nat) (hn:n≤63) (hp:Tr.zbq v.h g.l=n):Calls Tryz.prog 28 #[.pointer (some ⟨k,0,none⟩)] W fun e W'=>e=.returned (.tuple #[])∧Cw W W' B z k T (turn v (Tr.zdY v.h n true 0)) p g:=by
 have SX:=hid K;have CW:=hid (Cw.below K (Below.refl _ _));have CP:=hid (fun w=>hp ▸ Tr.zfB v.h g.l w);have CT:=hid (fun w=>Tr.ziX v.h n true 0 hn w);have g0:(((n:Nat):Int) != -1)=true:=bne_iff_ne.2 (by omega);generalize Tr.zdY v.h n true 0=h1 at CT ⊢;clear K hp hn;go_enter func28,ntmps28;go_upto_region 0 with (fail);refine dr (fun w=>St w B z k T v p g) fun wz hzz=>?_
 have CW:=hid (CW.out.trans (Cw.below SX.out hzz));have SX:=hid CW.out.1;clear hzz;have hS:=SX.out;refine tk 0 hS ?_
 refine tk 1 hS ?_
 refine tk 2 hS ?_
 refine tk 3 hS ?_
 refine tl 4 hS (fun w hw=>KW.ptr hw.kw) ?_
 refine tk 5 hS ?_
 refine tk 6 hS ?_
 refine tl 7 hS (fun w hw=>St.l_hart hw) ?_
 refine tk 8 hS ?_
 refine tk 9 hS ?_
 refine tk 10 hS ?_
 refine tl 11 hS (fun w hw=>KW.l hw.kw) ?_
 refine hc 12 (zbC (CP.out _)) ?_
 rintro v' wb ⟨rfl,kk⟩
 have CW:=hid (CW.out.trans (Cw.below SX.out kk));have SX:=hid CW.out.1;clear kk;refine ⟨SX.out,fun hS=>?_⟩
 simp only [puts];refine tk 13 hS ?_
 refine wpAnyH_done (by kernel_rfl) ?_ _
 go_upto_region 2 with (fail);refine dr (fun w=>KW w k z g) fun wz hzz=>?_
 have CW:=hid (CW.out.trans (Cw.below SX.out hzz));have SX:=hid CW.out.1;clear hzz;have hS:=SX.out.kw;refine tk 0 hS ?_
 refine tk 1 hS ?_
 refine tk 2 hS ?_
 refine tk 3 hS ?_
 refine tl 4 hS (fun w hw=>KW.ptr hw) ?_
 refine tk 5 hS ?_
 refine tk 6 hS ?_
 refine tk 7 hS ?_
 refine tk 8 hS ?_
 refine tl 9 hS (fun w hw=>KW.ptr hw) ?_
 refine tk 10 hS ?_
 refine tk 11 hS ?_
 refine tk 13 hS ?_
 refine hl 12 (St.l_hart SX.out) hS ?_
 refine hc 14 (zbC (CT.out _)) ?_
 rintro v' wb ⟨rfl,kk⟩
 have CW:=hid (CW.out.trans (Cw.below SX.out kk));have SX:=hid CW.out.1;clear kk;obtain ⟨cs,hst,hcw⟩:=SX.out.sethart h1;have HST:=hid hst;have HCW:=hid hcw;clear hst hcw;refine ⟨SX.out.kw,fun hS=>?_⟩
 simp only [puts];refine tk 15 hS ?_
 refine tk 16 hS ?_
 refine hs 17 (HST.out) fun wy hw=>?_
 have CW:=hid (show Cw W wy B z k T (turn v h1) p g by rw [hw];exact CW.out.trans HCW.out);have SX:=hid CW.out.1;clear hw;refine ⟨SX.out.kw,fun hS=>?_⟩
 refine wpAnyH_done (by kernel_rfl) ?_ _
 go_wp2_with fail;refine bodyPost_ret (results_none rfl _ _ _) rfl ⟨rfl,?_⟩
 exact CW.out
theorem zsT (B z k:Nat) (T:Nat→Prop) (v:Mc) (p:Pt) (g:Wk) (W:World) (K:St W B z k T v p g) (hp:Tr.zbq v.h g.l=-1) (ok:POk v p) (hpc:Al.U64 v.h.pc) (h1:Hart) (g1:Wk) (hf:ftR v p g=(false,h1,g1)):Calls Tryz.prog 28 #[.pointer (some ⟨k,0,none⟩)] W fun e W'=>e=.returned (.tuple #[])∧Cw W W' B z k T (turn v h1) p g1:=by
 have SX:=hid K;have CW:=hid (Cw.below K (Below.refl _ _));have CP:=hid (fun w=>hp ▸ Tr.zfB v.h g.l w);have CF:=hid (fun w (h:St w B z k T v p g)=>zge B z k T v p g w h ok hpc);rw [hf] at CF;clear K hp ok hpc hf;go_enter func28,ntmps28;go_upto_region 0 with (fail);refine dr (fun w=>St w B z k T v p g) fun wz hzz=>?_
 have CW:=hid (CW.out.trans (Cw.below SX.out hzz));have SX:=hid CW.out.1;clear hzz;have hS:=SX.out;refine tk 0 hS ?_
 refine tk 1 hS ?_
 refine tk 2 hS ?_
 refine tk 3 hS ?_
 refine tl 4 hS (fun w hw=>KW.ptr hw.kw) ?_
 refine tk 5 hS ?_
 refine tk 6 hS ?_
 refine tl 7 hS (fun w hw=>St.l_hart hw) ?_
 refine tk 8 hS ?_
 refine tk 9 hS ?_
 refine tk 10 hS ?_
 refine tl 11 hS (fun w hw=>KW.l hw.kw) ?_
 refine hc 12 (zbC (CP.out _)) ?_
 rintro v' wb ⟨rfl,kk⟩
 have CW:=hid (CW.out.trans (Cw.below SX.out kk));have SX:=hid CW.out.1;clear kk;refine ⟨SX.out,fun hS=>?_⟩
 simp only [puts];refine tk 13 hS ?_
 refine wpAnyH_done (by kernel_rfl) ?_ _
 go_wp2_with (go_at_call 49;(with_reducible refine (CF.out _ SX.out).mono ?_);rintro e wb ⟨rfl,kk⟩;have CW:=hid (CW.out.trans kk);have SX:=hid CW.out.1;clear kk);refine bodyPost_end (results_none rfl _ _ _) rfl ⟨rfl,?_⟩
 exact CW.out
theorem De.Laid.touch {W W':World} {S:Nat→Prop} (h:De.Laid W) (t:zau W W' S) (hS:∀ x,x<12→¬ S x):De.Laid W' :=
 ⟨Nat.le_trans h.1 t.size,fun g j hg hj=>by
  have e:=t.block g (by have:=h.1;omega) (hS g hg);have h2:=h.2 g j hg hj;unfold World.cell? at h2 ⊢;simp only [e];exact h2⟩
theorem zwP (B z k:Nat) (T:Nat→Prop) (v:Mc) (p:Pt) (g:Wk) (W:World) (K:St W B z k T v p g) (hp:Tr.zbq v.h g.l=-1) (ok:POk v p) (hpc:Al.U64 v.h.pc) (h1:Hart) (g1:Wk) (hf:ftR v p g=(true,h1,g1)) (hL:De.Laid W) (hlo:∀ x,x<12→¬ T x) (hk12:12≤k) (hwd:0≤g1.wd) (h2:Hart) (g2:Wk) (hd:dcR h1 g1=(false,h2,g2)):Calls Tryz.prog 28 #[.pointer (some ⟨k,0,none⟩)] W fun e W'=>e=.returned (.tuple #[])∧Cw W W' B z k T (turn v h2) p g2:=by
 have SX:=hid K;have CW:=hid (Cw.below K (Below.refl _ _));have CP:=hid (fun w=>hp ▸ Tr.zfB v.h g.l w);have CF:=hid (fun w (h:St w B z k T v p g)=>zge B z k T v p g w h ok hpc);rw [hf] at CF;have HLO:=hid (show ∀ x,x<12→¬ (T x∨x=k) from fun x hx h=>h.elim (hlo x hx) (fun e=>by omega));have HLA:=hid hL;have CD:=hid (fun w (h:St w B z k T (turn v h1) p g1) (c:Cw W w B z k T (turn v h1) p g1)=>zhR B z k T (turn v h1) p g1 w h hwd (HLA.out.touch c.2 HLO.out));rw [show dcR (turn v h1).h g1=dcR h1 g1 from rfl,hd] at CD;clear K hp ok hpc hf hd hwd hL hlo hk12 HLO HLA;go_enter func28,ntmps28;go_upto_region 0 with (fail);refine dr (fun w=>St w B z k T v p g) fun wz hzz=>?_
 have CW:=hid (CW.out.trans (Cw.below SX.out hzz));have SX:=hid CW.out.1;clear hzz;have hS:=SX.out;refine tk 0 hS ?_
 refine tk 1 hS ?_
 refine tk 2 hS ?_
 refine tk 3 hS ?_
 refine tl 4 hS (fun w hw=>KW.ptr hw.kw) ?_
 refine tk 5 hS ?_
 refine tk 6 hS ?_
 refine tl 7 hS (fun w hw=>St.l_hart hw) ?_
 refine tk 8 hS ?_
 refine tk 9 hS ?_
 refine tk 10 hS ?_
 refine tl 11 hS (fun w hw=>KW.l hw.kw) ?_
 refine hc 12 (zbC (CP.out _)) ?_
 rintro v' wb ⟨rfl,kk⟩
 have CW:=hid (CW.out.trans (Cw.below SX.out kk));have SX:=hid CW.out.1;clear kk;refine ⟨SX.out,fun hS=>?_⟩
 simp only [puts];refine tk 13 hS ?_
 refine wpAnyH_done (by kernel_rfl) ?_ _
 go_wp2_with ((first | (go_at_call 49;with_reducible refine (CF.out _ SX.out).mono ?_) | (go_at_call 50;with_reducible refine (CD.out _ SX.out CW.out).mono ?_));rintro e wb ⟨rfl,kk⟩;have CW:=hid (CW.out.trans kk);have SX:=hid CW.out.1;clear kk);refine bodyPost_end (results_none rfl _ _ _) rfl ⟨rfl,?_⟩
 exact CW.out
theorem zw0 (B z k:Nat) (T:Nat→Prop) (v:Mc) (p:Pt) (g:Wk) (W:World) (K:St W B z k T v p g) (hp:Tr.zbq v.h g.l=-1) (ok:POk v p) (hpc:Al.U64 v.h.pc) (h1:Hart) (g1:Wk) (hf:ftR v p g=(true,h1,g1)) (hL:De.Laid W) (hlo:∀ x,x<12→¬ T x) (hk12:12≤k) (hwd:0≤g1.wd) (h2:Hart) (g2:Wk) (hd:dcR h1 g1=(true,h2,g2)) (hr:Rgs g2) (hO:(p.O.length+1)*32≤140737488355328) (hk2:HOk h2) (hn:Al.U64 v.cnt) (v3:Mc) (p3:Pt) (g3:Wk) (hc:doR (turn v h2) p g2=(false,v3,p3,g3)):Calls Tryz.prog 28 #[.pointer (some ⟨k,0,none⟩)] W fun e W'=>e=.returned (.tuple #[])∧Cw W W' B z k T v3 p3 g3:=by
 have SX:=hid K;have CW:=hid (Cw.below K (Below.refl _ _));have CP:=hid (fun w=>hp ▸ Tr.zfB v.h g.l w);have CF:=hid (fun w (h:St w B z k T v p g)=>zge B z k T v p g w h ok hpc);rw [hf] at CF;have HLO:=hid (show ∀ x,x<12→¬ (T x∨x=k) from fun x hx h=>h.elim (hlo x hx) (fun e=>by omega));have HLA:=hid hL;have CD:=hid (fun w (h:St w B z k T (turn v h1) p g1) (c:Cw W w B z k T (turn v h1) p g1)=>zhR B z k T (turn v h1) p g1 w h hwd (HLA.out.touch c.2 HLO.out));rw [show dcR (turn v h1).h g1=dcR h1 g1 from rfl,hd] at CD;have CO:=hid (fun w (h:St w B z k T (turn v h2) p g2)=>zlC B z k T (turn v h2) p g2 w h hr (ok.turn h2) hO hk2 hn);rw [hc] at CO;clear K hp ok hpc hf hd hwd hL hlo hk12 HLO HLA hr hO hk2 hn hc;go_enter func28,ntmps28;go_upto_region 0 with (fail);refine dr (fun w=>St w B z k T v p g) fun wz hzz=>?_
 have CW:=hid (CW.out.trans (Cw.below SX.out hzz));have SX:=hid CW.out.1;clear hzz;have hS:=SX.out;refine tk 0 hS ?_
 refine tk 1 hS ?_
 refine tk 2 hS ?_
 refine tk 3 hS ?_
 refine tl 4 hS (fun w hw=>KW.ptr hw.kw) ?_
 refine tk 5 hS ?_
 refine tk 6 hS ?_
 refine tl 7 hS (fun w hw=>St.l_hart hw) ?_
 refine tk 8 hS ?_
 refine tk 9 hS ?_
 refine tk 10 hS ?_
 refine tl 11 hS (fun w hw=>KW.l hw.kw) ?_
 refine hc 12 (zbC (CP.out _)) ?_
 rintro v' wb ⟨rfl,kk⟩
 have CW:=hid (CW.out.trans (Cw.below SX.out kk));have SX:=hid CW.out.1;clear kk;refine ⟨SX.out,fun hS=>?_⟩
 simp only [puts];refine tk 13 hS ?_
 refine wpAnyH_done (by kernel_rfl) ?_ _
 go_wp2_with ((first | (go_at_call 49;with_reducible refine (CF.out _ SX.out).mono ?_) | (go_at_call 50;with_reducible refine (CD.out _ SX.out CW.out).mono ?_) | (go_at_call 51;with_reducible refine (CO.out _ SX.out).mono ?_));rintro e wb ⟨rfl,kk⟩;have CW:=hid (CW.out.trans kk);have SX:=hid CW.out.1;clear kk);refine bodyPost_end (results_none rfl _ _ _) rfl ⟨rfl,?_⟩
 exact CW.out
theorem St.setpc {w:World} {B z k:Nat} {T:Nat→Prop} {v:Mc} {p:Pt} {g:Wk} (K:St w B z k T v p g) (n:Int):∃ cs,(Instr.storeAt 22 (.pointer (some ⟨z,32,none⟩)) (.int .u64 n)).run Tryz.prog w=.ok () (w.setRow z cs)∧Cw w (w.setRow z cs) B z k T (turn v { v.h with pc:=n }) p g :=
 K.setx { v.h with pc:=n } 22 0 (.int .u64 n) zbX rfl rfl (by decide) rfl rfl
theorem zx5 (B z k:Nat) (T:Nat→Prop) (v:Mc) (p:Pt) (g:Wk) (W:World) (K:St W B z k T v p g) (hp:Tr.zbq v.h g.l=-1) (ok:POk v p) (hpc:Al.U64 v.h.pc) (h1:Hart) (g1:Wk) (hf:ftR v p g=(true,h1,g1)) (hL:De.Laid W) (hlo:∀ x,x<12→¬ T x) (hk12:12≤k) (hwd:0≤g1.wd) (h2:Hart) (g2:Wk) (hd:dcR h1 g1=(true,h2,g2)) (hr:Rgs g2) (hO:(p.O.length+1)*32≤140737488355328) (hk2:HOk h2) (hn:Al.U64 v.cnt) (v3:Mc) (p3:Pt) (g3:Wk) (hc:doR (turn v h2) p g2=(true,v3,p3,g3)):Calls Tryz.prog 28 #[.pointer (some ⟨k,0,none⟩)] W fun e W'=>e=.returned (.tuple #[])∧Cw W W' B z k T (turn v3 { v3.h with pc:=g3.np }) p3 g3:=by
 have SX:=hid K;have CW:=hid (Cw.below K (Below.refl _ _));have CP:=hid (fun w=>hp ▸ Tr.zfB v.h g.l w);have CF:=hid (fun w (h:St w B z k T v p g)=>zge B z k T v p g w h ok hpc);rw [hf] at CF;have HLO:=hid (show ∀ x,x<12→¬ (T x∨x=k) from fun x hx h=>h.elim (hlo x hx) (fun e=>by omega));have HLA:=hid hL;have CD:=hid (fun w (h:St w B z k T (turn v h1) p g1) (c:Cw W w B z k T (turn v h1) p g1)=>zhR B z k T (turn v h1) p g1 w h hwd (HLA.out.touch c.2 HLO.out));rw [show dcR (turn v h1).h g1=dcR h1 g1 from rfl,hd] at CD;have CO:=hid (fun w (h:St w B z k T (turn v h2) p g2)=>zlC B z k T (turn v h2) p g2 w h hr (ok.turn h2) hO hk2 hn);rw [hc] at CO;clear K hp ok hpc hf hd hwd hL hlo hk12 HLO HLA hr hO hk2 hn hc;go_enter func28,ntmps28;go_upto_region 0 with (fail);refine dr (fun w=>St w B z k T v p g) fun wz hzz=>?_
 have CW:=hid (CW.out.trans (Cw.below SX.out hzz));have SX:=hid CW.out.1;clear hzz;have hS:=SX.out;refine tk 0 hS ?_
 refine tk 1 hS ?_
 refine tk 2 hS ?_
 refine tk 3 hS ?_
 refine tl 4 hS (fun w hw=>KW.ptr hw.kw) ?_
 refine tk 5 hS ?_
 refine tk 6 hS ?_
 refine tl 7 hS (fun w hw=>St.l_hart hw) ?_
 refine tk 8 hS ?_
 refine tk 9 hS ?_
 refine tk 10 hS ?_
 refine tl 11 hS (fun w hw=>KW.l hw.kw) ?_
 refine hc 12 (zbC (CP.out _)) ?_
 rintro v' wb ⟨rfl,kk⟩
 have CW:=hid (CW.out.trans (Cw.below SX.out kk));have SX:=hid CW.out.1;clear kk;refine ⟨SX.out,fun hS=>?_⟩
 simp only [puts];refine tk 13 hS ?_
 refine wpAnyH_done (by kernel_rfl) ?_ _
 go_upto_region 4 with ((first | (go_at_call 49;with_reducible refine (CF.out _ SX.out).mono ?_) | (go_at_call 50;with_reducible refine (CD.out _ SX.out CW.out).mono ?_) | (go_at_call 51;with_reducible refine (CO.out _ SX.out).mono ?_));rintro e wb ⟨rfl,kk⟩;have CW:=hid (CW.out.trans kk);have SX:=hid CW.out.1;clear kk);refine dr (fun w=>KW w k z g3) fun wz hzz=>?_
 have CW:=hid (CW.out.trans (Cw.below SX.out hzz));have SX:=hid CW.out.1;clear hzz;obtain ⟨cs,hst,hcw⟩:=SX.out.setpc g3.np;have HST:=hid hst;have HCW:=hid hcw;clear hst hcw;have hS:=SX.out.kw;refine tk 0 hS ?_
 refine tk 1 hS ?_
 refine tk 2 hS ?_
 refine tk 3 hS ?_
 refine tl 4 hS (fun w hw=>KW.ptr hw) ?_
 refine tk 5 hS ?_
 refine tk 6 hS ?_
 refine tk 7 hS ?_
 refine tl 8 hS (fun w hw=>KW.np hw) ?_
 refine tk 9 hS ?_
 refine tk 10 hS ?_
 refine tk 11 hS ?_
 refine hs 12 (HST.out) fun wy hw=>?_
 have CW:=hid (show Cw W wy B z k T (turn v3 { v3.h with pc:=g3.np }) p3 g3 by rw [hw];exact CW.out.trans HCW.out);have SX:=hid CW.out.1;clear hw;refine ⟨SX.out.kw,fun hS=>?_⟩
 refine wpAnyH_done (by kernel_rfl) ?_ _
 go_wp2_with fail;refine bodyPost_end (results_none rfl _ _ _) rfl ⟨rfl,?_⟩
 exact CW.out
end Go.Proofs.YtplcfdnfeclpmaaGreatDoor
