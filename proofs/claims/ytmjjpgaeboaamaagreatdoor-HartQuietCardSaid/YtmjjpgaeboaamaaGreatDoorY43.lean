/- HartQuiet,part 43. -/
import Derived.Test.YtmjjpgaeboaamaaGreatDoorY24
import Derived.Test.YtmjjpgaeboaamaaGreatDoorY42
set_option maxHeartbeats 4000000
set_option maxRecDepth 100000
open Go.Lib (hid)
namespace Go.Proofs.YtmjjpgaeboaamaaGreatDoor
open Go.RowKit Go.Deep Go.Joins
theorem cut5 (w l:Nat):(0:Int)≤(De.cutN w l 5:Nat)∧((De.cutN w l 5:Nat):Int)<32:=⟨by omega,by have:=De.zbc w l 5;omega⟩
theorem z5:(0:Int)≤0∧(0:Int)<32:=⟨by omega,by omega⟩
def RIn (i:De.In):Prop:=(0≤i.rd∧i.rd<32)∧(0≤i.rs1∧i.rs1<32)∧(0≤i.rs2∧i.rs2<32)
theorem zba {c:Prop} [Decidable c] {a b:De.In} (ha:RIn a) (hb:RIn b):RIn (if c then a else b):=by split <;> assumption
theorem ze6:RIn ⟨0,0,0,0,0⟩:=⟨z5,z5,z5⟩
theorem zlb (w:Nat):RIn (De.pOwn w):=by
 unfold De.pOwn
 exact zba ⟨cut5 _ _,cut5 _ _,z5⟩ (zba ⟨cut5 _ _,cut5 _ _,z5⟩ (zba ⟨cut5 _ _,cut5 _ _,z5⟩ ⟨cut5 _ _,cut5 _ _,z5⟩))
theorem zj2 (w:Nat):RIn (De.zbr w):=by
 unfold De.zbr
 exact zba ⟨cut5 _ _,cut5 _ _,z5⟩ (zba ⟨cut5 _ _,cut5 _ _,z5⟩ (zba ⟨cut5 _ _,cut5 _ _,z5⟩ (zba ⟨cut5 _ _,cut5 _ _,z5⟩ ze6)))
theorem zpK (w:Nat):RIn (De.pSys w):=by
 unfold De.pSys
 exact zba ⟨cut5 _ _,cut5 _ _,z5⟩ (zba ⟨z5,z5,z5⟩ (zba ⟨z5,z5,z5⟩ (zba ⟨z5,z5,z5⟩ (zba ⟨z5,z5,z5⟩ (zba ⟨z5,z5,z5⟩ (zba ⟨z5,cut5 _ _,cut5 _ _⟩ ze6))))))
theorem zui (w:Nat):RIn (De.za1 w):=by
 unfold De.za1
 exact zba (zba ⟨cut5 _ _,cut5 _ _,z5⟩ ze6) ⟨cut5 _ _,cut5 _ _,cut5 _ _⟩
theorem zwc (w:Nat):RIn (De.pIns w):=by
 unfold De.pIns
 refine zba ⟨cut5 _ _,z5,z5⟩ ?_
 refine zba ⟨cut5 _ _,z5,z5⟩ ?_
 refine zba ⟨cut5 _ _,z5,z5⟩ ?_
 refine zba (zba ⟨cut5 _ _,cut5 _ _,z5⟩ ze6) ?_
 refine zba ⟨z5,cut5 _ _,cut5 _ _⟩ ?_
 refine zba ⟨cut5 _ _,cut5 _ _,z5⟩ ?_
 refine zba ⟨z5,cut5 _ _,cut5 _ _⟩ ?_
 refine zba (zlb w) ?_
 refine zba (zj2 w) ?_
 refine zba ⟨cut5 _ _,cut5 _ _,cut5 _ _⟩ ?_
 refine zba ⟨cut5 _ _,cut5 _ _,cut5 _ _⟩ ?_
 refine zba ⟨z5,z5,z5⟩ ?_
 refine zba (zui w) ?_
 exact zba (zpK w) ze6
theorem zve (h:Hart) (g:Wk) (hk:(dcR h g).1=true):Rgs (dcR h g).2.2:=by
 unfold dcR at hk ⊢
 by_cases hz:(De.pIns g.wd.toNat).op=0
 ·rw [if_pos hz] at hk;cases hk
 ·rw [if_neg hz]
  obtain ⟨h1,h2,h3⟩:=zwc g.wd.toNat
  exact ⟨h1,h2,h3⟩
theorem zgD {h:Hart} (H:HOk h) (g:Wk):HOk (dcR h g).2.1:=by
 unfold dcR
 split
 ·exact zfv H g
 ·exact H
theorem zi2 {h:Hart} (H:HOk h) (p:Pt) (t:Int) (ht:Al.U64 t):HOk (hfH h p t).2.2:=by
 unfold hfH
 split
 ·exact zdA H _ _ _ ht
 ·split
  ·exact zdA H _ _ _ ht
  ·show HOk (tkH _ 1 t)
   exact zdx (zdA H _ _ _ ht) _ _ ht
theorem zg4 {v:Mc} (H:HOk v.h) (p:Pt) (g:Wk):HOk (ftR v p g).2.1:=by
 have h1:=zi2 H p v.h.pc H.pc
 have h2:=zi2 h1 p (pcV v.h 2) (zaS _)
 obtain ⟨n,hn,en⟩:=zgP v.h p v.h.pc
 unfold ftR
 split
 ·exact h1
 ·split
  ·split
   ·exact zdx h1 2 (hfH v.h p v.h.pc).1 (by rw [en];exact ⟨by omega,by omega⟩)
   ·exact h1
  ·split
   ·exact h2
   ·exact h2
theorem ziN (v:Mc) (p:Pt) (g:Wk) (hk:(ftR v p g).1=true):0≤(ftR v p g).2.2.wd∧Al.U64 (ftR v p g).2.2.np:=by
 unfold ftR at hk ⊢
 by_cases a:(hfH v.h p v.h.pc).2.1=false
 ·rw [if_pos a] at hk;cases hk
 rw [if_neg a] at hk ⊢
 by_cases b:Br.zds (hfH v.h p v.h.pc).1.toNat=true
 ·rw [if_pos b] at hk ⊢
  by_cases c:Br.zbm (hfH v.h p v.h.pc).1.toNat=0
  ·rw [if_pos c] at hk;cases hk
  ·rw [if_neg c]
   exact ⟨Int.natCast_nonneg _,zaS _⟩
 ·rw [if_neg b] at hk ⊢
  by_cases c:(hfH (hfH v.h p v.h.pc).2.2 p (pcV v.h 2)).2.1=false
  ·rw [if_pos c] at hk;cases hk
  ·rw [if_neg c]
   refine ⟨?_,zaS _⟩
   show 0≤IntKind.u32.wrap _
   rw [IntKind.wrap_u32]
   omega
structure VOk (v:Mc) (p:Pt):Prop where
 h:HOk v.h
 b:BOk v.b
 ok:POk v p
 cnt:Al.U64 v.cnt
theorem VOk.turn {v:Mc} {p:Pt} (k:VOk v p) {h:Hart} (H:HOk h):VOk (turn v h) p:=⟨H,k.b,k.ok.turn h,k.cnt⟩
theorem VOk.ld {v:Mc} {p:Pt} (k:VOk v p) (t s:Int):VOk (ldM v p t s).1 (ldM v p t s).2.1:=by
 obtain ⟨h1,h2,_⟩:=zsp v p t s
 exact ⟨by rw [h1];exact k.h,zlm k.b t s,(zjK v p t s k.ok).ok,by rw [h2];exact k.cnt⟩
theorem VOk.st {v:Mc} {p:Pt} (k:VOk v p) (t s x:Int) (hx:Al.U64 x):VOk (stM v p t s x).1 (stM v p t s x).2.1:=by
 obtain ⟨h1,h2,_⟩:=zr6 (v:=v) (p:=p) t s x
 exact ⟨by rw [h1];exact k.h,zwO k.b t s x hx,(zjA v p t s x k.ok (U64.le hx)).ok,by rw [h2];exact k.cnt⟩
theorem sg_u (op n:Int) (hn:Al.U64 n):Al.U64 (sgV op n):=by
 unfold sgV
 split
 ·exact zaS _
 split
 ·exact zaS _
 split
 ·exact Al.zau _
 ·exact hn
theorem zvd {v:Mc} {p:Pt} (k:VOk v p) (g:Wk):VOk (ldR v p g).2.1 (ldR v p g).2.2:=by
 have hf:=zdA k.h p.D (adV v g) 1 (zaS _)
 unfold ldR
 split
 ·exact k.turn hf
 ·have k1:=(k.turn hf).ld (fnH v.h p.D (adV v g) 1).1 (za5 g.o)
  have hu:=zwA (v:=Go.Proofs.YtmjjpgaeboaamaaGreatDoor.turn v (fnH v.h p.D (adV v g) 1).2.2) (p:=p) k.cnt k.b (k.ok.turn _) (fnH v.h p.D (adV v g) 1).1 (za5 g.o)
  simp only
  split
  ·exact k1.turn (zcV k1.h _ _ (sg_u _ _ hu))
  ·exact k1.turn (zdx k1.h _ _ (zaS _))
theorem zkB {v:Mc} {p:Pt} (k:VOk v p) (g:Wk):VOk (stR v p g).2.1 (stR v p g).2.2:=by
 have hf:=zdA k.h p.D (adV v g) 2 (zaS _)
 unfold stR
 split
 ·exact k.turn hf
 ·have k1:=(k.turn hf).st (fnH v.h p.D (adV v g) 2).1 (za5 g.o) (xV (fnH v.h p.D (adV v g) 2).2.2 g.b) (hf.x _)
  simp only
  split
  ·exact k1.turn (zf5 k1.h)
  ·exact k1.turn (zdx k1.h _ _ (zaS _))
theorem zpk {v:Mc} {p:Pt} (k:VOk v p) (g:Wk) (pl s:Int):VOk (cdR v p g pl s).1 (cdR v p g pl s).2:=by
 unfold cdR
 split
 ·have k1:=k.st pl s (xV v.h g.b) (k.h.x _)
  exact k1.turn (zcV (zf5 k1.h) _ _ Al.zap)
 ·exact k.turn (zcV (zf5 k.h) _ _ ⟨by omega,by omega⟩)
theorem zs3 {v:Mc} {p:Pt} (k:VOk v p) (g:Wk) (pl s was:Int) (hp:Al.U64 pl) (hw:Al.U64 was):VOk (chR v p g pl s was).1 (chR v p g pl s was).2:=by
 unfold chR
 split
 ·have H:HOk { v.h with held:=true,rat:=pl }:=⟨k.h.x,k.h.pc,k.h.c,hp⟩
  exact k.turn (zcV H _ _ hw)
 ·split
  ·exact zpk k g pl s
  ·have k1:=k.st pl s (Al.amV g.o was (xV v.h g.b)) (Al.am_u _ _ _)
   exact k1.turn (zcV (zf5 k1.h) _ _ hw)
theorem wa_u (s n:Int) (hn:Al.U64 n):Al.U64 (waV s n):=by
 unfold waV
 split
 ·exact Al.zau _
 ·exact hn
theorem zl9 {v:Mc} {p:Pt} (k:VOk v p) (g:Wk) (s:Int):VOk (atR v p g s).2.1 (atR v p g s).2.2:=by
 have ha:=k.h.x g.a
 have hf:=zdA k.h p.D (xV v.h g.a) (kdV g.o) ha
 unfold atR
 split
 ·exact k.turn (zdx k.h _ _ ha)
 split
 ·exact k.turn hf
 split
 ·exact k.turn (zdx hf _ _ ha)
 ·exact zs3 (k.turn hf) g _ _ _ (fn_u _ _ _ _ ha) (wa_u _ _ (mm_u _ _ _))
theorem zkH {v:Mc} {p:Pt} (k:VOk v p) (g:Wk) (hnp:Al.U64 g.np):VOk (doR v p g).2.1 (doR v p g).2.2.1∧Al.U64 (doR v p g).2.2.2.np:=by
 have hm:∀ q:Hart × Bool,HOk q.1→HOk (if q.2=true then q.1 else noH v.h g):=fun q hq=>by
  split
  ·exact hq
  ·exact zfv k.h g
 have hbr:Al.U64 (brG v g).np:=by
  unfold brG
  split
  ·exact zaS _
  ·exact hnp
 have hmr:HOk (zdi v.h).1:=by
  unfold zdi
  split
  ·exact zlo k.h
  ·exact k.h
 have hsr:HOk (zdu v.h).1:=by
  unfold zdu
  split
  ·exact k.h
  ·exact zvN k.h
 show (fun R:Bool × Mc × Pt × Wk=>VOk R.2.1 R.2.2.1∧Al.U64 R.2.2.2.np) (doR v p g)
 unfold doR
 refine zal (fun R:Bool × Mc × Pt × Wk=>VOk R.2.1 R.2.2.1∧Al.U64 R.2.2.2.np) _ _ _ ⟨k.turn (zcV k.h _ _ (zaS _)),hnp⟩ ?_
 refine zal (fun R:Bool × Mc × Pt × Wk=>VOk R.2.1 R.2.2.1∧Al.U64 R.2.2.2.np) _ _ _ ⟨k.turn (zcV k.h _ _ (zaS _)),hnp⟩ ?_
 refine zal (fun R:Bool × Mc × Pt × Wk=>VOk R.2.1 R.2.2.1∧Al.U64 R.2.2.2.np) _ _ _ ⟨k.turn (zcV k.h _ _ hnp),zaS _⟩ ?_
 refine zal (fun R:Bool × Mc × Pt × Wk=>VOk R.2.1 R.2.2.1∧Al.U64 R.2.2.2.np) _ _ _ ⟨k.turn (zcV k.h _ _ hnp),Al.zag BinOp.andNot _ _⟩ ?_
 refine zal (fun R:Bool × Mc × Pt × Wk=>VOk R.2.1 R.2.2.1∧Al.U64 R.2.2.2.np) _ _ _ ⟨k,hbr⟩ ?_
 refine zal (fun R:Bool × Mc × Pt × Wk=>VOk R.2.1 R.2.2.1∧Al.U64 R.2.2.2.np) _ _ _ ⟨zvd k g,hnp⟩ ?_
 refine zal (fun R:Bool × Mc × Pt × Wk=>VOk R.2.1 R.2.2.1∧Al.U64 R.2.2.2.np) _ _ _ ⟨zkB k g,hnp⟩ ?_
 refine zal (fun R:Bool × Mc × Pt × Wk=>VOk R.2.1 R.2.2.1∧Al.U64 R.2.2.2.np) _ _ _ ⟨k,hnp⟩ ?_
 refine zal (fun R:Bool × Mc × Pt × Wk=>VOk R.2.1 R.2.2.1∧Al.U64 R.2.2.2.np) _ _ _ (zal (fun R:Bool × Mc × Pt × Wk=>VOk R.2.1 R.2.2.1∧Al.U64 R.2.2.2.np) _ _ _ ⟨k.turn (zfv k.h g),hnp⟩ ⟨k,hnp⟩) ?_
 refine zal (fun R:Bool × Mc × Pt × Wk=>VOk R.2.1 R.2.2.1∧Al.U64 R.2.2.2.np) _ _ _ ⟨k.turn (znu k.h g),hnp⟩ ?_
 refine zal (fun R:Bool × Mc × Pt × Wk=>VOk R.2.1 R.2.2.1∧Al.U64 R.2.2.2.np) _ _ _ ⟨k.turn (zdx k.h _ _ Al.zap),hnp⟩ ?_
 refine zal (fun R:Bool × Mc × Pt × Wk=>VOk R.2.1 R.2.2.1∧Al.U64 R.2.2.2.np) _ _ _ ⟨k.turn (zdx k.h _ _ k.h.pc),hnp⟩ ?_
 refine zal (fun R:Bool × Mc × Pt × Wk=>VOk R.2.1 R.2.2.1∧Al.U64 R.2.2.2.np) _ _ _ ⟨k.turn (hm _ hmr),hnp⟩ ?_
 refine zal (fun R:Bool × Mc × Pt × Wk=>VOk R.2.1 R.2.2.1∧Al.U64 R.2.2.2.np) _ _ _ ⟨k.turn (hm _ hsr),hnp⟩ ?_
 refine zal (fun R:Bool × Mc × Pt × Wk=>VOk R.2.1 R.2.2.1∧Al.U64 R.2.2.2.np) _ _ _ ⟨zl9 k g _,hnp⟩ ?_
 exact ⟨k.turn (zcV k.h _ _ (Al.do_u _ _ _)),hnp⟩
theorem zu1 {v:Mc} {p:Pt} (k:VOk v p) (g:Wk):VOk (spR v p g).1 (spR v p g).2.1:=by
 have h1:=zg4 k.h p g
 have h2:=zgD h1 (ftR v p g).2.2
 unfold spR
 split
 ·rename_i hn
  refine k.turn (zjS k.h _ ?_ _ _ Al.zap)
  rcases zhq v.h g.l with h | ⟨n,hle,h⟩
  ·exact absurd h hn
  ·rw [h,Int.toNat_natCast]
   exact hle
 split
 ·exact k.turn h1
 rename_i hft
 split
 ·exact k.turn h2
 rename_i hdc
 have hft':(ftR v p g).1=true:=by revert hft;cases (ftR v p g).1 <;> simp
 have hdc':(dcR (ftR v p g).2.1 (ftR v p g).2.2).1=true:=by revert hdc;cases (dcR (ftR v p g).2.1 (ftR v p g).2.2).1 <;> simp
 have hnp:Al.U64 (dcR (ftR v p g).2.1 (ftR v p g).2.2).2.2.np:=by
  have h:=(ziN v p g hft').2
  unfold dcR
  split <;> exact h
 obtain ⟨k3,n3⟩:=zkH (k.turn h2) (dcR (ftR v p g).2.1 (ftR v p g).2.2).2.2 hnp
 simp only
 split
 ·exact k3
 ·exact k3.turn ⟨k3.h.x,n3,k3.h.c,k3.h.rat⟩
theorem ztC (B z k:Nat) (T:Nat→Prop) (v:Mc) (p:Pt) (g:Wk) (W:World) (K:St W B z k T v p g) (V:VOk v p) (hO:(p.O.length+1)*32≤140737488355328) (hL:De.Laid W) (hlo:∀ x,x<12→¬ T x) (hk12:12≤k):Calls Tryz.prog 46 #[.pointer (some ⟨k,0,none⟩)] W fun e W'=>e=.returned (.tuple #[])∧Cw W W' B z k T (spR v p g).1 (spR v p g).2.1 (spR v p g).2.2:=by
 unfold spR
 rcases zhq v.h g.l with hp | ⟨n,hn,hp⟩
 ·rw [if_neg (by rw [hp];decide)]
  have h1k:=zg4 V.h p g
  have hwd:=ziN v p g
  rcases hf:ftR v p g with ⟨b1,h1,g1⟩
  rw [hf] at h1k hwd
  simp only at h1k hwd ⊢
  cases b1 with
  | false =>
   rw [if_pos rfl]
   exact zks B z k T v p g W K hp V.ok V.h.pc h1 g1 hf
  | true =>
   rw [if_neg (by decide)]
   have h2k:=zgD h1k g1
   have hrg:=zve h1 g1
   rcases hd:dcR h1 g1 with ⟨b2,h2,g2⟩
   rw [hd] at h2k hrg
   simp only at h2k hrg ⊢
   cases b2 with
   | false =>
    rw [if_pos rfl]
    exact zr0 B z k T v p g W K hp V.ok V.h.pc h1 g1 hf hL hlo hk12 (hwd rfl).1 h2 g2 hd
   | true =>
    rw [if_neg (by decide)]
    rcases hc:doR (turn v h2) p g2 with ⟨b3,v3,p3,g3⟩
    simp only
    cases b3 with
    | false =>
     rw [if_pos rfl]
     exact zsa B z k T v p g W K hp V.ok V.h.pc h1 g1 hf hL hlo hk12 (hwd rfl).1 h2 g2 hd (hrg rfl) hO h2k V.cnt v3 p3 g3 hc
    | true =>
     rw [if_neg (by decide)]
     exact zn4 B z k T v p g W K hp V.ok V.h.pc h1 g1 hf hL hlo hk12 (hwd rfl).1 h2 g2 hd (hrg rfl) hO h2k V.cnt v3 p3 g3 hc
 ·have hne:Tr.zbe v.h g.l≠-1:=by rw [hp];omega
  rw [if_pos hne,show (Tr.zbe v.h g.l).toNat=n by rw [hp,Int.toNat_natCast]]
  exact zot B z k T v p g W K n hn hp
def wk0 (l:Int):Wk:=⟨0,0,0,0,0,0,0,l⟩
noncomputable def hsM (v:Mc) (p:Pt):Mc × Pt:=({ (spR v p (wk0 (zcG v p))).1 with cnt:=IntKind.u64.wrap ((spR v p (wk0 (zcG v p))).1.cnt+1) },(spR v p (wk0 (zcG v p))).2.1)
theorem zkg {v m:Mc} (s:Same v m) (p:Pt):zcG m p=zcG v p:=by
 rw [s.re]
 rfl
theorem ziq (B z:Nat) (T:Nat→Prop) (v:Mc) (p:Pt) (W:World) (K:Ms W B z v p T) (hB:B≤W.heap.size) (up:∀ x,W.heap.size≤x→T x) (V:VOk v p) (hO:(p.O.length+1)*32≤140737488355328) (hL:De.Laid W) (hlo:∀ x,x<12→¬ T x):Calls Tryz.prog 15 #[.pointer (some ⟨z,0,none⟩)] W fun e W'=>e=.returned (.tuple #[])∧Ch W W' B z T (hsM v p).1 (hsM v p).2:=by
 obtain ⟨m,s1,s2,s3⟩:=K
 have CL:=hid (fun w=>zkg s1 p ▸ ztl m p w s2.len)
 have KM:=hid (fun w (h:Below W.heap.size W w)=>s2.next h)
 have KK:=hid (And.intro s1 s3)
 have HH:=hid (And.intro hB (And.intro up (And.intro V (And.intro hO (And.intro hL hlo)))))
 have h12:=hid (show 12≤W.heap.size from hL.1)
 unfold hsM
 clear s1 s2 s3 hB up V hO hL hlo
 generalize zcG v p=l at CL ⊢
 rcases hr:spR v p (wk0 l) with ⟨v1,p1,g1⟩
 simp only
 have HR:=hid hr
 clear hr
 have X:=hid (Below.refl W.heap.size W)
 go_enter Tryz.func15,Tryz.ntmps15
 go_upto_region 2 with (first | (with_reducible refine zaa rfl rfl (MBox.load (KM.out _ X.out).box) rfl ?_) | (go_at_call 45;(with_reducible refine (CL.out _).mono ?_);rintro e wb ⟨rfl,kk⟩;have X:=hid (zad X.out kk);clear kk) | fail)
 have ST:St (wb.alloc (.cells (wgC z (wk0 l)) 94)) B z wb.heap.size (fun x=>T x∧x≠wb.heap.size) v p (wk0 l):=by
  obtain ⟨hB,up,V,hO,hL,hlo⟩:=HH.out
  have hb:=zaf wb (.cells (wgC z (wk0 l)) 94)
  have s2:=KM.out _ X.out
  refine ⟨⟨m,KK.out.1,s2.next hb,fun x hx=>⟨KK.out.2 x hx,fun e=>?_⟩⟩,Nat.le_trans hB (Nat.le_trans X.out.size hb.size),fun x hx=>⟨up x (Nat.le_trans X.out.size (Nat.le_trans hb.size hx)),fun e=>?_⟩,heap_alloc_last wb _,fun h=>h.2 rfl⟩
  ·have:=(s2.lt hx).2;omega
  ·simp only [World.size_alloc] at hx;omega
 have X1:=hid (zad X.out (zaf wb (.cells (wgC z (wk0 l)) 94)))
 have HK12:=hid (show 12≤wb.heap.size from Nat.le_trans h12.out X.out.size)
 have HTB:=hid (show T wb.heap.size from HH.out.2.1 _ X.out.size)
 generalize wb.heap.size=k at ST HK12 HTB ⊢
 generalize hwc:wb.alloc (.cells (wgC z (wk0 l)) 94)=wc at ST X1
 have e:wb.alloc (.cells #[.pointer (some ⟨z,0,none⟩),.int .i64 0,.int .i64 0,.int .i64 0,.int .i64 0,.int .i64 0,.int .u32 0,.int .u64 0,.int .u64 l] 94)=wc:=hwc
 rw [e]
 clear e hwc
 have C3:=hid (ztC B z k (fun x=>T x∧x≠k) v p (wk0 l) wc ST HH.out.2.2.1 HH.out.2.2.2.1 (HH.out.2.2.2.2.1.below X1.out) (fun x hx h=>HH.out.2.2.2.2.2 x hx h.1) HK12.out)
 clear ST
 rw [HR.out] at C3
 go_upto_region 3 with (first | (go_at_call 46;(with_reducible refine C3.out.mono ?_);rintro e wd ⟨rfl,hh⟩;have HC:=hid hh;clear hh) | fail)
 have SX:=hid HC.out.1
 obtain ⟨m2,t1,t2,t3⟩:=SX.out.ms
 have HZ:=hid t2.box
 have LC:=hid (show (Instr.loadAt 22 (.pointer (some ⟨z,76,none⟩))).run Tryz.prog wd=.ok (.int .u64 v1.cnt) wd by rw [← t1.cnt];exact MBox.load_cnt t2.box)
 have HF:=hid (show Ch W (wd.setRow z (mcC { m2 with cnt:=IntKind.u64.wrap (v1.cnt+1) })) B z T { v1 with cnt:=IntKind.u64.wrap (v1.cnt+1) } p1 from by
  have c:=Chg.count (n:=IntKind.u64.wrap (v1.cnt+1)) t1 t2 t3 ⟨wd,Below.refl _ _,rfl⟩
  refine ⟨c.1.mono fun x hx=>hx.1,?_⟩
  have a:=zcd X1.out T
  have b:=HC.out.2.mono (T:=T) fun x _ hx=>hx.elim (fun h=>h.1) (fun h=>h ▸ HTB.out)
  exact (a.trans b).trans (c.2.mono fun x _ hx=>hx.1))
 clear t1 t2 t3
 go_wp2_with (first | (with_reducible first | refine zaa rfl rfl (KW.ptr SX.out.kw) rfl ?_ | refine zaa rfl rfl LC.out rfl ?_ | refine zam rfl rfl (MBox.store_cnt HZ.out _) rfl rfl ?_) | fail)
 refine bodyPost_end (results_none rfl _ _ _) rfl ⟨rfl,?_⟩
 exact HF.out
inductive One (v:Mc) (p:Pt):Mc→Pt→Prop where
 | no (h:Hart):One v p (turn v h) p
 | ld (h h':Hart) (t s:Int):One v p (turn (ldM (turn v h) p t s).1 h') (ldM (turn v h) p t s).2.1
 | st (h h':Hart) (t s x:Int) (hx:Al.U64 x):One v p (turn (stM (turn v h) p t s x).1 h') (stM (turn v h) p t s x).2.1
theorem One.self (v:Mc) (p:Pt):One v p v p:=One.no v.h
theorem One.ldR (v:Mc) (p:Pt) (g:Wk):One v p (ldR v p g).2.1 (ldR v p g).2.2:=by
 unfold Go.Proofs.YtmjjpgaeboaamaaGreatDoor.ldR
 split
 ·exact One.no _
 ·simp only
  split
  ·exact One.ld _ _ _ _
  ·exact One.ld _ _ _ _
theorem One.stR {v:Mc} {p:Pt} (k:HOk v.h) (g:Wk):One v p (stR v p g).2.1 (stR v p g).2.2:=by
 have hf:=zdA k p.D (adV v g) 2 (zaS _)
 unfold Go.Proofs.YtmjjpgaeboaamaaGreatDoor.stR
 split
 ·exact One.no _
 ·simp only
  split
  ·exact One.st _ _ _ _ _ (hf.x _)
  ·exact One.st _ _ _ _ _ (hf.x _)
theorem One.chR {v:Mc} {p:Pt} (h0:Hart) (k:HOk h0) (g:Wk) (pl s was:Int):One v p (chR (turn v h0) p g pl s was).1 (chR (turn v h0) p g pl s was).2:=by
 unfold Go.Proofs.YtmjjpgaeboaamaaGreatDoor.chR
 split
 ·exact One.no _
 ·split
  ·unfold Go.Proofs.YtmjjpgaeboaamaaGreatDoor.cdR
   split
   ·exact One.st _ _ _ _ _ (k.x _)
   ·exact One.no _
  ·exact One.st _ _ _ _ _ (Al.am_u _ _ _)
theorem One.atR {v:Mc} {p:Pt} (k:HOk v.h) (g:Wk) (s:Int):One v p (atR v p g s).2.1 (atR v p g s).2.2:=by
 have hf:=zdA k p.D (xV v.h g.a) (kdV g.o) (k.x _)
 unfold Go.Proofs.YtmjjpgaeboaamaaGreatDoor.atR
 split
 ·exact One.no _
 split
 ·exact One.no _
 split
 ·exact One.no _
 ·exact One.chR _ hf g _ _ _
theorem One.pre {v:Mc} {p:Pt} {h:Hart} {v':Mc} {p':Pt} (o:One (turn v h) p v' p'):One v p v' p':=by
 cases o with
 | no x=>exact One.no x
 | ld x y t s=>exact One.ld x y t s
 | st x y t s u hu=>exact One.st x y t s u hu
theorem One.post {v:Mc} {p:Pt} {v':Mc} {p':Pt} (o:One v p v' p') (h:Hart):One v p (turn v' h) p':=by
 cases o with
 | no x=>exact One.no h
 | ld x y t s=>exact One.ld x h t s
 | st x y t s u hu=>exact One.st x h t s u hu
theorem One.doR {v:Mc} {p:Pt} (k:HOk v.h) (g:Wk):One v p (doR v p g).2.1 (doR v p g).2.2.1:=by
 show (fun R:Bool × Mc × Pt × Wk=>One v p R.2.1 R.2.2.1) (Go.Proofs.YtmjjpgaeboaamaaGreatDoor.doR v p g)
 unfold Go.Proofs.YtmjjpgaeboaamaaGreatDoor.doR
 refine zal (fun R:Bool × Mc × Pt × Wk=>One v p R.2.1 R.2.2.1) _ _ _ (One.no _) ?_
 refine zal (fun R:Bool × Mc × Pt × Wk=>One v p R.2.1 R.2.2.1) _ _ _ (One.no _) ?_
 refine zal (fun R:Bool × Mc × Pt × Wk=>One v p R.2.1 R.2.2.1) _ _ _ (One.no _) ?_
 refine zal (fun R:Bool × Mc × Pt × Wk=>One v p R.2.1 R.2.2.1) _ _ _ (One.no _) ?_
 refine zal (fun R:Bool × Mc × Pt × Wk=>One v p R.2.1 R.2.2.1) _ _ _ (One.self v p) ?_
 refine zal (fun R:Bool × Mc × Pt × Wk=>One v p R.2.1 R.2.2.1) _ _ _ (One.ldR v p g) ?_
 refine zal (fun R:Bool × Mc × Pt × Wk=>One v p R.2.1 R.2.2.1) _ _ _ (One.stR k g) ?_
 refine zal (fun R:Bool × Mc × Pt × Wk=>One v p R.2.1 R.2.2.1) _ _ _ (One.self v p) ?_
 refine zal (fun R:Bool × Mc × Pt × Wk=>One v p R.2.1 R.2.2.1) _ _ _ (zal (fun R:Bool × Mc × Pt × Wk=>One v p R.2.1 R.2.2.1) _ _ _ (One.no _) (One.self v p)) ?_
 refine zal (fun R:Bool × Mc × Pt × Wk=>One v p R.2.1 R.2.2.1) _ _ _ (One.no _) ?_
 refine zal (fun R:Bool × Mc × Pt × Wk=>One v p R.2.1 R.2.2.1) _ _ _ (One.no _) ?_
 refine zal (fun R:Bool × Mc × Pt × Wk=>One v p R.2.1 R.2.2.1) _ _ _ (One.no _) ?_
 refine zal (fun R:Bool × Mc × Pt × Wk=>One v p R.2.1 R.2.2.1) _ _ _ (One.no _) ?_
 refine zal (fun R:Bool × Mc × Pt × Wk=>One v p R.2.1 R.2.2.1) _ _ _ (One.no _) ?_
 refine zal (fun R:Bool × Mc × Pt × Wk=>One v p R.2.1 R.2.2.1) _ _ _ (One.atR k g _) ?_
 exact One.no _
theorem One.spR {v:Mc} {p:Pt} (k:HOk v.h) (g:Wk):One v p (spR v p g).1 (spR v p g).2.1:=by
 have h1:=zg4 k p g
 have h2:=zgD h1 (ftR v p g).2.2
 unfold Go.Proofs.YtmjjpgaeboaamaaGreatDoor.spR
 split
 ·exact One.no _
 split
 ·exact One.no _
 split
 ·exact One.no _
 simp only
 split
 ·exact (One.doR (v:=turn v _) h2 _).pre
 ·exact (One.doR (v:=turn v _) h2 _).pre.post _
theorem One.grown {v:Mc} {p:Pt} {v':Mc} {p':Pt} (o:One v p v' p') (ok:POk v p):zeW v p v' p':=by
 cases o with
 | no x=>exact ⟨ok.turn x,.inl ⟨rfl,rfl⟩⟩
 | ld x y t s =>
  have g:=zjK (turn v x) p t s (ok.turn x)
  exact ⟨g.ok.turn y,g.o⟩
 | st x y t s u hu =>
  have g:=zjA (turn v x) p t s u (ok.turn x) (U64.le hu)
  exact ⟨g.ok.turn y,g.o⟩
theorem zeW.len {v:Mc} {p:Pt} {v':Mc} {p':Pt} (g:zeW v p v' p'):p'.O.length≤p.O.length+1:=by
 rcases g.o with ⟨e,_⟩ | ⟨d,s,e,_⟩
 ·rw [e];omega
 ·rw [e,List.length_append];exact Nat.le_refl _
theorem zmW {v:Mc} {p:Pt} (V:VOk v p):VOk (hsM v p).1 (hsM v p).2:=by
 have k:=zu1 V (wk0 (zcG v p))
 exact ⟨k.h,k.b,⟨⟨k.ok.bd.addr,k.ok.bd.nicA,k.ok.bd.sector⟩,k.ok.c,k.ok.fz,k.ok.fl,k.ok.dl,k.ok.ml⟩,zaS _⟩
theorem zwh {v:Mc} {p:Pt} (V:VOk v p):(hsM v p).2.O.length≤p.O.length+1:=((One.spR V.h (wk0 (zcG v p))).grown V.ok).len
def Win (D D':List UInt8):Prop:=D'.length=D.length∧∃ a:Nat,∀ k,D'[k]?≠D[k]?→a≤k∧k<a+8
theorem Win.same (D:List UInt8):Win D D:=⟨rfl,0,fun _ h=>absurd rfl h⟩
theorem zqr (D:List UInt8) (t:Int) (s:ByteArray) (hs:s.size≤8):Win D (putD D t s):=by
 refine ⟨zev D t s,?_⟩
 unfold putD
 split
 ·rename_i h
  obtain ⟨h1,h2,h3⟩:=zcE.1 h.2
  have e:s.data.toList.length=s.size:=by rw [Array.length_toList];rfl
  refine ⟨(t - 2147483648).toNat,fun k hk=>?_⟩
  unfold spl splice at hk
  by_cases a:k<(t - 2147483648).toNat
  ·refine absurd ?_ hk
   rw [List.getElem?_append_left (by rw [List.length_take];omega),List.getElem?_take_of_lt a]
  by_cases b:k<(t - 2147483648).toNat+8
  ·exact ⟨by omega,b⟩
  ·refine absurd ?_ hk
   have hl:(D.take (t - 2147483648).toNat).length=(t - 2147483648).toNat:=by rw [List.length_take];omega
   rw [List.getElem?_append_right (by rw [hl];omega),List.getElem?_append_right (by rw [hl,e];omega),List.getElem?_drop,hl,e]
   congr 1
   omega
 ·exact ⟨0,fun _ h=>absurd rfl h⟩
theorem zmy (D:List UInt8) (t:Int) (s:ByteArray) (h:putB D.length t s=false):putD D t s=D:=by
 unfold putB at h
 rw [Bool.or_eq_false_iff] at h
 unfold putD
 rw [if_neg (fun k=>by rw [h.2] at k;exact absurd k.2 (by decide))]
theorem zoh (b:Bd) (F:List ByteArray) (E:Int) (D:List UInt8) (M:List Int) (k:Int) (es:ByteArray):(actF b F E D M k es).D.length=D.length∧((actF b F E D M k es).D=D∨(actF b F E D M k es).b.done=true∨(actF b F E D M k es).F.length≠F.length):=by
 refine ⟨(zjf b F E D M k es).d,?_⟩
 unfold actF
 split
 ·exact .inl rfl
 split
 ·split
  ·exact .inl rfl
  ·exact .inr (.inl rfl)
 split
 ·split
  ·exact .inl rfl
  ·split <;> exact .inl rfl
 split
 ·split
  ·rename_i h0
   rcases Bool.eq_false_or_eq_true (putB D.length b.nicA F[0]) with h | h
   ·refine .inr (.inr ?_)
    show (if putB D.length b.nicA F[0]=true then F.tail else F).length≠F.length
    rw [if_pos h,List.length_tail]
    omega
   ·exact .inl (zmy _ _ _ h)
  ·exact .inl rfl
 split <;> exact .inl rfl
def Qt (v:Mc) (p:Pt) (v':Mc) (p':Pt):Prop:=Win p.D p'.D∨(p'.D.length=p.D.length∧(v'.b.done≠v.b.done∨p'.F.length≠p.F.length∨v.b.done=true))
theorem zwW (b:Bd) (F:List ByteArray) (t s x:Int):(stF b F t s x).2.2.2.2=true→(stF b F t s x).1.done=b.done∧(stF b F t s x).2.1=F:=by
 show (fun R:Bd × List ByteArray × Int × ByteArray × Bool=>R.2.2.2.2=true→R.1.done=b.done∧R.2.1=F) (stF b F t s x)
 unfold stF
 iterate 10 refine zal (fun R:Bd × List ByteArray × Int × ByteArray × Bool=>R.2.2.2.2=true→R.1.done=b.done∧R.2.1=F) _ _ _ (fun _=>⟨rfl,rfl⟩) ?_
 exact fun h=>by cases h
theorem ztg (v:Mc) (p:Pt) (t s x:Int):Qt v p (stM v p t s x).1 (stM v p t s x).2.1:=by
 have hd:=zwW v.b p.F t s x
 unfold stM
 by_cases h1:okB s=false
 ·rw [if_pos h1];exact .inl (Win.same _)
 rw [if_neg h1]
 by_cases h2:putB p.D.length t (zbC x.toNat s.toNat)=true
 ·rw [if_pos h2]
  refine .inl (zqr _ _ _ ?_)
  have h8:s.toNat≤8:=by
   unfold okB at h1
   have h1:(s==1 || s==2 || s==4 || s==8)=true:=by revert h1;cases (s==1 || s==2 || s==4 || s==8) <;> simp
   simp only [Bool.or_eq_true,beq_iff_eq] at h1
   omega
  rw [zfK _ _ h8]
  exact h8
 rw [if_neg h2]
 by_cases h3:ofB t=true
 ·rw [if_pos h3]
  exact zal (fun R:Mc × Pt × Bool=>Qt v p R.1 R.2.1) _ _ _ (.inl (Win.same _)) (.inl (Win.same _))
 rw [if_neg h3]
 by_cases h4:(stF v.b p.F t s x).2.2.2.2=true
 ·rw [if_pos h4]
  obtain ⟨d1,d2⟩:=hd h4
  refine zal (fun R:Mc × Pt × Bool=>Qt v p R.1 R.2.1) _ _ _ (.inl (Win.same _)) ?_
  show Qt v p (acM _ _ _ _).1 (acM _ _ _ _).2
  obtain ⟨w1,w2⟩:=zoh (stF v.b p.F t s x).1 (stF v.b p.F t s x).2.1 v.E p.D p.M (stF v.b p.F t s x).2.2.1 (stF v.b p.F t s x).2.2.2.1
  have key:∀ (n:Int) (O:List Rec),Qt v p { v with b:=(actF (stF v.b p.F t s x).1 (stF v.b p.F t s x).2.1 v.E p.D p.M (stF v.b p.F t s x).2.2.1 (stF v.b p.F t s x).2.2.2.1).b,nxt:=n } ⟨(actF (stF v.b p.F t s x).1 (stF v.b p.F t s x).2.1 v.E p.D p.M (stF v.b p.F t s x).2.2.1 (stF v.b p.F t s x).2.2.2.1).F,(actF (stF v.b p.F t s x).1 (stF v.b p.F t s x).2.1 v.E p.D p.M (stF v.b p.F t s x).2.2.1 (stF v.b p.F t s x).2.2.2.1).D,(actF (stF v.b p.F t s x).1 (stF v.b p.F t s x).2.1 v.E p.D p.M (stF v.b p.F t s x).2.2.1 (stF v.b p.F t s x).2.2.2.1).M,O⟩:=fun n O=>by
   rcases w2 with e | e | e
   ·refine .inl ?_
    show Win p.D (actF _ _ _ _ _ _ _).D
    rw [e]
    exact Win.same _
   ·refine .inr ⟨w1,?_⟩
    rcases Bool.eq_false_or_eq_true v.b.done with hv | hv
    ·exact .inr (.inr hv)
    ·refine .inl ?_
     show (actF _ _ _ _ _ _ _).b.done≠v.b.done
     rw [e,hv]
     decide
   ·refine .inr ⟨w1,.inr (.inl ?_)⟩
    rw [d2] at e
    show (actF _ _ _ _ _ _ _).F.length≠p.F.length
    rw [d2]
    exact e
  unfold acM
  split
  ·exact key _ _
  ·exact key _ _
 ·rw [if_neg h4]
  exact .inl (Win.same _)
theorem zmx (v:Mc) (p:Pt) (t s:Int):(ldM v p t s).2.1.D=p.D:=by
 unfold ldM
 refine zal (fun R:Mc × Pt × Int × Bool=>R.2.1.D=p.D) _ _ _ rfl ?_
 refine zal (fun R:Mc × Pt × Int × Bool=>R.2.1.D=p.D) _ _ _ ?_ ?_
 ·exact zal (fun R:Mc × Pt × Int × Bool=>R.2.1.D=p.D) _ _ _ rfl rfl
 ·exact zal (fun R:Mc × Pt × Int × Bool=>R.2.1.D=p.D) _ _ _ rfl rfl
theorem One.win {v:Mc} {p:Pt} {v':Mc} {p':Pt} (o:One v p v' p'):Qt v p v' p':=by
 cases o with
 | no x=>exact .inl (Win.same _)
 | ld x y t s=>exact .inl (by rw [zmx];exact Win.same _)
 | st x y t s u hu=>exact ztg (turn v x) p t s u
theorem ztY {v:Mc} {p:Pt} (V:VOk v p):Qt v p (hsM v p).1 (hsM v p).2:=(One.spR V.h (wk0 (zcG v p))).win
abbrev zim:ByteArray:=⟨#[19,5,80,0]⟩
noncomputable def awD:List UInt8:=spl (List.replicate (1*256) 0) 0 zim
theorem zgH:awD.length=256:=by decide +kernel
theorem zu6:ldV awD 2147483648 2=1299:=by decide +kernel
theorem ztR:ldV awD 2147483650 2=80:=by decide +kernel
theorem zrH:stE awD.length 2147483648 2=0:=by rw [zgH];decide +kernel
theorem zpb:stE awD.length 2147483650 2=0:=by rw [zgH];decide +kernel
structure AwD (D:List UInt8):Prop where
 lo:ldV D 2147483648 2=1299
 hi:ldV D 2147483650 2=80
 slo:stE D.length 2147483648 2=0
 shi:stE D.length 2147483650 2=0
 len:D.length=256
theorem ztL:AwD awD:=⟨zu6,ztR,zrH,zpb,zgH⟩
def awH:Hart:={ x:=List.replicate 32 0,hx:=List.length_replicate,pc:=2147483648,mode:=3,c:=⟨0,0,0,0,0,0,0,0,0,0,0,0,0,0,0,0⟩,held:=false,rat:=0 }
def awM (dv mv:Value):Mc:={ h:=awH,b:=bdZ,dv:=dv,mv:=mv,E:=0,cnt:=0,nxt:=0,ov:=.slice none 0 0 }
theorem zpZ:HOk awH:=by
 refine ⟨fun n=>?_,⟨by decide,by decide⟩,⟨Al.zap,Al.zap,Al.zap,Al.zap,Al.zap,Al.zap,Al.zap,Al.zap,Al.zap,Al.zap,Al.zap,Al.zap,Al.zap,Al.zap,Al.zap,Al.zap⟩,Al.zap⟩
 have e:xV awH n=0:=by
  unfold xV awH
  rw [List.getD_eq_getElem?_getD]
  by_cases h:n.toNat<32
  ·rw [List.getElem?_replicate_of_lt h]
   rfl
  ·rw [List.getElem?_eq_none (by rw [List.length_replicate];omega)]
   rfl
 rw [e]
 exact Al.zap
theorem zhc:(0:Int)≤0∧(0:Int)≤18446744073709551615:=by decide
theorem zlS (dv mv:Value) (D:List UInt8) (hD:D.length=256):VOk (awM dv mv) ⟨[],D,[0],[]⟩ :=
 ⟨zpZ,⟨Al.zap,Al.zap⟩,⟨⟨zhc,zhc,zhc⟩,⟨Int.le_refl 0,(show (0:Int)<4294967296 by decide)⟩,fun f hf=>(by cases hf),Nat.zero_le _,by rw [hD];decide,(show 1≤17592186043904 by decide)⟩,Al.zap⟩
theorem znI (l:Int):Tr.zbe awH l=-1:=by
 unfold Tr.zbe
 rw [show Tr.upV awH=false by decide +kernel,show Tr.midV awH=false by decide +kernel]
 simp
theorem zp4 {h:Hart} (D:List UInt8) (t:Int) (hk:3≤Wk.zdq h.c.s0 h.mode 0):fnH h D t 0=(t,true,h):=by
 have e:Wk.zbi D h.c.s0 h.c.s15 h.mode t 0=(t,-1):=by
  unfold Wk.zbi
  rw [if_neg (by decide),if_pos hk]
 unfold fnH
 rw [e,if_pos rfl]
theorem zht (D:List UInt8) (F:List ByteArray) (M:List Int) (O:List Rec) (t n:Int) (h1:ldV D t 2=n) (h2:stE D.length t 2=0) (ht:¬ t<2147483648):hfH awH ⟨F,D,M,O⟩ t=(n,true,awH):=by
 unfold hfH
 rw [zp4 D t (by decide +kernel)]
 have e:mmV ⟨F,D,M,O⟩ t 2=(n,true):=by
  unfold mmV
  rw [if_neg ht,if_pos h2,h1]
 simp only
 rw [if_neg (by decide),e,if_pos rfl]
theorem zxy (dv mv:Value) (D:List UInt8) (hD:AwD D) (g:Wk):ftR (awM dv mv) ⟨[],D,[0],[]⟩ g=(true,awH,{ g with wd:=5244179,np:=2147483652 }):=by
 have a:=zht D [] [0] [] 2147483648 1299 hD.lo hD.slo (by decide)
 have b:=zht D [] [0] [] 2147483650 80 hD.hi hD.shi (by decide)
 unfold ftR
 rw [show (awM dv mv).h=awH from rfl,show awH.pc=2147483648 from rfl,a]
 simp only
 rw [if_neg (by decide),if_neg (by decide),show pcV awH 2=2147483650 by decide +kernel,b]
 simp only
 rw [if_neg (by decide),show zez 80 1299=5244179 by decide +kernel,show pcV awH 4=2147483652 by decide +kernel]
theorem zqw:De.pIns 5244179=⟨22,10,0,0,5⟩:=by kernel_rfl
theorem ztT (g:Wk):dcR awH { g with wd:=5244179,np:=2147483652 }=(true,awH,⟨22,10,0,0,5,5244179,2147483652,g.l⟩):=by
 unfold dcR
 rw [show ((5244179:Int).toNat)=5244179 from rfl,zqw]
 rfl
theorem zpV (dv mv:Value) (p:Pt) (l:Int):doR (awM dv mv) p ⟨22,10,0,0,5,5244179,2147483652,l⟩=(true,turn (awM dv mv) (putH awH 10 5),p,⟨22,10,0,0,5,5244179,2147483652,l⟩):=by
 have e:sumV (awM dv mv) ⟨22,10,0,0,5,5244179,2147483652,l⟩=5:=by
  unfold sumV
  rw [if_pos (show zdO 22=true by decide +kernel),Al.zq0]
  exact (show Al.uV (xV awH 0+uImm 5)=5 by decide +kernel)
 unfold doR
 simp only
 rw [if_neg (by decide),if_neg (by decide),if_neg (by decide),if_neg (by decide),if_neg (by decide),if_neg (by decide),if_neg (by decide),if_neg (by decide),if_neg (by decide),if_neg (by decide),if_neg (by decide),if_neg (by decide),if_neg (by decide),if_neg (by decide),if_neg (by decide),e]
 rfl
theorem zvP (dv mv:Value) (D:List UInt8) (hD:AwD D):(hsM (awM dv mv) ⟨[],D,[0],[]⟩).1={ awM dv mv with h:={ putH awH 10 5 with pc:=2147483652 },cnt:=1 }:=by
 have e:spR (awM dv mv) ⟨[],D,[0],[]⟩ (wk0 (zcG (awM dv mv) ⟨[],D,[0],[]⟩))=(turn (awM dv mv) { putH awH 10 5 with pc:=2147483652 },⟨[],D,[0],[]⟩,⟨22,10,0,0,5,5244179,2147483652,zcG (awM dv mv) ⟨[],D,[0],[]⟩⟩):=by
  unfold spR
  rw [show (awM dv mv).h=awH from rfl,znI,if_neg (by decide),zxy dv mv D hD]
  simp only
  rw [if_neg (by decide),ztT]
  simp only
  rw [if_neg (by decide),show turn (awM dv mv) awH=awM dv mv from rfl]
  rw [show (wk0 (zcG (awM dv mv) ⟨[],D,[0],[]⟩)).l=zcG (awM dv mv) ⟨[],D,[0],[]⟩ from rfl,zpV]
  rfl
 unfold hsM
 rw [e]
 rfl
theorem zoa (W:World):Calls Tryz.prog 40 #[.int .i64 1,.string ⟨#[19,5,80,0]⟩] W fun e W'=>∃ D,AwD D∧zju W D [0] 0 0 e W':=(ztF 1 zim W (by decide) (by decide) (by decide)).mono fun _ _ h=>⟨awD,ztL,h⟩
theorem zkf:Tryz.prog.built 27 [(1,.int .u64 2147483648),(2,.int .i64 3)]=some (zar awH):=by kernel_rfl
theorem zsS (dv mv:Value):Tryz.prog.built 42 [(2,.agg #[dv,mv,.int .u64 0]),(0,zas awH)]=some (mcC (awM dv mv)):=by kernel_rfl
theorem zhH {P:Program} {ρ:Operand→Value} {o:Oper} {t:TypeId} {i j:Nat} {x y:Operand} {vx vy:Value} {cells:Array Value} {w:World} (ho:o.op=.build t #[(i,x),(j,y)]) (hx:ρ x=vx) (hy:ρ y=vy) (h:P.built t [(i,vx),(j,vy)]=some cells):(execOp ρ o).run P w=.ok (.value (.agg cells)) w:=by
 simp [execOp,ho,hx,hy,run_build w t #[(i,vx),(j,vy)] cells h,Result.andThen]
theorem zgC {w:World} {ops:Array Oper} {rest:List Oper} {o:Oper} {a:Act} {Q:Exit→Act→World→Prop} (hgd:Region.wanted o (yielded ops a.tmps)=true) {r:Value} (hrun:(execOp a.eval o).run Tryz.prog w=.ok (.value r) w)
  (h:wpList Tryz.prog ops Q rest (a.put o.dst r) w):wpList Tryz.prog ops Q (o :: rest) a w:=by
 refine wpList_step fun K hK=>?_
 rw [if_pos hgd]
 unfold Oper.wp
 rw [hrun]
 exact hK _ _ h
theorem zrv {w:World} {g:Nat} {dv mv:Value} (h:w.heap[g]?=some (.cells #[dv,mv,.int .u64 0] 39 (0,0))):(Instr.loadAt 39 (.pointer (some ⟨g,0,none⟩))).run Tryz.prog w=.ok (.agg #[dv,mv,.int .u64 0]) w:=by
 simp only [Instr.loadAt,Instr.sureAddr,Sem.run_bind,Sem.run_pure,Result.andThen]
 exact run_loadVar_row w g 39 39 _ (0,0) _ h Tryz.underlying39 rfl (by kernel_rfl)
abbrev From (N:Nat):Nat→Prop:=fun x=>N≤x
theorem MS.from {w:World} {B z:Nat} {m:Mc} {p:Pt} (h:MS w B z m p):Ms w B z m p (From B):=⟨m,Same.refl m,h,fun _ hx=>(h.lt hx).1⟩
theorem zan.from {W w w':World} (X:Below W.heap.size W w) (t:zan w w' (From W.heap.size)):Below W.heap.size W w':=zan.below X t (fun _ h=>h) X.size
theorem znh (W:World) (hL:De.Laid W):TB 12 #[] W (.bool true):=by
 have HL:=hid hL
 clear hL
 go_enter Tryz.func12,Tryz.ntmps12
 have X:=hid (Mem.start W)
 go_upto_region 2 with (first | (go_at_call 40;(with_reducible refine (zoa W).mono ?_);rintro e wb ⟨D,hAD,dv,mv,rfl,hD,hM,kk⟩;have HAD:=hid hAD;obtain ⟨p1,c1,e1⟩:=zbJ hD;obtain ⟨p2,c2,e2⟩:=zbJ hM;subst e1;subst e2;have HD:=hid hD;have HM:=hid hM;have X:=hid (X.out.next kk);clear kk hD hM hAD) | fail)
 have X:=hid (X.out.new (ramC (.slice p1 D.length c1) (.slice p2 1 c2) 0) 39 (by decide))
 have HA:=hid (show OwnD (wb.alloc (.cells (ramC (.slice p1 D.length c1) (.slice p2 1 c2) 0) 39)) W.heap.size (.slice p1 D.length c1) D from HD.out.below (zaf wb _))
 have HB:=hid (show OwnM (wb.alloc (.cells (ramC (.slice p1 D.length c1) (.slice p2 1 c2) 0) 39)) W.heap.size (.slice p2 1 c2) [0] from HM.out.below (zaf wb _))
 have H1:=hid (Mc1.mk (m:=awM (.slice p1 D.length c1) (.slice p2 1 c2)) (zfb HD.out) (zfb HM.out) rfl)
 generalize hwc:wb.alloc (.cells (ramC (.slice p1 D.length c1) (.slice p2 1 c2) 0) 39)=wc at X HA HB
 have e:wb.alloc (.cells #[.slice p1 D.length c1,.slice p2 1 c2,.int .u64 0] 39)=wc:=hwc
 try rw [e]
 clear e hwc
 generalize wb.heap.size=gr at X ⊢
 go_upto_region 3 with (first | (with_reducible refine zaa rfl rfl (zrv X.out.g0) rfl ?_) | ((with_reducible show wpList _ _ _ (⟨some 9,Op.build 27 _,_,_,_,_⟩ :: _) _ _);refine zgC (by kernel_rfl) (zhH rfl rfl rfl zkf) ?_;simp only [Act.put,List.setIfInBounds_toArray,List.set_cons_zero,List.set_cons_succ]) | ((with_reducible show wpList _ _ _ (⟨some 10,Op.build 42 _,_,_,_,_⟩ :: _) _ _);refine zgC (by kernel_rfl) (zhH rfl rfl rfl (zsS _ _)) ?_;simp only [Act.put,List.setIfInBounds_toArray,List.set_cons_zero,List.set_cons_succ]) | (with_reducible refine zam rfl rfl (MBox.store (awM (.slice p1 D.length c1) (.slice p2 1 c2)) H1.out (X.out.new Tryz.zeroCells42 42 (by decide)).g0 (by kernel_rfl)) rfl rfl ?_) | fail)
 have HA:=hid (zbB (HA.out.below (zaf wc (.cells Tryz.zeroCells42 42))) (X.out.new Tryz.zeroCells42 42 (by decide)).g0 (by decide) (mcC (awM (.slice p1 D.length c1) (.slice p2 1 c2))))
 have HB:=hid (zbB (HB.out.below (zaf wc (.cells Tryz.zeroCells42 42))) (X.out.new Tryz.zeroCells42 42 (by decide)).g0 (by decide) (mcC (awM (.slice p1 D.length c1) (.slice p2 1 c2))))
 have X:=hid ((X.out.new Tryz.zeroCells42 42 (by decide)).p0 (cs':=mcC (awM (.slice p1 D.length c1) (.slice p2 1 c2))) rfl)
 generalize wc.heap.size=z at X HA HB ⊢
 generalize (wc.alloc (Obj.cells Tryz.zeroCells42 42)).setRow z (mcC (awM (.slice p1 D.length c1) (.slice p2 1 c2)))=we at X HA HB ⊢
 have K:MS we W.heap.size z (awM (.slice p1 D.length c1) (.slice p2 1 c2)) ⟨[],D,[0],[]⟩:=⟨X.out.m0,X.out.big _ (List.mem_cons_self ..),FT.of (World.ownsRow_nil _ _ _ _),HA.out,HB.out,World.ownsRow_nil _ _ _ _⟩
 have BX:=hid X.out.below
 have C1:=hid (ziq W.heap.size z (From W.heap.size) (awM (.slice p1 D.length c1) (.slice p2 1 c2)) ⟨[],D,[0],[]⟩ we K.from BX.out.size (fun x hx=>Nat.le_trans BX.out.size hx) (zlS _ _ D HAD.out.len) (show (0+1)*32≤140737488355328 by decide) (HL.out.below BX.out) (fun x hx h=>absurd HL.out.1 (by omega)))
 rw [zvP _ _ D HAD.out] at C1
 clear K X HA HB HD HM HAD H1
 go_upto_region 4 with (first | (go_at_call 15;(with_reducible refine C1.out.mono ?_);rintro e wf ⟨rfl,kf,tf⟩;have KF:=hid kf;have TF:=hid tf;clear kf tf) | fail)
 obtain ⟨m,s1,s2,s3⟩:=KF.out
 have eh:=s1.h
 have ec:=s1.cnt
 have m_x:wf.cell? ⟨z,10,none⟩=some (.int .u64 5):=by
  have h:=(cell_of_row wf z 10 (mcC m) 42 (0,0) s2.box).trans (zeu m 10 (by decide))
  rw [eh] at h
  exact h.trans rfl
 have m_pc:wf.cell? ⟨z,32,none⟩=some (.int .u64 2147483652):=by
  have h:=(cell_of_row wf z 32 (mcC m) 42 (0,0) s2.box).trans (zeu m 32 (by decide))
  rw [eh] at h
  exact h.trans rfl
 have m_cnt:wf.cell? ⟨z,76,none⟩=some (.int .u64 1):=by
  have h:=(cell_of_row wf z 76 (mcC m) 42 (0,0) s2.box).trans (zdm m 3)
  unfold mcT at h
  rw [ec] at h
  exact h
 have B:=hid (zan.from BX.out TF.out)
 clear s1 s2 s3 eh ec
 go_wp2_with fail
 go_ret
 exact ⟨rfl,B.out⟩
end Go.Proofs.YtmjjpgaeboaamaaGreatDoor
