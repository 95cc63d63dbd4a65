/- MachineOn, part 43. -/
import Derived.Test.YtplcfdnfeclpmaaGreatDoorV30
import Derived.Test.YtplcfdnfeclpmaaGreatDoorV32
import Derived.Test.YtplcfdnfeclpmaaGreatDoorV42
set_option maxHeartbeats 4000000
set_option maxRecDepth 100000
open Go.Lib (hid)
open Go Go.RowKit Go.Deep Go.Joins Go.Proofs.Tryz
namespace Go.Proofs.YtplcfdnfeclpmaaGreatDoor
theorem cut5 (w l:Nat):(0:Int)≤(De.cutN w l 5:Nat)∧((De.cutN w l 5:Nat):Int)<32:=⟨by omega,by have:=De.zbk w l 5;omega⟩
theorem z5:(0:Int)≤0∧(0:Int)<32:=⟨by omega,by omega⟩
def RIn (i:De.In):Prop:=(0≤i.rd∧i.rd<32)∧(0≤i.rs1∧i.rs1<32)∧(0≤i.rs2∧i.rs2<32)
theorem zbn {c:Prop} [Decidable c] {a b:De.In} (ha:RIn a) (hb:RIn b):RIn (if c then a else b):=by split <;> assumption
theorem zfW:RIn ⟨0,0,0,0,0⟩:=⟨z5,z5,z5⟩
theorem zra (w:Nat):RIn (De.pOwn w):=by
 unfold De.pOwn;exact zbn ⟨cut5 _ _,cut5 _ _,z5⟩ (zbn ⟨cut5 _ _,cut5 _ _,z5⟩ (zbn ⟨cut5 _ _,cut5 _ _,z5⟩ ⟨cut5 _ _,cut5 _ _,z5⟩))
theorem zwb (w:Nat):RIn (De.zbt w):=by
 unfold De.zbt;exact zbn ⟨cut5 _ _,cut5 _ _,z5⟩ (zbn ⟨cut5 _ _,cut5 _ _,z5⟩ (zbn ⟨cut5 _ _,cut5 _ _,z5⟩ (zbn ⟨cut5 _ _,cut5 _ _,z5⟩ zfW)))
theorem zmW (w:Nat):RIn (De.pSys w):=by
 unfold De.pSys;exact zbn ⟨cut5 _ _,cut5 _ _,z5⟩ (zbn ⟨z5,z5,z5⟩ (zbn ⟨z5,z5,z5⟩ (zbn ⟨z5,z5,z5⟩ (zbn ⟨z5,z5,z5⟩ (zbn ⟨z5,z5,z5⟩ (zbn ⟨z5,cut5 _ _,cut5 _ _⟩ zfW))))))
theorem ztI (w:Nat):RIn (De.za5 w):=by
 unfold De.za5;exact zbn (zbn ⟨cut5 _ _,cut5 _ _,z5⟩ zfW) ⟨cut5 _ _,cut5 _ _,cut5 _ _⟩
theorem zxv (w:Nat):RIn (De.pIns w):=by
 unfold De.pIns;refine zbn ⟨cut5 _ _,z5,z5⟩ ?_
 refine zbn ⟨cut5 _ _,z5,z5⟩ ?_
 refine zbn ⟨cut5 _ _,z5,z5⟩ ?_
 refine zbn (zbn ⟨cut5 _ _,cut5 _ _,z5⟩ zfW) ?_
 refine zbn ⟨z5,cut5 _ _,cut5 _ _⟩ ?_
 refine zbn ⟨cut5 _ _,cut5 _ _,z5⟩ ?_
 refine zbn ⟨z5,cut5 _ _,cut5 _ _⟩ ?_
 refine zbn (zra w) ?_
 refine zbn (zwb w) ?_
 refine zbn ⟨cut5 _ _,cut5 _ _,cut5 _ _⟩ ?_
 refine zbn ⟨cut5 _ _,cut5 _ _,cut5 _ _⟩ ?_
 refine zbn ⟨z5,z5,z5⟩ ?_
 refine zbn (ztI w) ?_
 exact zbn (zmW w) zfW
theorem zjK (h:Hart) (g:Wk) (hk:(dcR h g).1=true):Rgs (dcR h g).2.2:=by
 unfold dcR at hk ⊢
 by_cases hz:(De.pIns g.wd.toNat).op=0
 ·rw [if_pos hz] at hk;cases hk
 ·rw [if_neg hz]
  obtain ⟨h1,h2,h3⟩:=zxv g.wd.toNat;exact ⟨h1,h2,h3⟩
theorem zgU {h:Hart} (H:HOk h) (g:Wk):HOk (dcR h g).2.1:=by
 unfold dcR
 split
 ·exact zfK H g
 ·exact H
theorem zhq {h:Hart} (H:HOk h) (p:Pt) (t:Int) (ht:Al.U64 t):HOk (hfH h p t).2.2:=by
 unfold hfH
 split
 ·exact zc8 H _ _ _ ht
 ·split
  ·exact zc8 H _ _ _ ht
  ·show HOk (tkH _ 1 t)
   exact zd3 (zc8 H _ _ _ ht) _ _ ht
theorem zgJ {v:Mc} (H:HOk v.h) (p:Pt) (g:Wk):HOk (ftR v p g).2.1:=by
 have h1:=zhq H p v.h.pc H.pc;have h2:=zhq h1 p (pcV v.h 2) (zaX _);obtain ⟨n,hn,en⟩:=zh6 v.h p v.h.pc;unfold ftR
 split
 ·exact h1
 ·split
  ·split
   ·exact zd3 h1 2 (hfH v.h p v.h.pc).1 (by rw [en];exact ⟨by omega,by omega⟩)
   ·exact h1
  ·split
   ·exact h2
   ·exact h2
theorem zkj (v:Mc) (p:Pt) (g:Wk) (hk:(ftR v p g).1=true):0≤(ftR v p g).2.2.wd∧Al.U64 (ftR v p g).2.2.np:=by
 unfold ftR at hk ⊢
 by_cases a:(hfH v.h p v.h.pc).2.1=false
 ·rw [if_pos a] at hk;cases hk
 rw [if_neg a] at hk ⊢
 by_cases b:Br.zdB (hfH v.h p v.h.pc).1.toNat=true
 ·rw [if_pos b] at hk ⊢
  by_cases c:Br.zbw (hfH v.h p v.h.pc).1.toNat=0
  ·rw [if_pos c] at hk;cases hk
  ·rw [if_neg c]
   exact ⟨Int.natCast_nonneg _,zaX _⟩
 ·rw [if_neg b] at hk ⊢
  by_cases c:(hfH (hfH v.h p v.h.pc).2.2 p (pcV v.h 2)).2.1=false
  ·rw [if_pos c] at hk;cases hk
  ·rw [if_neg c]
   refine ⟨?_,zaX _⟩
   show 0≤IntKind.u32.wrap _
   rw [IntKind.wrap_u32];omega
structure VOk (v:Mc) (p:Pt):Prop where
 h:HOk v.h
 b:BOk v.b
 ok:POk v p
 cnt:Al.U64 v.cnt
theorem VOk.turn {v:Mc} {p:Pt} (k:VOk v p) {h:Hart} (H:HOk h):VOk (turn v h) p:=⟨H,k.b,k.ok.turn h,k.cnt⟩
theorem VOk.ld {v:Mc} {p:Pt} (k:VOk v p) (t s:Int):VOk (ldM v p t s).1 (ldM v p t s).2.1:=by
 obtain ⟨h1,h2,_⟩:=zkS v p t s;exact ⟨by rw [h1];exact k.h,zqW k.b t s,(zjb v p t s k.ok).ok,by rw [h2];exact k.cnt⟩
theorem VOk.st {v:Mc} {p:Pt} (k:VOk v p) (t s x:Int) (hx:Al.U64 x):VOk (stM v p t s x).1 (stM v p t s x).2.1:=by
 obtain ⟨h1,h2,_⟩:=zg8 (v:=v) (p:=p) t s x;exact ⟨by rw [h1];exact k.h,ztR k.b t s x hx,(ziJ v p t s x k.ok (U64.le hx)).ok,by rw [h2];exact k.cnt⟩
theorem sg_u (op n:Int) (hn:Al.U64 n):Al.U64 (sgV op n):=by
 unfold sgV
 split
 ·exact zaX _
 split
 ·exact zaX _
 split
 ·exact Al.zaw _
 ·exact hn
theorem zlG {v:Mc} {p:Pt} (k:VOk v p) (g:Wk):VOk (ldR v p g).2.1 (ldR v p g).2.2:=by
 have hf:=zc8 k.h p.D (adV v g) 1 (zaX _);unfold ldR
 split
 ·exact k.turn hf
 ·have k1:=(k.turn hf).ld (fnH v.h p.D (adV v g) 1).1 (zaZ g.o)
  have hu:=zrX (v:=Go.Proofs.YtplcfdnfeclpmaaGreatDoor.turn v (fnH v.h p.D (adV v g) 1).2.2) (p:=p) k.cnt k.b (k.ok.turn _) (fnH v.h p.D (adV v g) 1).1 (zaZ g.o);simp only
  split
  ·exact k1.turn (zdl k1.h _ _ (sg_u _ _ hu))
  ·exact k1.turn (zd3 k1.h _ _ (zaX _))
theorem zpw {v:Mc} {p:Pt} (k:VOk v p) (g:Wk):VOk (stR v p g).2.1 (stR v p g).2.2:=by
 have hf:=zc8 k.h p.D (adV v g) 2 (zaX _);unfold stR
 split
 ·exact k.turn hf
 ·have k1:=(k.turn hf).st (fnH v.h p.D (adV v g) 2).1 (zaZ g.o) (xV (fnH v.h p.D (adV v g) 2).2.2 g.b) (hf.x _)
  simp only
  split
  ·exact k1.turn (zg0 k1.h)
  ·exact k1.turn (zd3 k1.h _ _ (zaX _))
theorem zAr {v:Mc} {p:Pt} (k:VOk v p) (g:Wk) (pl s:Int):VOk (cdR v p g pl s).1 (cdR v p g pl s).2:=by
 unfold cdR
 split
 ·have k1:=k.st pl s (xV v.h g.b) (k.h.x _)
  exact k1.turn (zdl (zg0 k1.h) _ _ Al.zap)
 ·exact k.turn (zdl (zg0 k.h) _ _ ⟨by omega,by omega⟩)
theorem zsO {v:Mc} {p:Pt} (k:VOk v p) (g:Wk) (pl s was:Int) (hp:Al.U64 pl) (hw:Al.U64 was):VOk (chR v p g pl s was).1 (chR v p g pl s was).2:=by
 unfold chR
 split
 ·have H:HOk { v.h with held:=true,rat:=pl }:=⟨k.h.x,k.h.pc,k.h.c,hp⟩
  exact k.turn (zdl H _ _ hw)
 ·split
  ·exact zAr k g pl s
  ·have k1:=k.st pl s (Al.amV g.o was (xV v.h g.b)) (Al.am_u _ _ _)
   exact k1.turn (zdl (zg0 k1.h) _ _ hw)
theorem wa_u (s n:Int) (hn:Al.U64 n):Al.U64 (waV s n):=by
 unfold waV
 split
 ·exact Al.zaw _
 ·exact hn
theorem zxr {v:Mc} {p:Pt} (k:VOk v p) (g:Wk) (s:Int):VOk (atR v p g s).2.1 (atR v p g s).2.2:=by
 have ha:=k.h.x g.a;have hf:=zc8 k.h p.D (xV v.h g.a) (kdV g.o) ha;unfold atR
 split
 ·exact k.turn (zd3 k.h _ _ ha)
 split
 ·exact k.turn hf
 split
 ·exact k.turn (zd3 hf _ _ ha)
 ·exact zsO (k.turn hf) g _ _ _ (fn_u _ _ _ _ ha) (wa_u _ _ (mm_u _ _ _))
theorem zpD {v:Mc} {p:Pt} (k:VOk v p) (g:Wk) (hnp:Al.U64 g.np):VOk (doR v p g).2.1 (doR v p g).2.2.1∧Al.U64 (doR v p g).2.2.2.np:=by
 have hm:∀ q:Hart × Bool,HOk q.1→HOk (if q.2=true then q.1 else noH v.h g):=fun q hq=>by
  split
  ·exact hq
  ·exact zfK k.h g
 have hbr:Al.U64 (brG v g).np:=by
  unfold brG
  split
  ·exact zaX _
  ·exact hnp
 have hmr:HOk (zc6 v.h).1:=by
  unfold zc6
  split
  ·exact zz0 k.h
  ·exact k.h
 have hsr:HOk (zc0 v.h).1:=by
  unfold zc0
  split
  ·exact k.h
  ·exact zvg k.h
 show (fun R:Bool × Mc × Pt × Wk=>VOk R.2.1 R.2.2.1∧Al.U64 R.2.2.2.np) (doR v p g)
 unfold doR;refine zaf (fun R:Bool × Mc × Pt × Wk=>VOk R.2.1 R.2.2.1∧Al.U64 R.2.2.2.np) _ _ _ ⟨k.turn (zdl k.h _ _ (zaX _)),hnp⟩ ?_
 refine zaf (fun R:Bool × Mc × Pt × Wk=>VOk R.2.1 R.2.2.1∧Al.U64 R.2.2.2.np) _ _ _ ⟨k.turn (zdl k.h _ _ (zaX _)),hnp⟩ ?_
 refine zaf (fun R:Bool × Mc × Pt × Wk=>VOk R.2.1 R.2.2.1∧Al.U64 R.2.2.2.np) _ _ _ ⟨k.turn (zdl k.h _ _ hnp),zaX _⟩ ?_
 refine zaf (fun R:Bool × Mc × Pt × Wk=>VOk R.2.1 R.2.2.1∧Al.U64 R.2.2.2.np) _ _ _ ⟨k.turn (zdl k.h _ _ hnp),Al.zad BinOp.andNot _ _⟩ ?_
 refine zaf (fun R:Bool × Mc × Pt × Wk=>VOk R.2.1 R.2.2.1∧Al.U64 R.2.2.2.np) _ _ _ ⟨k,hbr⟩ ?_
 refine zaf (fun R:Bool × Mc × Pt × Wk=>VOk R.2.1 R.2.2.1∧Al.U64 R.2.2.2.np) _ _ _ ⟨zlG k g,hnp⟩ ?_
 refine zaf (fun R:Bool × Mc × Pt × Wk=>VOk R.2.1 R.2.2.1∧Al.U64 R.2.2.2.np) _ _ _ ⟨zpw k g,hnp⟩ ?_
 refine zaf (fun R:Bool × Mc × Pt × Wk=>VOk R.2.1 R.2.2.1∧Al.U64 R.2.2.2.np) _ _ _ ⟨k,hnp⟩ ?_
 refine zaf (fun R:Bool × Mc × Pt × Wk=>VOk R.2.1 R.2.2.1∧Al.U64 R.2.2.2.np) _ _ _ (zaf (fun R:Bool × Mc × Pt × Wk=>VOk R.2.1 R.2.2.1∧Al.U64 R.2.2.2.np) _ _ _ ⟨k.turn (zfK k.h g),hnp⟩ ⟨k,hnp⟩) ?_
 refine zaf (fun R:Bool × Mc × Pt × Wk=>VOk R.2.1 R.2.2.1∧Al.U64 R.2.2.2.np) _ _ _ ⟨k.turn (zsv k.h g),hnp⟩ ?_
 refine zaf (fun R:Bool × Mc × Pt × Wk=>VOk R.2.1 R.2.2.1∧Al.U64 R.2.2.2.np) _ _ _ ⟨k.turn (zd3 k.h _ _ Al.zap),hnp⟩ ?_
 refine zaf (fun R:Bool × Mc × Pt × Wk=>VOk R.2.1 R.2.2.1∧Al.U64 R.2.2.2.np) _ _ _ ⟨k.turn (zd3 k.h _ _ k.h.pc),hnp⟩ ?_
 refine zaf (fun R:Bool × Mc × Pt × Wk=>VOk R.2.1 R.2.2.1∧Al.U64 R.2.2.2.np) _ _ _ ⟨k.turn (hm _ hmr),hnp⟩ ?_
 refine zaf (fun R:Bool × Mc × Pt × Wk=>VOk R.2.1 R.2.2.1∧Al.U64 R.2.2.2.np) _ _ _ ⟨k.turn (hm _ hsr),hnp⟩ ?_
 refine zaf (fun R:Bool × Mc × Pt × Wk=>VOk R.2.1 R.2.2.1∧Al.U64 R.2.2.2.np) _ _ _ ⟨zxr k g _,hnp⟩ ?_
 exact ⟨k.turn (zdl k.h _ _ (Al.do_u _ _ _)),hnp⟩
theorem zmZ {v:Mc} {p:Pt} (k:VOk v p) (g:Wk):VOk (spR v p g).1 (spR v p g).2.1:=by
 have h1:=zgJ k.h p g;have h2:=zgU h1 (ftR v p g).2.2;unfold spR
 split
 ·rename_i hn
  refine k.turn (zjN k.h _ ?_ _ _ Al.zap)
  rcases zke v.h g.l with h | ⟨n,hle,h⟩
  ·exact absurd h hn
  ·rw [h,Int.toNat_natCast]
   exact hle
 split
 ·exact k.turn h1
 rename_i hft
 split
 ·exact k.turn h2
 rename_i hdc
 have hft':(ftR v p g).1=true:=by revert hft;cases (ftR v p g).1 <;> simp
 have hdc':(dcR (ftR v p g).2.1 (ftR v p g).2.2).1=true:=by revert hdc;cases (dcR (ftR v p g).2.1 (ftR v p g).2.2).1 <;> simp
 have hnp:Al.U64 (dcR (ftR v p g).2.1 (ftR v p g).2.2).2.2.np:=by
  have h:=(zkj v p g hft').2;unfold dcR
  split <;> exact h
 obtain ⟨k3,n3⟩:=zpD (k.turn h2) (dcR (ftR v p g).2.1 (ftR v p g).2.2).2.2 hnp;simp only
 split
 ·exact k3
 ·exact k3.turn ⟨k3.h.x,n3,k3.h.c,k3.h.rat⟩
theorem zqJ (B z k:Nat) (T:Nat→Prop) (v:Mc) (p:Pt) (g:Wk) (W:World) (K:St W B z k T v p g) (V:VOk v p) (hO:(p.O.length+1)*32≤140737488355328) (hL:De.Laid W) (hlo:∀ x,x<12→¬ T x) (hk12:12≤k):Calls Tryz.prog 28 #[.pointer (some ⟨k,0,none⟩)] W fun e W'=>e=.returned (.tuple #[])∧Cw W W' B z k T (spR v p g).1 (spR v p g).2.1 (spR v p g).2.2:=by
 unfold spR;rcases zke v.h g.l with hp | ⟨n,hn,hp⟩
 ·rw [if_neg (by rw [hp];decide)]
  have h1k:=zgJ V.h p g;have hwd:=zkj v p g;rcases hf:ftR v p g with ⟨b1,h1,g1⟩
  rw [hf] at h1k hwd;simp only at h1k hwd ⊢;cases b1 with
  | false =>
   rw [if_pos rfl];exact zsT B z k T v p g W K hp V.ok V.h.pc h1 g1 hf
  | true =>
   rw [if_neg (by decide)];have h2k:=zgU h1k g1;have hrg:=zjK h1 g1;rcases hd:dcR h1 g1 with ⟨b2,h2,g2⟩
   rw [hd] at h2k hrg;simp only at h2k hrg ⊢;cases b2 with
   | false =>
    rw [if_pos rfl];exact zwP B z k T v p g W K hp V.ok V.h.pc h1 g1 hf hL hlo hk12 (hwd rfl).1 h2 g2 hd
   | true =>
    rw [if_neg (by decide)];rcases hc:doR (turn v h2) p g2 with ⟨b3,v3,p3,g3⟩
    simp only;cases b3 with
    | false =>
     rw [if_pos rfl];exact zw0 B z k T v p g W K hp V.ok V.h.pc h1 g1 hf hL hlo hk12 (hwd rfl).1 h2 g2 hd (hrg rfl) hO h2k V.cnt v3 p3 g3 hc
    | true =>
     rw [if_neg (by decide)];exact zx5 B z k T v p g W K hp V.ok V.h.pc h1 g1 hf hL hlo hk12 (hwd rfl).1 h2 g2 hd (hrg rfl) hO h2k V.cnt v3 p3 g3 hc
 ·have hne:Tr.zbq v.h g.l≠-1:=by rw [hp];omega
  rw [if_pos hne,show (Tr.zbq v.h g.l).toNat=n by rw [hp,Int.toNat_natCast]];exact zxt B z k T v p g W K n hn hp
def wk0 (l:Int):Wk:=⟨0,0,0,0,0,0,0,l⟩
noncomputable def hsM (v:Mc) (p:Pt):Mc × Pt:=({ (spR v p (wk0 (zcJ v p))).1 with cnt:=IntKind.u64.wrap ((spR v p (wk0 (zcJ v p))).1.cnt+1) },(spR v p (wk0 (zcJ v p))).2.1)
theorem zti {v m:Mc} (s:Same v m) (p:Pt):zcJ m p=zcJ v p:=by
 rw [s.re];rfl
theorem zsw (B z:Nat) (T:Nat→Prop) (v:Mc) (p:Pt) (W:World) (K:Ms W B z v p T) (hB:B≤W.heap.size) (up:∀ x,W.heap.size≤x→T x) (V:VOk v p) (hO:(p.O.length+1)*32≤140737488355328) (hL:De.Laid W) (hlo:∀ x,x<12→¬ T x):Calls Tryz.prog 10 #[.pointer (some ⟨z,0,none⟩)] W fun e W'=>e=.returned (.tuple #[])∧Ch W W' B z T (hsM v p).1 (hsM v p).2:=by
 obtain ⟨m,s1,s2,s3⟩:=K;have CL:=hid (fun w=>zti s1 p ▸ zxK m p w s2.len);have KM:=hid (fun w (h:Below W.heap.size W w)=>s2.next h);have KK:=hid (And.intro s1 s3);have HH:=hid (And.intro hB (And.intro up (And.intro V (And.intro hO (And.intro hL hlo)))));have h12:=hid (show 12≤W.heap.size from hL.1);unfold hsM;clear s1 s2 s3 hB up V hO hL hlo;generalize zcJ v p=l at CL ⊢;rcases hr:spR v p (wk0 l) with ⟨v1,p1,g1⟩
 simp only;have HR:=hid hr;clear hr;have X:=hid (Below.refl W.heap.size W);go_enter func10,ntmps10;go_upto_region 2 with (first | (with_reducible refine zaa rfl rfl (MBox.load (KM.out _ X.out).box) rfl ?_) | (go_at_call 27;(with_reducible refine (CL.out _).mono ?_);rintro e wb ⟨rfl,kk⟩;have X:=hid (zac X.out kk);clear kk))
 have ST:St (wb.alloc (.cells (wgC z (wk0 l)) 82)) B z wb.heap.size (fun x=>T x∧x≠wb.heap.size) v p (wk0 l):=by
  obtain ⟨hB,up,V,hO,hL,hlo⟩:=HH.out;have hb:=zag wb (.cells (wgC z (wk0 l)) 82);have s2:=KM.out _ X.out;refine ⟨⟨m,KK.out.1,s2.next hb,fun x hx=>⟨KK.out.2 x hx,fun e=>?_⟩⟩,Nat.le_trans hB (Nat.le_trans X.out.size hb.size),fun x hx=>⟨up x (Nat.le_trans X.out.size (Nat.le_trans hb.size hx)),fun e=>?_⟩,heap_alloc_last wb _,fun h=>h.2 rfl⟩
  ·have:=(s2.lt hx).2;omega
  ·simp only [World.size_alloc] at hx;omega
 have X1:=hid (zac X.out (zag wb (.cells (wgC z (wk0 l)) 82)));have HK12:=hid (show 12≤wb.heap.size from Nat.le_trans h12.out X.out.size);have HTB:=hid (show T wb.heap.size from HH.out.2.1 _ X.out.size);generalize wb.heap.size=k at ST HK12 HTB ⊢;generalize hwc:wb.alloc (.cells (wgC z (wk0 l)) 82)=wc at ST X1;have e:wb.alloc (.cells #[.pointer (some ⟨z,0,none⟩),.int .i64 0,.int .i64 0,.int .i64 0,.int .i64 0,.int .i64 0,.int .u32 0,.int .u64 0,.int .u64 l] 82)=wc:=hwc;rw [e];clear e hwc;have C3:=hid (zqJ B z k (fun x=>T x∧x≠k) v p (wk0 l) wc ST HH.out.2.2.1 HH.out.2.2.2.1 (HH.out.2.2.2.2.1.below X1.out) (fun x hx h=>HH.out.2.2.2.2.2 x hx h.1) HK12.out);clear ST;rw [HR.out] at C3;go_upto_region 3 with (go_at_call 28;(with_reducible refine C3.out.mono ?_);rintro e wd ⟨rfl,hh⟩;have HC:=hid hh;clear hh);have SX:=hid HC.out.1;obtain ⟨m2,t1,t2,t3⟩:=SX.out.ms;have HZ:=hid t2.box;have LC:=hid (show (Instr.loadAt 22 (.pointer (some ⟨z,76,none⟩))).run Tryz.prog wd=.ok (.int .u64 v1.cnt) wd by rw [← t1.cnt];exact MBox.load_cnt t2.box)
 have HF:=hid (show Ch W (wd.setRow z (mcC { m2 with cnt:=IntKind.u64.wrap (v1.cnt+1) })) B z T { v1 with cnt:=IntKind.u64.wrap (v1.cnt+1) } p1 from by
  have c:=Chg.count (n:=IntKind.u64.wrap (v1.cnt+1)) t1 t2 t3 ⟨wd,Below.refl _ _,rfl⟩;refine ⟨c.1.mono fun x hx=>hx.1,?_⟩
  have a:=zcr X1.out T;have b:=HC.out.2.mono (T:=T) fun x _ hx=>hx.elim (fun h=>h.1) (fun h=>h ▸ HTB.out)
  exact (a.trans b).trans (c.2.mono fun x _ hx=>hx.1))
 clear t1 t2 t3;go_wp2_with (with_reducible first | refine zaa rfl rfl (KW.ptr SX.out.kw) rfl ?_ | refine zaa rfl rfl LC.out rfl ?_ | refine zan rfl rfl (MBox.store_cnt HZ.out _) rfl rfl ?_);refine bodyPost_end (results_none rfl _ _ _) rfl ⟨rfl,?_⟩
 exact HF.out
inductive One (v:Mc) (p:Pt):Mc→Pt→Prop where
 | no (h:Hart):One v p (turn v h) p
 | ld (h h':Hart) (t s:Int):One v p (turn (ldM (turn v h) p t s).1 h') (ldM (turn v h) p t s).2.1
 | st (h h':Hart) (t s x:Int) (hx:Al.U64 x):One v p (turn (stM (turn v h) p t s x).1 h') (stM (turn v h) p t s x).2.1
theorem One.self (v:Mc) (p:Pt):One v p v p:=One.no v.h
theorem One.ldR (v:Mc) (p:Pt) (g:Wk):One v p (ldR v p g).2.1 (ldR v p g).2.2:=by
 unfold Go.Proofs.YtplcfdnfeclpmaaGreatDoor.ldR
 split
 ·exact One.no _
 ·simp only
  split
  ·exact One.ld _ _ _ _
  ·exact One.ld _ _ _ _
theorem One.stR {v:Mc} {p:Pt} (k:HOk v.h) (g:Wk):One v p (stR v p g).2.1 (stR v p g).2.2:=by
 have hf:=zc8 k p.D (adV v g) 2 (zaX _);unfold Go.Proofs.YtplcfdnfeclpmaaGreatDoor.stR
 split
 ·exact One.no _
 ·simp only
  split
  ·exact One.st _ _ _ _ _ (hf.x _)
  ·exact One.st _ _ _ _ _ (hf.x _)
theorem One.chR {v:Mc} {p:Pt} (h0:Hart) (k:HOk h0) (g:Wk) (pl s was:Int):One v p (chR (turn v h0) p g pl s was).1 (chR (turn v h0) p g pl s was).2:=by
 unfold Go.Proofs.YtplcfdnfeclpmaaGreatDoor.chR
 split
 ·exact One.no _
 ·split
  ·unfold Go.Proofs.YtplcfdnfeclpmaaGreatDoor.cdR
   split
   ·exact One.st _ _ _ _ _ (k.x _)
   ·exact One.no _
  ·exact One.st _ _ _ _ _ (Al.am_u _ _ _)
theorem One.atR {v:Mc} {p:Pt} (k:HOk v.h) (g:Wk) (s:Int):One v p (atR v p g s).2.1 (atR v p g s).2.2:=by
 have hf:=zc8 k p.D (xV v.h g.a) (kdV g.o) (k.x _);unfold Go.Proofs.YtplcfdnfeclpmaaGreatDoor.atR
 split
 ·exact One.no _
 split
 ·exact One.no _
 split
 ·exact One.no _
 ·exact One.chR _ hf g _ _ _
theorem One.pre {v:Mc} {p:Pt} {h:Hart} {v':Mc} {p':Pt} (o:One (turn v h) p v' p'):One v p v' p':=by
 cases o with
 | no x=>exact One.no x
 | ld x y t s=>exact One.ld x y t s
 | st x y t s u hu=>exact One.st x y t s u hu
theorem One.post {v:Mc} {p:Pt} {v':Mc} {p':Pt} (o:One v p v' p') (h:Hart):One v p (turn v' h) p':=by
 cases o with
 | no x=>exact One.no h
 | ld x y t s=>exact One.ld x h t s
 | st x y t s u hu=>exact One.st x h t s u hu
theorem One.doR {v:Mc} {p:Pt} (k:HOk v.h) (g:Wk):One v p (doR v p g).2.1 (doR v p g).2.2.1:=by
 show (fun R:Bool × Mc × Pt × Wk=>One v p R.2.1 R.2.2.1) (Go.Proofs.YtplcfdnfeclpmaaGreatDoor.doR v p g)
 unfold Go.Proofs.YtplcfdnfeclpmaaGreatDoor.doR;refine zaf (fun R:Bool × Mc × Pt × Wk=>One v p R.2.1 R.2.2.1) _ _ _ (One.no _) ?_
 refine zaf (fun R:Bool × Mc × Pt × Wk=>One v p R.2.1 R.2.2.1) _ _ _ (One.no _) ?_
 refine zaf (fun R:Bool × Mc × Pt × Wk=>One v p R.2.1 R.2.2.1) _ _ _ (One.no _) ?_
 refine zaf (fun R:Bool × Mc × Pt × Wk=>One v p R.2.1 R.2.2.1) _ _ _ (One.no _) ?_
 refine zaf (fun R:Bool × Mc × Pt × Wk=>One v p R.2.1 R.2.2.1) _ _ _ (One.self v p) ?_
 refine zaf (fun R:Bool × Mc × Pt × Wk=>One v p R.2.1 R.2.2.1) _ _ _ (One.ldR v p g) ?_
 refine zaf (fun R:Bool × Mc × Pt × Wk=>One v p R.2.1 R.2.2.1) _ _ _ (One.stR k g) ?_
 refine zaf (fun R:Bool × Mc × Pt × Wk=>One v p R.2.1 R.2.2.1) _ _ _ (One.self v p) ?_
 refine zaf (fun R:Bool × Mc × Pt × Wk=>One v p R.2.1 R.2.2.1) _ _ _ (zaf (fun R:Bool × Mc × Pt × Wk=>One v p R.2.1 R.2.2.1) _ _ _ (One.no _) (One.self v p)) ?_
 refine zaf (fun R:Bool × Mc × Pt × Wk=>One v p R.2.1 R.2.2.1) _ _ _ (One.no _) ?_
 refine zaf (fun R:Bool × Mc × Pt × Wk=>One v p R.2.1 R.2.2.1) _ _ _ (One.no _) ?_
 refine zaf (fun R:Bool × Mc × Pt × Wk=>One v p R.2.1 R.2.2.1) _ _ _ (One.no _) ?_
 refine zaf (fun R:Bool × Mc × Pt × Wk=>One v p R.2.1 R.2.2.1) _ _ _ (One.no _) ?_
 refine zaf (fun R:Bool × Mc × Pt × Wk=>One v p R.2.1 R.2.2.1) _ _ _ (One.no _) ?_
 refine zaf (fun R:Bool × Mc × Pt × Wk=>One v p R.2.1 R.2.2.1) _ _ _ (One.atR k g _) ?_
 exact One.no _
theorem One.spR {v:Mc} {p:Pt} (k:HOk v.h) (g:Wk):One v p (spR v p g).1 (spR v p g).2.1:=by
 have h1:=zgJ k p g;have h2:=zgU h1 (ftR v p g).2.2;unfold Go.Proofs.YtplcfdnfeclpmaaGreatDoor.spR
 split
 ·exact One.no _
 split
 ·exact One.no _
 split
 ·exact One.no _
 simp only
 split
 ·exact (One.doR (v:=turn v _) h2 _).pre
 ·exact (One.doR (v:=turn v _) h2 _).pre.post _
theorem One.grown {v:Mc} {p:Pt} {v':Mc} {p':Pt} (o:One v p v' p') (ok:POk v p):zfu v p v' p':=by
 cases o with
 | no x=>exact ⟨ok.turn x,.inl ⟨rfl,rfl⟩⟩
 | ld x y t s =>
  have g:=zjb (turn v x) p t s (ok.turn x);exact ⟨g.ok.turn y,g.o⟩
 | st x y t s u hu =>
  have g:=ziJ (turn v x) p t s u (ok.turn x) (U64.le hu);exact ⟨g.ok.turn y,g.o⟩
theorem zfu.len {v:Mc} {p:Pt} {v':Mc} {p':Pt} (g:zfu v p v' p'):p'.O.length≤p.O.length+1:=by
 rcases g.o with ⟨e,_⟩ | ⟨d,s,e,_⟩
 ·rw [e];omega
 ·rw [e,List.length_append];exact Nat.le_refl _
theorem zt8 {v:Mc} {p:Pt} (V:VOk v p):VOk (hsM v p).1 (hsM v p).2:=by
 have k:=zmZ V (wk0 (zcJ v p));exact ⟨k.h,k.b,⟨⟨k.ok.bd.addr,k.ok.bd.nicA,k.ok.bd.sector⟩,k.ok.c,k.ok.fz,k.ok.fl,k.ok.dl,k.ok.ml⟩,zaX _⟩
theorem ziZ {v:Mc} {p:Pt} (V:VOk v p):(hsM v p).2.O.length≤p.O.length+1:=((One.spR V.h (wk0 (zcJ v p))).grown V.ok).len
end Go.Proofs.YtplcfdnfeclpmaaGreatDoor

namespace Go.Proofs.YtplcfdnfeclpmaaGreatDoor
theorem zjL (w:World) (ty:TypeId) {B:Nat} {q:Option Addr} {c:Nat} {O:List Rec} {r:Rec} {a:Addr} {c2:Nat} (ho:w.ownsRow B 65 3 (.slice q O.length c) O.length (oC O)) (hr:∀ (j:Nat) v,([.int .u64 r.1,.int .i64 r.2.1,.string r.2.2]:List Value)[j]?=some v→w.cell? (a.add j)=some v) (hO:(O.length+1)*32≤140737488355328) :
  ∃ q' c' w',(Builtin.append_ #[40,40] ty #[.slice q O.length O.length,.slice (some a) 1 c2]).run Tryz.prog w=.ok (.slice q' (O.length+1) c') w'∧w'.ownsRow w.heap.size 65 3 (.slice q' (O.length+1) c') (O.length+1) (oC (O ++ [r]))∧Below w.heap.size w w':=by
 obtain ⟨i,hi,hz,hs,hby⟩:=zfZ;have hl1:([.int .u64 r.1,.int .i64 r.2.1,.string r.2.2]:List Value).length=1*i.size:=by rw [hs];rfl
 have hnews:=hr;have e:oC (O ++ [r])=oC O ++ [.int .u64 r.1,.int .i64 r.2.1,.string r.2.2]:=by rw [zif];rfl
 have el:(O ++ [r]).length=O.length+1:=by simp
 have hm:O.length+1≤maxLen:=by unfold maxLen;omega
 have hlen:(oC (O ++ [r])).length=(O.length+1)*3:=by rw [zdP,el]
 have own:∀ old,old<O.length+1→(w.drew.alloc (.cells ((oC O).toArray ++ [.int .u64 r.1,.int .i64 r.2.1,.string r.2.2].toArray ++ Builtin.zeroCells (Value.agg rcZ).cells (grownCap w (O.length+1) old 65 - (O.length+1))) 65)).ownsRow w.heap.size 65 3 (.slice (some ⟨w.heap.size,0,none⟩) (O.length+1) (grownCap w (O.length+1) old 65)) (O.length+1) (oC (O ++ [r])):=by
  intro old _;have hge:=grownCap_ge w (O.length+1) old 65;have hcm:grownCap w (O.length+1) old 65≤maxLen:=grownCap_le_maxLen w (O.length+1) old 65 hm;refine ⟨hlen,.inr ⟨w.heap.size,_,_,rfl,Nat.le_refl _,zdI w.drew _,hge,hcm,?_,?_⟩⟩
  ·simp only [Array.size_append,List.size_toArray,size_zeroCells,zdP]
   show O.length*3+3+(grownCap w (O.length+1) old 65 - (O.length+1))*3=_
   omega
  ·simp only [Array.toList_append,List.append_assoc]
   rw [← List.append_assoc,← hlen,e];exact List.take_left
 rcases ho.2 with ⟨e1,e2⟩ | ⟨g2,cap,cur,e1,_,hg2,_⟩
 ·simp only [Value.slice.injEq] at e1
  obtain ⟨rfl,_,rfl⟩:=e1;obtain rfl:O=[]:=List.eq_nil_of_length_eq_zero e2;have hrun:=run_append_nil (P:=Tryz.prog) w 40 ty 65 i (.agg rcZ) underlying40 hi hz a 1 c2 _ hl1 hnews (by omega) (by omega) (by rw [hby];omega);have h:=own 0 (by simp);refine ⟨_,_,_,hrun,?_,?_⟩
  ·simpa [oC] using h
  ·exact (Below.refl _ _).drew.alloc (Nat.le_refl _) _
 ·simp only [Value.slice.injEq,true_and] at e1
  obtain ⟨rfl,rfl⟩:=e1;have holds:∀ j v,(oC O)[j]?=some v→w.cell? ((⟨g2,0,none⟩:Addr).add j)=some v:=ho.cells (g:=g2) rfl
  have hrun:=run_append_grow (P:=Tryz.prog) w 40 ty 65 i (.agg rcZ) underlying40 hi hz ⟨g2,0,none⟩ O.length O.length (oC O) (by rw [hs,zdP]) holds a 1 c2 _ hl1 hnews (by omega) (by omega) (by
   rw [hby];exact growslice_fits_succ (by omega) (by omega))
  exact ⟨_,_,_,hrun,own O.length (by omega),(Below.refl _ _).drew.alloc (Nat.le_refl _) _⟩
theorem zul (w:World) (ty:TypeId) {B:Nat} {q:Option Addr} {c:Nat} {O:List Rec} {r:Rec} {a:Addr} {c2:Nat} (ho:w.ownsRow B 65 3 (.slice q O.length c) O.length (oC O)) (hr:∀ (j:Nat) v,([.int .u64 r.1,.int .i64 r.2.1,.string r.2.2]:List Value)[j]?=some v→w.cell? (a.add j)=some v) (hB:B≤w.heap.size) (hO:(O.length+1)*32≤140737488355328) :
  ∃ q' c' w',(Builtin.append_ #[40,40] ty #[.slice q O.length c,.slice (some a) 1 c2]).run Tryz.prog w=.ok (.slice q' (O.length+1) c') w'∧w'.ownsRow B 65 3 (.slice q' (O.length+1) c') (O.length+1) (oC (O ++ [r]))∧zau w w' (fun k=>some k=(Value.slice q O.length c).ownBlock)∧∀ k,(Value.slice q' (O.length+1) c').ownBlock=some k→some k=(Value.slice q O.length c).ownBlock∨w.heap.size≤k:=by
 rcases ho.2 with ⟨e1,e2⟩ | ⟨g2,cap,cur,e1,hbg,hg2,hnc,hcm,hcs,htake⟩
 ·simp only [Value.slice.injEq] at e1
  have e:c=O.length:=by omega
  subst e;obtain ⟨q',c',w',hrun,ho',hb⟩:=zjL w ty ho hr hO;exact ⟨q',c',w',hrun,zdD ho' hB,zcr hb _,fun k hk=>.inr (zcy ho' hk).1⟩
 ·simp only [Value.slice.injEq,true_and] at e1
  obtain ⟨rfl,rfl⟩:=e1
  by_cases hroom:O.length+1≤c
  ·obtain ⟨i,hi,hz,hs,hby⟩:=zfZ
   have hl1:([.int .u64 r.1,.int .i64 r.2.1,.string r.2.2]:List Value).length=1*i.size:=by rw [hs];rfl
   have hnews:=hr;have e:oC (O ++ [r])=oC O ++ [.int .u64 r.1,.int .i64 r.2.1,.string r.2.2]:=by rw [zif];rfl
   have hrun:=run_append_room (P:=Tryz.prog) w 40 ty 65 i underlying40 hi g2 O.length c cur hg2 a 1 c2 _ hl1 hnews (by simp [Value.oneCell']) hroom (by rw [hs,hcs];simp;omega);refine ⟨_,_,_,hrun,⟨by rw [zdP];simp,.inr ⟨g2,c,_,rfl,hbg,setRow_heap w g2 cur _ 65 _ hg2,hroom,hcm,?_,?_⟩⟩,(zau.refl w (fun k=>some k=(Value.slice (some ⟨g2,0,none⟩) O.length c).ownBlock)).setRow (.inl rfl) _,fun k hk=>.inl hk.symm⟩
   ·simp only [List.size_toArray,List.length_append,List.length_take,List.length_drop,Array.length_toList,hs,List.length_cons,List.length_nil]
    omega
   ·rw [e,hs,htake]
    have h2:(O.length+1)*3=(oC O ++ [Value.int .u64 r.1,.int .i64 r.2.1,.string r.2.2]).length:=by rw [List.length_append,zdP];simp;omega
    rw [h2];exact List.take_left
  ·have e:c=O.length:=by omega
   subst e;obtain ⟨q',c',w',hrun,ho',hb⟩:=zjL w ty ho hr hO;exact ⟨q',c',w',hrun,zdD ho' hB,zcr hb _,fun k hk=>.inr (zcy ho' hk).1⟩
theorem zkk (w:World) (a:Addr):(loadCells a 0).run Tryz.prog w=.ok #[] w:=by simp [loadCells,loadCellsFrom]
theorem zqf (w:World) (ty:TypeId) {B B2:Nat} {v x:Value} {O:List Rec} {n:Nat} (ho:w.ownsRow B 65 3 v n (oC O)) (hx:w.ownsRow B2 65 3 x 0 []):(Builtin.append_ #[40,40] ty #[v,x]).run Tryz.prog w=.ok v w:=by
 obtain ⟨i,hi,hz,hs,hby⟩:=zfZ;rcases hx.2 with ⟨rfl,_⟩ | ⟨g2,cap2,cur2,rfl,_⟩
 ·exact run_append_owned_none (P:=Tryz.prog) w B 40 ty 65 i 3 underlying40 hi v n (oC O) ho
 ·rcases ho.2 with ⟨rfl,rfl⟩ | ⟨g,cap,cur,rfl,_,_,hnc,_⟩
  ·simp [Builtin.append_,run_underlying underlying40,sizeOf,typeInfo,hi,Builtin.lenOf,Builtin.firstCells,zkk,Result.andThen]
  ·simp [Builtin.append_,run_underlying underlying40,sizeOf,typeInfo,hi,Builtin.lenOf,Builtin.firstCells,hnc,storeCells,zkk,Result.andThen]
theorem MS.newO {W w:World} {B z:Nat} {m m':Mc} {p:Pt} {O:List Rec} (K:MS W B z m p) (hb:m'.b=m.b) (hd:m'.dv=m.dv) (hm:m'.mv=m.mv) (h:zau W w (fun k=>k=z)) (hx:MBox w z m') (ho:w.ownsRow B 65 3 m'.ov O.length (oC O)):MS w B z m' { p with O:=O }:=by
 have ne:∀ (g:Nat) (cs:Array Value) (t:TypeId),W.heap[g]?=some (.cells cs t (0,0))→t≠42→w.heap[g]?=W.heap[g]?:=fun g cs t hg ht=>h.block g (Array.getElem?_eq_some_iff.1 hg).1 fun e=>by
  rw [e,K.box] at hg;simp only [Option.some.injEq,Obj.cells.injEq] at hg;exact ht hg.2.1.symm
 have d1:OwnD w B m.dv p.D:=zbW K.d fun g hg=>by
  obtain ⟨cur,hc⟩:=zdp K.d hg;exact ne g cur 5 hc (by decide)
 have d2:OwnM w B m.mv p.M:=zbW K.mm fun g hg=>by
  obtain ⟨cur,hc⟩:=zdp K.mm hg;exact ne g cur 22 hc (by decide)
 have d4:FT w B (.slice m.b.fp m.b.fn m.b.fc) p.F:=K.fr.keep fun g cur _ hg=>ne g cur 9 hg (by decide)
 refine ⟨hx,K.big,?_,?_,?_,ho⟩
 ·rw [hb];exact d4
 ·rw [hd];exact d1
 ·rw [hm];exact d2
noncomputable def rnS (s:Mc × Pt × List Rec):Mc × Pt × List Rec:=((hsM s.1 { s.2.1 with O:=[] }).1,(hsM s.1 { s.2.1 with O:=[] }).2,s.2.2 ++ (hsM s.1 { s.2.1 with O:=[] }).2.O)
noncomputable def rnN:Nat→Mc × Pt × List Rec→Mc × Pt × List Rec
 | 0,s=>s
 | n+1,s=>rnS (rnN n s)
theorem VOk.noO {v:Mc} {p:Pt} (V:VOk v p) (O:List Rec):VOk v { p with O:=O }:=⟨V.h,V.b,⟨V.ok.bd,V.ok.c,V.ok.fz,V.ok.fl,V.ok.dl,V.ok.ml⟩,V.cnt⟩
theorem zxE {s:Mc × Pt × List Rec} (V:VOk s.1 s.2.1):VOk (rnS s).1 (rnS s).2.1:=zt8 (V.noO [])
theorem zut {s:Mc × Pt × List Rec} (V:VOk s.1 s.2.1):(rnS s).2.2.length≤s.2.2.length+1:=by
 have h:=ziZ (V.noO []);unfold rnS;simp only [List.length_append,List.length_nil] at h ⊢;omega
theorem zfH {s:Mc × Pt × List Rec} (V:VOk s.1 s.2.1):∀ n,VOk (rnN n s).1 (rnN n s).2.1
 | 0=>V
 | n+1=>zxE (zfH V n)
theorem zhU {s:Mc × Pt × List Rec} (V:VOk s.1 s.2.1):∀ n,(rnN n s).2.2.length≤s.2.2.length+n
 | 0=>Nat.le_refl _
 | n+1=>by
  have h1:=zhU V n;have h2:=zut (zfH V n);show (rnS (rnN n s)).2.2.length≤_
  omega
theorem zuC (a b:Nat) (s:Mc × Pt × List Rec):rnN b (rnN a s)=rnN (a+b) s:=by
 induction b with
 | zero=>rfl
 | succ b ih =>
  show rnS (rnN b (rnN a s))=rnS (rnN (a+b) s)
  rw [ih]
structure Rn (w:World) (B z:Nat) (T:Nat→Prop) (v:Mc) (p:Pt) (rv:Value) (R:List Rec):Prop where
 ms:∃ m x,Same v m∧MBox w z { m with ov:=x }∧MS (w.setRow z (mcC { m with ov:=.slice none 0 0 })) B z { m with ov:=.slice none 0 0 } { p with O:=[] }∧∀ k,Ow { m with ov:=.slice none 0 0 } z k→T k∧rv.ownBlock≠some k
 rc:w.ownsRow B 65 3 rv R.length (oC R)
 rt:∀ k,rv.ownBlock=some k→T k
theorem zgr (w:World) (z:Nat) (cs:Array Value):zau w (w.setRow z cs) (fun k=>k=z):=(zau.refl w (fun k=>k=z)).setRow (.inl rfl) _
theorem Rn.start {w:World} {B z:Nat} {T:Nat→Prop} {v:Mc} {p:Pt} (K:Ms w B z v p T):∃ rv,(Instr.loadAt 40 (.pointer (some ⟨z,78,none⟩))).run Tryz.prog w=.ok rv w∧Rn w B z T v p rv p.O:=by
 obtain ⟨m,s1,s2,s3⟩:=K;have hb:MBox (w.setRow z (mcC { m with ov:=.slice none 0 0 })) z { m with ov:=.slice none 0 0 }:=setRow_heap w z _ _ 42 (0,0) s2.box;have hk:=s2.newO (m':={ m with ov:=.slice none 0 0 }) (O:=[]) rfl rfl rfl (zgr w z (mcC { m with ov:=.slice none 0 0 })) hb (World.ownsRow_nil _ _ _ _);have ap:∀ k,m.ov.ownBlock=some k→∃ cur,w.heap[k]?=some (.cells cur 65 (0,0)):=fun k hk=>zdp s2.o hk
 have no:∀ (k:Nat) (cs:Array Value) (t:TypeId),w.heap[k]?=some (.cells cs t (0,0))→t≠65→m.ov.ownBlock≠some k:=fun k cs t h ht e=>by
  obtain ⟨cur,hc⟩:=ap k e;rw [hc] at h;simp only [Option.some.injEq,Obj.cells.injEq] at h;exact ht h.2.1.symm
 refine ⟨m.ov,s2.box.load_o,⟨⟨m,m.ov,s1,s2.box,hk,fun k hk=>?_⟩,s2.o,fun k hk=>s3 k (.inr (.inr (.inr (.inl hk.symm))))⟩⟩
 rcases hk with hk | hk | hk | hk | hk
 ·subst hk
  exact ⟨s3 k (.inl rfl),no k _ 42 s2.box (by decide)⟩
 ·obtain ⟨cur,hc⟩:=zdp s2.d hk.symm
  exact ⟨s3 k (.inr (.inl hk)),no k cur 5 hc (by decide)⟩
 ·obtain ⟨cur,hc⟩:=zdp s2.mm hk.symm
  exact ⟨s3 k (.inr (.inr (.inl hk))),no k cur 22 hc (by decide)⟩
 ·cases hk
 ·refine ⟨s3 k (.inr (.inr (.inr (.inr hk)))),?_⟩
  have hq:=s2.fr.blk
  revert hk hq
  cases m.b.fp with
  | none=>intro hk;cases hk
  | some a =>
   intro hk hq;simp only [Value.ownBlock,Option.some.injEq] at hk;obtain ⟨h1,cur,h2⟩:=hq a _ _ rfl;rw [hk];exact no _ cur 9 h2 (by decide)
theorem Rn.done {w:World} {B z:Nat} {T:Nat→Prop} {v:Mc} {p:Pt} {rv:Value} {R:List Rec} (K:Rn w B z T v p rv R):∃ q c cs,rv=.slice q R.length c∧(Instr.storeAt 40 (.pointer (some ⟨z,78,none⟩)) (.slice q R.length c)).run Tryz.prog w=.ok () (w.setRow z cs)∧Ch w (w.setRow z cs) B z T v { p with O:=R }:=by
 obtain ⟨⟨m,x,s1,s2,s3,s4⟩,rc,rt⟩:=K;obtain ⟨q,c,rfl⟩:=zch rc;have hz:T z:=(s4 z (.inl rfl)).1;have hrun:=s2.store_o q R.length c;refine ⟨q,c,_,rfl,hrun,?_,(zgr w z _).mono fun k _ hk=>hk ▸ hz⟩
 have ht:zau (w.setRow z (mcC { m with ov:=.slice none 0 0 })) (w.setRow z (mcC { m with ov:=.slice q R.length c })) (fun k=>k=z):=by
  refine ⟨rfl,rfl,rfl,by rw [size_setRow,size_setRow];exact Nat.le_refl _,fun k _ hk=>?_⟩
  rw [setRow_other w z k _ hk,setRow_other w z k _ hk]
 have hb:MBox (w.setRow z (mcC { m with ov:=.slice q R.length c })) z { m with ov:=.slice q R.length c }:=setRow_heap w z _ _ 42 (0,0) s2;have ho:(w.setRow z (mcC { m with ov:=.slice q R.length c })).ownsRow B 65 3 (.slice q R.length c) R.length (oC R):=zbl rc s2 (by decide) _;have hk:=s3.newO (m':={ m with ov:=.slice q R.length c }) (O:=R) rfl rfl rfl ht hb ho;refine ⟨{ m with ov:=.slice q R.length c },⟨fun q' n c' a b d=>s1.s q' n c' a b d⟩,hk,fun k hk=>?_⟩
 rcases hk with hk | hk | hk | hk | hk
 ·exact (s4 k (.inl hk)).1
 ·exact (s4 k (.inr (.inl hk))).1
 ·exact (s4 k (.inr (.inr (.inl hk)))).1
 ·exact rt k hk.symm
 ·exact (s4 k (.inr (.inr (.inr (.inr hk))))).1
end Go.Proofs.YtplcfdnfeclpmaaGreatDoor
