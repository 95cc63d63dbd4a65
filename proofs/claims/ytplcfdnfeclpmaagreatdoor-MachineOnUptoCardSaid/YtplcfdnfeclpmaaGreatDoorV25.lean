/- MachineOn, part 25. -/
import Derived.Test.YtplcfdnfeclpmaaGreatDoorV24
set_option maxHeartbeats 4000000
set_option maxRecDepth 100000
open Go.Lib (hid)
open Go Go.RowKit Go.Deep Go.Joins Go.Proofs.Tryz
namespace Go.Proofs.YtplcfdnfeclpmaaGreatDoor.Wk
theorem zg1 (n:Int):U64 (zcQ n):=by
 have h:=IntKind.wrap_u64 (bits .and .u64 n 17592186044415*4096);unfold zcQ U64;omega
theorem zhL (D:List UInt8) (ms md t kind tb e s p:Int) (k:Nat) (he:ldV D (zcb tb t k) 8=e) (hs:stE D.length (zcb tb t k) 8=s) (hp:zcQ (e / 1024)=p):goF D ms md t kind (k+1) tb =
  if s≠0 then (0,accV kind) else if zao e=false then (0,zdE kind) else if (bits .and .u64 e 10==0)=true then goF D ms md t kind k p else
  if (bits .and .u64 p (lowV k) != 0)=true then (0,zdE kind) else if zdC ms md e kind=false then (0,zdE kind) else (bits .or .u64 p (bits .and .u64 t (lowV k)),-1):=by
 subst he hs hp;rfl
theorem ze7 (x:Int):0≤IntKind.u64.wrap x∧IntKind.u64.wrap x≤18446744073709551615:=by
 have h:=IntKind.wrap_u64 x;omega
theorem zp5 (C V:Array Value) (ms sp m t kind:Int) (D:List UInt8) (W:World) (h:zdT C ms sp) (hV:V.size=3) (M:Int) (h0:0≤kind) (h2:kind≤2) (ht0:0≤t) (hM:zdQ ms m kind=M) (k:¬ 3≤M) (s:(sp / 1152921504606846976 != 8)=false) (hS:zfs t=true) (cL:ziD 138 V D W):TB 116 #[.agg C,.int .i64 m,.agg V,.int .u64 t,.int .i64 kind] W (zeu (zbr D ms sp m t kind)):=by
 have HE:Hid (zbr D ms sp m t kind=goF D ms M t kind 3 (zcQ sp)):=hid ((if_neg (by omega)).trans ((if_neg (by rw [hM];exact k)).trans ((if_neg (by rw [s];decide)).trans ((if_neg (by rw [hS];decide)).trans (by rw [hM])))));have g:decide (kind<0)=false:=decide_eq_false (by omega);have g2:decide (2<kind)=false:=decide_eq_false (by omega);have f15:=h.f15;have hC:=h.size;have hW:=hid (zgF W C V);have cM:=hid fun W=>zcY C ms sp m kind h W
 have hCsr:=hid h;clear h
 replace hM:=hid hM
 replace cL:=hid cL
 have hT:=hid ht0;have cU:=hid fun (e:Int) W=>zoH C ms sp M e kind hCsr.out h0 h2 W
 replace hV:=hid hV
 clear ht0
 replace hS:=hid hS
 have g3:decide (3≤M)=false:=decide_eq_false k;go_enter func116,ntmps116;go_wp2_with (first | (with_reducible show wpList _ _ _ (⟨some 24,Op.load 25 (.tmp 5),25,_,_,_⟩ :: _) _ _;refine zaU (by kernel_rfl) rfl (Box.load (hW.out.1) hC) rfl ?_;simp only [Act.put,List.setIfInBounds_toArray,List.set_cons_zero,List.set_cons_succ]) | (go_at_call 160;(with_reducible refine (cM.out _).mono ?_);rintro e' w1 ⟨rfl,k1⟩;rw [hM.out];have c15:=(((hW.out.1).next k1).cell 15).trans f15;have k1:=hid k1) | (go_at_call 161;(with_reducible refine (zhi t _).mono ?_);rintro e' w' ⟨rfl,rfl⟩;rw [hS.out]) | (go_at_call 163;(with_reducible refine (zc7 sp _).mono ?_);rintro e' w' ⟨rfl,rfl⟩));have X:=hid (And.intro (hW.out.1.next k1.out) (And.intro (hW.out.2.1.next k1.out) (zac hW.out.2.2 k1.out)));clear hW k1 c15 f15;have hz:zcQ sp=zcQ sp:=rfl;have hu:=zg1 sp;generalize zcQ sp=t0 at *;clear hz;obtain ⟨R,hR⟩:∃ R,goF D ms M t kind 3 t0=R:=⟨_,rfl⟩;rw [hR] at HE
 replace HE:Hid (zbr D ms sp m t kind=R):=HE
 have hR0:=hid hR;have hu0:=hid hu;clear hR hu g g2 g3 s k
 go_loopw [13,14] (fun a b wr=>∃ k:Nat,k≤3∧b=.int .i64 ((k:Int) - 1)∧∃ tb:Int,a=.int .u64 tb∧Hid (U64 tb∧goF D ms M t kind k tb=R)∧Hid (Box wr W.heap.size C∧MBox wr (W.heap.size+1) V∧Below W.heap.size W wr)) (fun _ b _=>(intOf b+1).toNat)
 case atStart=>exact ⟨3,by omega,rfl,t0,rfl,hid ⟨hu0.out,hR0.out⟩,X⟩
 case round =>
  clear X hR0 hu0;obtain ⟨k,hk,hb,tb,rfl,HG,HB⟩:=hrel;have hk4:k=0∨k=1∨k=2∨k=3:=by omega
  clear hk;rcases hk4 with hk | hk | hk | hk
  ·subst hk
   replace hb:_=Value.int .i64 (-1):=hb
   subst hb;have HR:Hid (R=(0,zdE kind)):=hid HG.out.2.symm;go_wp2_with (go_at_call 162;(with_reducible refine (zdt kind h0 h2 _).mono ?_);rintro e' w' ⟨rfl,rfl⟩);go_ret2;exact ⟨zaP (HE.out.trans HR.out),HB.out.2.2⟩
  ·subst hk
   replace hb:_=Value.int .i64 0:=hb
   subst hb;obtain ⟨e,he⟩:∃ e,ldV D (zcb tb t 0) 8=e:=⟨_,rfl⟩;obtain ⟨s,hs⟩:∃ s,stE D.length (zcb tb t 0) 8=s:=⟨_,rfl⟩;obtain ⟨p,hp⟩:∃ p,zcQ (e / 1024)=p:=⟨_,rfl⟩;obtain ⟨c,hc⟩:∃ c,zf0 t 0=c:=⟨_,rfl⟩;have hR:=HG.out.2.symm.trans (zhL D ms M t kind tb e s p 0 he hs hp);have cC:Hid (∀ W',Calls Tryz.prog 164 #[.int .u64 t,.int .i64 0] W' fun e' W''=>e'=.returned (.int .u64 c)∧W'=W''):=hid fun W'=>hc ▸ zin t 0 (by omega) W'
   have cA:Hid (∀ W',Below W.heap.size W W'→Calls Tryz.prog 138 #[.agg V,.int .u64 (IntKind.u64.wrap (tb+IntKind.u64.wrap (8*c))),.int .i64 8] W' fun e' W''=>e'=.returned (.tuple #[.int .u64 e,.int .i64 s])∧Below W'.heap.size W' W''):=hid fun W' hW'=>by
    have h:=cL.out W' hW' (zcb tb t 0) (ze7 _).1 (ze7 _).2;rw [he,hs] at h;unfold zcb at h;rw [hc] at h;exact h
   have hp':=hid hp;have hpu:Hid (U64 p):=hid (hp ▸ zg1 _);clear he hs hp hc;have hp:=hp';clear hp'
   by_cases hs:s≠0
   ·have hs1:(s != 0)=true:=by simpa using hs
    have HR:=hid (hR.trans (if_pos hs));clear hR;clear hs;go_upto_region 12 with (fail);have hne:Nonempty (Near wr):=⟨⟨wr,Below.refl _ _⟩⟩;refine zbR (by kernel_rfl) (by kernel_rfl) ?_
    repeat (first | (go_big_quiet_want;(with_reducible refine zbz _ (fun w hw=>zbg (t:=39) rfl (zb5 HB.out.2.1 hV.out w hw) rfl) ?_);simp only [Act.put,List.setIfInBounds_toArray,List.set_cons_zero,List.set_cons_succ];go_big_quiet_on) | go_big_quiet_step (first | (go_at_call 164;exact za1 (zcs (cC.out _))) | (go_at_call 138;exact za1 (cA.out _ (zac HB.out.2.2 (Near.near _))))))
    refine wpQuiet_nil ?_
    rintro _ ⟨pn,rfl⟩
    have X:=hid (HB.out.1.next pn.near);have Y:=hid (HB.out.2.1.next pn.near);have Z:=hid (zac HB.out.2.2 pn.near);clear HB hne;generalize pn.wx=w1 at *;go_wp2_with (go_at_call 165;(with_reducible refine (zh5 kind h0 h2 _).mono ?_);rintro e' w' ⟨rfl,rfl⟩);go_ret2;exact ⟨zaP (HE.out.trans HR.out),Z.out⟩
   replace hs:s=0:=by omega
   subst hs;rcases Bool.eq_false_or_eq_true (zao e) with hr | hr
   rotate_left
   ·replace hR:=hR.trans ((if_neg (by omega)).trans (if_pos hr))
    replace hr:=hid hr
    have HR:=hid (hR.trans (rfl));clear hR;go_upto_region 12 with (fail);have hne:Nonempty (Near wr):=⟨⟨wr,Below.refl _ _⟩⟩;refine zbR (by kernel_rfl) (by kernel_rfl) ?_
    repeat (first | (go_big_quiet_want;(with_reducible refine zbz _ (fun w hw=>zbg (t:=39) rfl (zb5 HB.out.2.1 hV.out w hw) rfl) ?_);simp only [Act.put,List.setIfInBounds_toArray,List.set_cons_zero,List.set_cons_succ];go_big_quiet_on) | go_big_quiet_step (first | (go_at_call 164;exact za1 (zcs (cC.out _))) | (go_at_call 138;exact za1 (cA.out _ (zac HB.out.2.2 (Near.near _))))))
    refine wpQuiet_nil ?_
    rintro _ ⟨pn,rfl⟩
    have X:=hid (HB.out.1.next pn.near);have Y:=hid (HB.out.2.1.next pn.near);have Z:=hid (zac HB.out.2.2 pn.near);clear HB hne;generalize pn.wx=w1 at *;go_wp2_with (first | (go_at_call 166;(with_reducible refine (zbe e _).mono ?_);rintro e' w' ⟨rfl,rfl⟩;rw [hr.out]) | (go_at_call 162;(with_reducible refine (zdt kind h0 h2 _).mono ?_);rintro e' w' ⟨rfl,rfl⟩));go_ret2;exact ⟨zaP (HE.out.trans HR.out),Z.out⟩
   replace hR:=hR.trans ((if_neg (by omega)).trans (if_neg (by rw [hr];decide)))
   replace hr:=hid hr
   rcases Bool.eq_false_or_eq_true (bits .and .u64 e 10==0) with hl | hl
   ·have HR:=hid (hR.trans (if_pos hl))
    clear hR;go_upto_region 12 with (fail);have hne:Nonempty (Near wr):=⟨⟨wr,Below.refl _ _⟩⟩;refine zbR (by kernel_rfl) (by kernel_rfl) ?_
    repeat (first | (go_big_quiet_want;(with_reducible refine zbz _ (fun w hw=>zbg (t:=39) rfl (zb5 HB.out.2.1 hV.out w hw) rfl) ?_);simp only [Act.put,List.setIfInBounds_toArray,List.set_cons_zero,List.set_cons_succ];go_big_quiet_on) | go_big_quiet_step (first | (go_at_call 164;exact za1 (zcs (cC.out _))) | (go_at_call 138;exact za1 (cA.out _ (zac HB.out.2.2 (Near.near _))))))
    refine wpQuiet_nil ?_
    rintro _ ⟨pn,rfl⟩
    have X:=hid (HB.out.1.next pn.near);have Y:=hid (HB.out.2.1.next pn.near);have Z:=hid (zac HB.out.2.2 pn.near);clear HB hne;generalize pn.wx=w1 at *;go_wp2_with (first | (go_at_call 166;(with_reducible refine (zbe e _).mono ?_);rintro e' w' ⟨rfl,rfl⟩;rw [hr.out]) | (go_at_call 163;(with_reducible refine (zc7 _ _).mono ?_);rintro e' w' ⟨rfl,rfl⟩;rw [hp.out]));exact ⟨⟨0,by omega,rfl,p,rfl,hid ⟨hpu.out,HR.out.symm⟩,hid ⟨X.out,Y.out,Z.out⟩⟩,by simp [intOf]⟩
   replace hR:=hR.trans (if_neg (by rw [hl];decide))
   have hlow:lowV 0=4095:=by decide
   rw [hlow] at hR;clear hlow;rcases Bool.eq_false_or_eq_true (bits .and .u64 p 4095 != 0) with hm | hm
   ·have HR:=hid (hR.trans (if_pos hm))
    clear hR;go_upto_region 12 with (fail);have hne:Nonempty (Near wr):=⟨⟨wr,Below.refl _ _⟩⟩;refine zbR (by kernel_rfl) (by kernel_rfl) ?_
    repeat (first | (go_big_quiet_want;(with_reducible refine zbz _ (fun w hw=>zbg (t:=39) rfl (zb5 HB.out.2.1 hV.out w hw) rfl) ?_);simp only [Act.put,List.setIfInBounds_toArray,List.set_cons_zero,List.set_cons_succ];go_big_quiet_on) | go_big_quiet_step (first | (go_at_call 164;exact za1 (zcs (cC.out _))) | (go_at_call 138;exact za1 (cA.out _ (zac HB.out.2.2 (Near.near _))))))
    refine wpQuiet_nil ?_
    rintro _ ⟨pn,rfl⟩
    have X:=hid (HB.out.1.next pn.near);have Y:=hid (HB.out.2.1.next pn.near);have Z:=hid (zac HB.out.2.2 pn.near);clear HB hne;generalize pn.wx=w1 at *;go_wp2_with (first | (go_at_call 166;(with_reducible refine (zbe e _).mono ?_);rintro e' w' ⟨rfl,rfl⟩;rw [hr.out]) | (go_at_call 163;(with_reducible refine (zc7 _ _).mono ?_);rintro e' w' ⟨rfl,rfl⟩;rw [hp.out]) | (go_at_call 162;(with_reducible refine (zdt kind h0 h2 _).mono ?_);rintro e' w' ⟨rfl,rfl⟩));go_ret2;exact ⟨zaP (HE.out.trans HR.out),Z.out⟩
   replace hR:=hR.trans (if_neg (by rw [hm];decide))
   rcases Bool.eq_false_or_eq_true (zdC ms M e kind) with hu | hu
   rotate_left
   ·replace hR:=hR.trans (if_pos hu)
    replace hu:=hid hu
    have HR:=hid (hR.trans (rfl));clear hR;go_upto_region 12 with (fail);have hne:Nonempty (Near wr):=⟨⟨wr,Below.refl _ _⟩⟩;refine zbR (by kernel_rfl) (by kernel_rfl) ?_
    repeat (first | (go_big_quiet_want;(with_reducible refine zbz _ (fun w hw=>zbg (t:=39) rfl (zb5 HB.out.2.1 hV.out w hw) rfl) ?_);simp only [Act.put,List.setIfInBounds_toArray,List.set_cons_zero,List.set_cons_succ];go_big_quiet_on) | go_big_quiet_step (first | (go_at_call 164;exact za1 (zcs (cC.out _))) | (go_at_call 138;exact za1 (cA.out _ (zac HB.out.2.2 (Near.near _))))))
    refine wpQuiet_nil ?_
    rintro _ ⟨pn,rfl⟩
    have X:=hid (HB.out.1.next pn.near);have Y:=hid (HB.out.2.1.next pn.near);have Z:=hid (zac HB.out.2.2 pn.near);clear HB hne;generalize pn.wx=w1 at *;go_wp2_with (first | (go_at_call 166;(with_reducible refine (zbe e _).mono ?_);rintro e' w' ⟨rfl,rfl⟩;rw [hr.out]) | (go_at_call 163;(with_reducible refine (zc7 _ _).mono ?_);rintro e' w' ⟨rfl,rfl⟩;rw [hp.out]) | (with_reducible show wpList _ _ _ (⟨some 85,Op.load 25 (.tmp 5),25,_,_,_⟩ :: _) _ _;refine zaU (by kernel_rfl) rfl (Box.load (X.out) hC) rfl ?_;simp only [Act.put,List.setIfInBounds_toArray,List.set_cons_zero,List.set_cons_succ]) | (go_at_call 167;(with_reducible refine (cU.out e _).mono ?_);rintro e' w2 ⟨rfl,k2⟩;rw [hu.out]) | (go_at_call 162;(with_reducible refine (zdt kind h0 h2 _).mono ?_);rintro e' w' ⟨rfl,rfl⟩));go_ret2;exact ⟨zaP (HE.out.trans HR.out),zac Z.out k2⟩
   ·replace hR:=hR.trans (if_neg (by rw [hu];decide))
    replace hu:=hid hu
    have HR:=hid (hR.trans (rfl));clear hR;go_upto_region 12 with (fail);have hne:Nonempty (Near wr):=⟨⟨wr,Below.refl _ _⟩⟩;refine zbR (by kernel_rfl) (by kernel_rfl) ?_
    repeat (first | (go_big_quiet_want;(with_reducible refine zbz _ (fun w hw=>zbg (t:=39) rfl (zb5 HB.out.2.1 hV.out w hw) rfl) ?_);simp only [Act.put,List.setIfInBounds_toArray,List.set_cons_zero,List.set_cons_succ];go_big_quiet_on) | go_big_quiet_step (first | (go_at_call 164;exact za1 (zcs (cC.out _))) | (go_at_call 138;exact za1 (cA.out _ (zac HB.out.2.2 (Near.near _))))))
    refine wpQuiet_nil ?_
    rintro _ ⟨pn,rfl⟩
    have X:=hid (HB.out.1.next pn.near);have Y:=hid (HB.out.2.1.next pn.near);have Z:=hid (zac HB.out.2.2 pn.near);clear HB hne;generalize pn.wx=w1 at *;go_wp2_with (first | (go_at_call 166;(with_reducible refine (zbe e _).mono ?_);rintro e' w' ⟨rfl,rfl⟩;rw [hr.out]) | (go_at_call 163;(with_reducible refine (zc7 _ _).mono ?_);rintro e' w' ⟨rfl,rfl⟩;rw [hp.out]) | (with_reducible show wpList _ _ _ (⟨some 85,Op.load 25 (.tmp 5),25,_,_,_⟩ :: _) _ _;refine zaU (by kernel_rfl) rfl (Box.load (X.out) hC) rfl ?_;simp only [Act.put,List.setIfInBounds_toArray,List.set_cons_zero,List.set_cons_succ]) | (go_at_call 167;(with_reducible refine (cU.out e _).mono ?_);rintro e' w2 ⟨rfl,k2⟩;rw [hu.out]));go_ret2;exact ⟨zaP (HE.out.trans HR.out),zac Z.out k2⟩
  ·subst hk
   replace hb:_=Value.int .i64 1:=hb
   subst hb;obtain ⟨e,he⟩:∃ e,ldV D (zcb tb t 1) 8=e:=⟨_,rfl⟩;obtain ⟨s,hs⟩:∃ s,stE D.length (zcb tb t 1) 8=s:=⟨_,rfl⟩;obtain ⟨p,hp⟩:∃ p,zcQ (e / 1024)=p:=⟨_,rfl⟩;obtain ⟨c,hc⟩:∃ c,zf0 t 1=c:=⟨_,rfl⟩;have hR:=HG.out.2.symm.trans (zhL D ms M t kind tb e s p 1 he hs hp);have cC:Hid (∀ W',Calls Tryz.prog 164 #[.int .u64 t,.int .i64 1] W' fun e' W''=>e'=.returned (.int .u64 c)∧W'=W''):=hid fun W'=>hc ▸ zin t 1 (by omega) W'
   have cA:Hid (∀ W',Below W.heap.size W W'→Calls Tryz.prog 138 #[.agg V,.int .u64 (IntKind.u64.wrap (tb+IntKind.u64.wrap (8*c))),.int .i64 8] W' fun e' W''=>e'=.returned (.tuple #[.int .u64 e,.int .i64 s])∧Below W'.heap.size W' W''):=hid fun W' hW'=>by
    have h:=cL.out W' hW' (zcb tb t 1) (ze7 _).1 (ze7 _).2;rw [he,hs] at h;unfold zcb at h;rw [hc] at h;exact h
   have hp':=hid hp;have hpu:Hid (U64 p):=hid (hp ▸ zg1 _);clear he hs hp hc;have hp:=hp';clear hp'
   by_cases hs:s≠0
   ·have hs1:(s != 0)=true:=by simpa using hs
    have HR:=hid (hR.trans (if_pos hs));clear hR;clear hs;go_upto_region 12 with (fail);have hne:Nonempty (Near wr):=⟨⟨wr,Below.refl _ _⟩⟩;refine zbR (by kernel_rfl) (by kernel_rfl) ?_
    repeat (first | (go_big_quiet_want;(with_reducible refine zbz _ (fun w hw=>zbg (t:=39) rfl (zb5 HB.out.2.1 hV.out w hw) rfl) ?_);simp only [Act.put,List.setIfInBounds_toArray,List.set_cons_zero,List.set_cons_succ];go_big_quiet_on) | go_big_quiet_step (first | (go_at_call 164;exact za1 (zcs (cC.out _))) | (go_at_call 138;exact za1 (cA.out _ (zac HB.out.2.2 (Near.near _))))))
    refine wpQuiet_nil ?_
    rintro _ ⟨pn,rfl⟩
    have X:=hid (HB.out.1.next pn.near);have Y:=hid (HB.out.2.1.next pn.near);have Z:=hid (zac HB.out.2.2 pn.near);clear HB hne;generalize pn.wx=w1 at *;go_wp2_with (go_at_call 165;(with_reducible refine (zh5 kind h0 h2 _).mono ?_);rintro e' w' ⟨rfl,rfl⟩);go_ret2;exact ⟨zaP (HE.out.trans HR.out),Z.out⟩
   replace hs:s=0:=by omega
   subst hs;rcases Bool.eq_false_or_eq_true (zao e) with hr | hr
   rotate_left
   ·replace hR:=hR.trans ((if_neg (by omega)).trans (if_pos hr))
    replace hr:=hid hr
    have HR:=hid (hR.trans (rfl));clear hR;go_upto_region 12 with (fail);have hne:Nonempty (Near wr):=⟨⟨wr,Below.refl _ _⟩⟩;refine zbR (by kernel_rfl) (by kernel_rfl) ?_
    repeat (first | (go_big_quiet_want;(with_reducible refine zbz _ (fun w hw=>zbg (t:=39) rfl (zb5 HB.out.2.1 hV.out w hw) rfl) ?_);simp only [Act.put,List.setIfInBounds_toArray,List.set_cons_zero,List.set_cons_succ];go_big_quiet_on) | go_big_quiet_step (first | (go_at_call 164;exact za1 (zcs (cC.out _))) | (go_at_call 138;exact za1 (cA.out _ (zac HB.out.2.2 (Near.near _))))))
    refine wpQuiet_nil ?_
    rintro _ ⟨pn,rfl⟩
    have X:=hid (HB.out.1.next pn.near);have Y:=hid (HB.out.2.1.next pn.near);have Z:=hid (zac HB.out.2.2 pn.near);clear HB hne;generalize pn.wx=w1 at *;go_wp2_with (first | (go_at_call 166;(with_reducible refine (zbe e _).mono ?_);rintro e' w' ⟨rfl,rfl⟩;rw [hr.out]) | (go_at_call 162;(with_reducible refine (zdt kind h0 h2 _).mono ?_);rintro e' w' ⟨rfl,rfl⟩));go_ret2;exact ⟨zaP (HE.out.trans HR.out),Z.out⟩
   replace hR:=hR.trans ((if_neg (by omega)).trans (if_neg (by rw [hr];decide)))
   replace hr:=hid hr
   rcases Bool.eq_false_or_eq_true (bits .and .u64 e 10==0) with hl | hl
   ·have HR:=hid (hR.trans (if_pos hl))
    clear hR;go_upto_region 12 with (fail);have hne:Nonempty (Near wr):=⟨⟨wr,Below.refl _ _⟩⟩;refine zbR (by kernel_rfl) (by kernel_rfl) ?_
    repeat (first | (go_big_quiet_want;(with_reducible refine zbz _ (fun w hw=>zbg (t:=39) rfl (zb5 HB.out.2.1 hV.out w hw) rfl) ?_);simp only [Act.put,List.setIfInBounds_toArray,List.set_cons_zero,List.set_cons_succ];go_big_quiet_on) | go_big_quiet_step (first | (go_at_call 164;exact za1 (zcs (cC.out _))) | (go_at_call 138;exact za1 (cA.out _ (zac HB.out.2.2 (Near.near _))))))
    refine wpQuiet_nil ?_
    rintro _ ⟨pn,rfl⟩
    have X:=hid (HB.out.1.next pn.near);have Y:=hid (HB.out.2.1.next pn.near);have Z:=hid (zac HB.out.2.2 pn.near);clear HB hne;generalize pn.wx=w1 at *;go_wp2_with (first | (go_at_call 166;(with_reducible refine (zbe e _).mono ?_);rintro e' w' ⟨rfl,rfl⟩;rw [hr.out]) | (go_at_call 163;(with_reducible refine (zc7 _ _).mono ?_);rintro e' w' ⟨rfl,rfl⟩;rw [hp.out]));exact ⟨⟨1,by omega,rfl,p,rfl,hid ⟨hpu.out,HR.out.symm⟩,hid ⟨X.out,Y.out,Z.out⟩⟩,by simp [intOf]⟩
   replace hR:=hR.trans (if_neg (by rw [hl];decide))
   have hlow:lowV 1=2097151:=by decide
   rw [hlow] at hR;clear hlow;rcases Bool.eq_false_or_eq_true (bits .and .u64 p 2097151 != 0) with hm | hm
   ·have HR:=hid (hR.trans (if_pos hm))
    clear hR;go_upto_region 12 with (fail);have hne:Nonempty (Near wr):=⟨⟨wr,Below.refl _ _⟩⟩;refine zbR (by kernel_rfl) (by kernel_rfl) ?_
    repeat (first | (go_big_quiet_want;(with_reducible refine zbz _ (fun w hw=>zbg (t:=39) rfl (zb5 HB.out.2.1 hV.out w hw) rfl) ?_);simp only [Act.put,List.setIfInBounds_toArray,List.set_cons_zero,List.set_cons_succ];go_big_quiet_on) | go_big_quiet_step (first | (go_at_call 164;exact za1 (zcs (cC.out _))) | (go_at_call 138;exact za1 (cA.out _ (zac HB.out.2.2 (Near.near _))))))
    refine wpQuiet_nil ?_
    rintro _ ⟨pn,rfl⟩
    have X:=hid (HB.out.1.next pn.near);have Y:=hid (HB.out.2.1.next pn.near);have Z:=hid (zac HB.out.2.2 pn.near);clear HB hne;generalize pn.wx=w1 at *;go_wp2_with (first | (go_at_call 166;(with_reducible refine (zbe e _).mono ?_);rintro e' w' ⟨rfl,rfl⟩;rw [hr.out]) | (go_at_call 163;(with_reducible refine (zc7 _ _).mono ?_);rintro e' w' ⟨rfl,rfl⟩;rw [hp.out]) | (go_at_call 162;(with_reducible refine (zdt kind h0 h2 _).mono ?_);rintro e' w' ⟨rfl,rfl⟩));go_ret2;exact ⟨zaP (HE.out.trans HR.out),Z.out⟩
   replace hR:=hR.trans (if_neg (by rw [hm];decide))
   rcases Bool.eq_false_or_eq_true (zdC ms M e kind) with hu | hu
   rotate_left
   ·replace hR:=hR.trans (if_pos hu)
    replace hu:=hid hu
    have HR:=hid (hR.trans (rfl));clear hR;go_upto_region 12 with (fail);have hne:Nonempty (Near wr):=⟨⟨wr,Below.refl _ _⟩⟩;refine zbR (by kernel_rfl) (by kernel_rfl) ?_
    repeat (first | (go_big_quiet_want;(with_reducible refine zbz _ (fun w hw=>zbg (t:=39) rfl (zb5 HB.out.2.1 hV.out w hw) rfl) ?_);simp only [Act.put,List.setIfInBounds_toArray,List.set_cons_zero,List.set_cons_succ];go_big_quiet_on) | go_big_quiet_step (first | (go_at_call 164;exact za1 (zcs (cC.out _))) | (go_at_call 138;exact za1 (cA.out _ (zac HB.out.2.2 (Near.near _))))))
    refine wpQuiet_nil ?_
    rintro _ ⟨pn,rfl⟩
    have X:=hid (HB.out.1.next pn.near);have Y:=hid (HB.out.2.1.next pn.near);have Z:=hid (zac HB.out.2.2 pn.near);clear HB hne;generalize pn.wx=w1 at *;go_wp2_with (first | (go_at_call 166;(with_reducible refine (zbe e _).mono ?_);rintro e' w' ⟨rfl,rfl⟩;rw [hr.out]) | (go_at_call 163;(with_reducible refine (zc7 _ _).mono ?_);rintro e' w' ⟨rfl,rfl⟩;rw [hp.out]) | (with_reducible show wpList _ _ _ (⟨some 85,Op.load 25 (.tmp 5),25,_,_,_⟩ :: _) _ _;refine zaU (by kernel_rfl) rfl (Box.load (X.out) hC) rfl ?_;simp only [Act.put,List.setIfInBounds_toArray,List.set_cons_zero,List.set_cons_succ]) | (go_at_call 167;(with_reducible refine (cU.out e _).mono ?_);rintro e' w2 ⟨rfl,k2⟩;rw [hu.out]) | (go_at_call 162;(with_reducible refine (zdt kind h0 h2 _).mono ?_);rintro e' w' ⟨rfl,rfl⟩));go_ret2;exact ⟨zaP (HE.out.trans HR.out),zac Z.out k2⟩
   ·replace hR:=hR.trans (if_neg (by rw [hu];decide))
    replace hu:=hid hu
    have HR:=hid (hR.trans (rfl));clear hR;go_upto_region 12 with (fail);have hne:Nonempty (Near wr):=⟨⟨wr,Below.refl _ _⟩⟩;refine zbR (by kernel_rfl) (by kernel_rfl) ?_
    repeat (first | (go_big_quiet_want;(with_reducible refine zbz _ (fun w hw=>zbg (t:=39) rfl (zb5 HB.out.2.1 hV.out w hw) rfl) ?_);simp only [Act.put,List.setIfInBounds_toArray,List.set_cons_zero,List.set_cons_succ];go_big_quiet_on) | go_big_quiet_step (first | (go_at_call 164;exact za1 (zcs (cC.out _))) | (go_at_call 138;exact za1 (cA.out _ (zac HB.out.2.2 (Near.near _))))))
    refine wpQuiet_nil ?_
    rintro _ ⟨pn,rfl⟩
    have X:=hid (HB.out.1.next pn.near);have Y:=hid (HB.out.2.1.next pn.near);have Z:=hid (zac HB.out.2.2 pn.near);clear HB hne;generalize pn.wx=w1 at *;go_wp2_with (first | (go_at_call 166;(with_reducible refine (zbe e _).mono ?_);rintro e' w' ⟨rfl,rfl⟩;rw [hr.out]) | (go_at_call 163;(with_reducible refine (zc7 _ _).mono ?_);rintro e' w' ⟨rfl,rfl⟩;rw [hp.out]) | (with_reducible show wpList _ _ _ (⟨some 85,Op.load 25 (.tmp 5),25,_,_,_⟩ :: _) _ _;refine zaU (by kernel_rfl) rfl (Box.load (X.out) hC) rfl ?_;simp only [Act.put,List.setIfInBounds_toArray,List.set_cons_zero,List.set_cons_succ]) | (go_at_call 167;(with_reducible refine (cU.out e _).mono ?_);rintro e' w2 ⟨rfl,k2⟩;rw [hu.out]));go_ret2;exact ⟨zaP (HE.out.trans HR.out),zac Z.out k2⟩
  ·subst hk
   replace hb:_=Value.int .i64 2:=hb
   subst hb;obtain ⟨e,he⟩:∃ e,ldV D (zcb tb t 2) 8=e:=⟨_,rfl⟩;obtain ⟨s,hs⟩:∃ s,stE D.length (zcb tb t 2) 8=s:=⟨_,rfl⟩;obtain ⟨p,hp⟩:∃ p,zcQ (e / 1024)=p:=⟨_,rfl⟩;obtain ⟨c,hc⟩:∃ c,zf0 t 2=c:=⟨_,rfl⟩;have hR:=HG.out.2.symm.trans (zhL D ms M t kind tb e s p 2 he hs hp);have cC:Hid (∀ W',Calls Tryz.prog 164 #[.int .u64 t,.int .i64 2] W' fun e' W''=>e'=.returned (.int .u64 c)∧W'=W''):=hid fun W'=>hc ▸ zin t 2 (by omega) W'
   have cA:Hid (∀ W',Below W.heap.size W W'→Calls Tryz.prog 138 #[.agg V,.int .u64 (IntKind.u64.wrap (tb+IntKind.u64.wrap (8*c))),.int .i64 8] W' fun e' W''=>e'=.returned (.tuple #[.int .u64 e,.int .i64 s])∧Below W'.heap.size W' W''):=hid fun W' hW'=>by
    have h:=cL.out W' hW' (zcb tb t 2) (ze7 _).1 (ze7 _).2;rw [he,hs] at h;unfold zcb at h;rw [hc] at h;exact h
   have hp':=hid hp;have hpu:Hid (U64 p):=hid (hp ▸ zg1 _);clear he hs hp hc;have hp:=hp';clear hp'
   by_cases hs:s≠0
   ·have hs1:(s != 0)=true:=by simpa using hs
    have HR:=hid (hR.trans (if_pos hs));clear hR;clear hs;go_upto_region 12 with (fail);have hne:Nonempty (Near wr):=⟨⟨wr,Below.refl _ _⟩⟩;refine zbR (by kernel_rfl) (by kernel_rfl) ?_
    repeat (first | (go_big_quiet_want;(with_reducible refine zbz _ (fun w hw=>zbg (t:=39) rfl (zb5 HB.out.2.1 hV.out w hw) rfl) ?_);simp only [Act.put,List.setIfInBounds_toArray,List.set_cons_zero,List.set_cons_succ];go_big_quiet_on) | go_big_quiet_step (first | (go_at_call 164;exact za1 (zcs (cC.out _))) | (go_at_call 138;exact za1 (cA.out _ (zac HB.out.2.2 (Near.near _))))))
    refine wpQuiet_nil ?_
    rintro _ ⟨pn,rfl⟩
    have X:=hid (HB.out.1.next pn.near);have Y:=hid (HB.out.2.1.next pn.near);have Z:=hid (zac HB.out.2.2 pn.near);clear HB hne;generalize pn.wx=w1 at *;go_wp2_with (go_at_call 165;(with_reducible refine (zh5 kind h0 h2 _).mono ?_);rintro e' w' ⟨rfl,rfl⟩);go_ret2;exact ⟨zaP (HE.out.trans HR.out),Z.out⟩
   replace hs:s=0:=by omega
   subst hs;rcases Bool.eq_false_or_eq_true (zao e) with hr | hr
   rotate_left
   ·replace hR:=hR.trans ((if_neg (by omega)).trans (if_pos hr))
    replace hr:=hid hr
    have HR:=hid (hR.trans (rfl));clear hR;go_upto_region 12 with (fail);have hne:Nonempty (Near wr):=⟨⟨wr,Below.refl _ _⟩⟩;refine zbR (by kernel_rfl) (by kernel_rfl) ?_
    repeat (first | (go_big_quiet_want;(with_reducible refine zbz _ (fun w hw=>zbg (t:=39) rfl (zb5 HB.out.2.1 hV.out w hw) rfl) ?_);simp only [Act.put,List.setIfInBounds_toArray,List.set_cons_zero,List.set_cons_succ];go_big_quiet_on) | go_big_quiet_step (first | (go_at_call 164;exact za1 (zcs (cC.out _))) | (go_at_call 138;exact za1 (cA.out _ (zac HB.out.2.2 (Near.near _))))))
    refine wpQuiet_nil ?_
    rintro _ ⟨pn,rfl⟩
    have X:=hid (HB.out.1.next pn.near);have Y:=hid (HB.out.2.1.next pn.near);have Z:=hid (zac HB.out.2.2 pn.near);clear HB hne;generalize pn.wx=w1 at *;go_wp2_with (first | (go_at_call 166;(with_reducible refine (zbe e _).mono ?_);rintro e' w' ⟨rfl,rfl⟩;rw [hr.out]) | (go_at_call 162;(with_reducible refine (zdt kind h0 h2 _).mono ?_);rintro e' w' ⟨rfl,rfl⟩));go_ret2;exact ⟨zaP (HE.out.trans HR.out),Z.out⟩
   replace hR:=hR.trans ((if_neg (by omega)).trans (if_neg (by rw [hr];decide)))
   replace hr:=hid hr
   rcases Bool.eq_false_or_eq_true (bits .and .u64 e 10==0) with hl | hl
   ·have HR:=hid (hR.trans (if_pos hl))
    clear hR;go_upto_region 12 with (fail);have hne:Nonempty (Near wr):=⟨⟨wr,Below.refl _ _⟩⟩;refine zbR (by kernel_rfl) (by kernel_rfl) ?_
    repeat (first | (go_big_quiet_want;(with_reducible refine zbz _ (fun w hw=>zbg (t:=39) rfl (zb5 HB.out.2.1 hV.out w hw) rfl) ?_);simp only [Act.put,List.setIfInBounds_toArray,List.set_cons_zero,List.set_cons_succ];go_big_quiet_on) | go_big_quiet_step (first | (go_at_call 164;exact za1 (zcs (cC.out _))) | (go_at_call 138;exact za1 (cA.out _ (zac HB.out.2.2 (Near.near _))))))
    refine wpQuiet_nil ?_
    rintro _ ⟨pn,rfl⟩
    have X:=hid (HB.out.1.next pn.near);have Y:=hid (HB.out.2.1.next pn.near);have Z:=hid (zac HB.out.2.2 pn.near);clear HB hne;generalize pn.wx=w1 at *;go_wp2_with (first | (go_at_call 166;(with_reducible refine (zbe e _).mono ?_);rintro e' w' ⟨rfl,rfl⟩;rw [hr.out]) | (go_at_call 163;(with_reducible refine (zc7 _ _).mono ?_);rintro e' w' ⟨rfl,rfl⟩;rw [hp.out]));exact ⟨⟨2,by omega,rfl,p,rfl,hid ⟨hpu.out,HR.out.symm⟩,hid ⟨X.out,Y.out,Z.out⟩⟩,by simp [intOf]⟩
   replace hR:=hR.trans (if_neg (by rw [hl];decide))
   have hlow:lowV 2=1073741823:=by decide
   rw [hlow] at hR;clear hlow;rcases Bool.eq_false_or_eq_true (bits .and .u64 p 1073741823 != 0) with hm | hm
   ·have HR:=hid (hR.trans (if_pos hm))
    clear hR;go_upto_region 12 with (fail);have hne:Nonempty (Near wr):=⟨⟨wr,Below.refl _ _⟩⟩;refine zbR (by kernel_rfl) (by kernel_rfl) ?_
    repeat (first | (go_big_quiet_want;(with_reducible refine zbz _ (fun w hw=>zbg (t:=39) rfl (zb5 HB.out.2.1 hV.out w hw) rfl) ?_);simp only [Act.put,List.setIfInBounds_toArray,List.set_cons_zero,List.set_cons_succ];go_big_quiet_on) | go_big_quiet_step (first | (go_at_call 164;exact za1 (zcs (cC.out _))) | (go_at_call 138;exact za1 (cA.out _ (zac HB.out.2.2 (Near.near _))))))
    refine wpQuiet_nil ?_
    rintro _ ⟨pn,rfl⟩
    have X:=hid (HB.out.1.next pn.near);have Y:=hid (HB.out.2.1.next pn.near);have Z:=hid (zac HB.out.2.2 pn.near);clear HB hne;generalize pn.wx=w1 at *;go_wp2_with (first | (go_at_call 166;(with_reducible refine (zbe e _).mono ?_);rintro e' w' ⟨rfl,rfl⟩;rw [hr.out]) | (go_at_call 163;(with_reducible refine (zc7 _ _).mono ?_);rintro e' w' ⟨rfl,rfl⟩;rw [hp.out]) | (go_at_call 162;(with_reducible refine (zdt kind h0 h2 _).mono ?_);rintro e' w' ⟨rfl,rfl⟩));go_ret2;exact ⟨zaP (HE.out.trans HR.out),Z.out⟩
   replace hR:=hR.trans (if_neg (by rw [hm];decide))
   rcases Bool.eq_false_or_eq_true (zdC ms M e kind) with hu | hu
   rotate_left
   ·replace hR:=hR.trans (if_pos hu)
    replace hu:=hid hu
    have HR:=hid (hR.trans (rfl));clear hR;go_upto_region 12 with (fail);have hne:Nonempty (Near wr):=⟨⟨wr,Below.refl _ _⟩⟩;refine zbR (by kernel_rfl) (by kernel_rfl) ?_
    repeat (first | (go_big_quiet_want;(with_reducible refine zbz _ (fun w hw=>zbg (t:=39) rfl (zb5 HB.out.2.1 hV.out w hw) rfl) ?_);simp only [Act.put,List.setIfInBounds_toArray,List.set_cons_zero,List.set_cons_succ];go_big_quiet_on) | go_big_quiet_step (first | (go_at_call 164;exact za1 (zcs (cC.out _))) | (go_at_call 138;exact za1 (cA.out _ (zac HB.out.2.2 (Near.near _))))))
    refine wpQuiet_nil ?_
    rintro _ ⟨pn,rfl⟩
    have X:=hid (HB.out.1.next pn.near);have Y:=hid (HB.out.2.1.next pn.near);have Z:=hid (zac HB.out.2.2 pn.near);clear HB hne;generalize pn.wx=w1 at *;go_wp2_with (first | (go_at_call 166;(with_reducible refine (zbe e _).mono ?_);rintro e' w' ⟨rfl,rfl⟩;rw [hr.out]) | (go_at_call 163;(with_reducible refine (zc7 _ _).mono ?_);rintro e' w' ⟨rfl,rfl⟩;rw [hp.out]) | (with_reducible show wpList _ _ _ (⟨some 85,Op.load 25 (.tmp 5),25,_,_,_⟩ :: _) _ _;refine zaU (by kernel_rfl) rfl (Box.load (X.out) hC) rfl ?_;simp only [Act.put,List.setIfInBounds_toArray,List.set_cons_zero,List.set_cons_succ]) | (go_at_call 167;(with_reducible refine (cU.out e _).mono ?_);rintro e' w2 ⟨rfl,k2⟩;rw [hu.out]) | (go_at_call 162;(with_reducible refine (zdt kind h0 h2 _).mono ?_);rintro e' w' ⟨rfl,rfl⟩));go_ret2;exact ⟨zaP (HE.out.trans HR.out),zac Z.out k2⟩
   ·replace hR:=hR.trans (if_neg (by rw [hu];decide))
    replace hu:=hid hu
    have HR:=hid (hR.trans (rfl));clear hR;go_upto_region 12 with (fail);have hne:Nonempty (Near wr):=⟨⟨wr,Below.refl _ _⟩⟩;refine zbR (by kernel_rfl) (by kernel_rfl) ?_
    repeat (first | (go_big_quiet_want;(with_reducible refine zbz _ (fun w hw=>zbg (t:=39) rfl (zb5 HB.out.2.1 hV.out w hw) rfl) ?_);simp only [Act.put,List.setIfInBounds_toArray,List.set_cons_zero,List.set_cons_succ];go_big_quiet_on) | go_big_quiet_step (first | (go_at_call 164;exact za1 (zcs (cC.out _))) | (go_at_call 138;exact za1 (cA.out _ (zac HB.out.2.2 (Near.near _))))))
    refine wpQuiet_nil ?_
    rintro _ ⟨pn,rfl⟩
    have X:=hid (HB.out.1.next pn.near);have Y:=hid (HB.out.2.1.next pn.near);have Z:=hid (zac HB.out.2.2 pn.near);clear HB hne;generalize pn.wx=w1 at *;go_wp2_with (first | (go_at_call 166;(with_reducible refine (zbe e _).mono ?_);rintro e' w' ⟨rfl,rfl⟩;rw [hr.out]) | (go_at_call 163;(with_reducible refine (zc7 _ _).mono ?_);rintro e' w' ⟨rfl,rfl⟩;rw [hp.out]) | (with_reducible show wpList _ _ _ (⟨some 85,Op.load 25 (.tmp 5),25,_,_,_⟩ :: _) _ _;refine zaU (by kernel_rfl) rfl (Box.load (X.out) hC) rfl ?_;simp only [Act.put,List.setIfInBounds_toArray,List.set_cons_zero,List.set_cons_succ]) | (go_at_call 167;(with_reducible refine (cU.out e _).mono ?_);rintro e' w2 ⟨rfl,k2⟩;rw [hu.out]));go_ret2;exact ⟨zaP (HE.out.trans HR.out),zac Z.out k2⟩
end Go.Proofs.YtplcfdnfeclpmaaGreatDoor.Wk
namespace Go.Proofs.YtplcfdnfeclpmaaGreatDoor.Wk
theorem zpC (C V:Array Value) (ms sp m t kind:Int) (D:List UInt8) (W:World) (h:zdT C ms sp) (hV:V.size=3) (ht0:0≤t) (cL:ziD 138 V D W):TB 116 #[.agg C,.int .i64 m,.agg V,.int .u64 t,.int .i64 kind] W (zeu (zbr D ms sp m t kind)):=by
 by_cases hk:kind<0
 ·exact zw6 C V ms sp m t kind D W h hV hk
 by_cases hk2:2<kind
 ·exact zyn C V ms sp m t kind D W h hV hk2
 by_cases k:3≤zdQ ms m kind
 ·exact zwx C V ms sp m t kind D W h hV _ (by omega) (by omega) rfl k
 rcases Bool.eq_false_or_eq_true (sp / 1152921504606846976 != 8) with s | s
 ·exact zl5 C V ms sp m t kind D W h hV _ (by omega) (by omega) rfl k s
 rcases Bool.eq_false_or_eq_true (zfs t) with y | y
 ·exact zp5 C V ms sp m t kind D W h hV _ (by omega) (by omega) ht0 rfl k s y cL
 ·exact zrM C V ms sp m t kind D W h hV _ (by omega) (by omega) rfl k s y
end Go.Proofs.YtplcfdnfeclpmaaGreatDoor.Wk
