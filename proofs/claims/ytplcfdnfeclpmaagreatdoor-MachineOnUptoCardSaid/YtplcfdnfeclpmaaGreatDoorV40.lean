/- MachineOn, part 40. -/
import Derived.Test.YtplcfdnfeclpmaaGreatDoorV12
import Derived.Test.YtplcfdnfeclpmaaGreatDoorV36
import Derived.Test.YtplcfdnfeclpmaaGreatDoorV39
set_option maxHeartbeats 4000000
set_option maxRecDepth 100000
open Go.Lib (hid)
open Go Go.RowKit Go.Deep Go.Joins Go.Proofs.Tryz
namespace Go.Proofs.YtplcfdnfeclpmaaGreatDoor
def kdV (op:Int):Int:=if resB op=true then 1 else 2
def odV (op:Int):Int:=if resB op=true then 4 else 6
def msV (op:Int):Int:=if resB op=true then 5 else 7
def waV (s was:Int):Int:=if s=4 then Al.za3 was else was
noncomputable def atR (v:Mc) (p:Pt) (g:Wk) (s:Int):Bool × Mc × Pt :=
 if (xV v.h g.a).tmod s≠0 then (false,turn v (tkH v.h (odV g.o) (xV v.h g.a)),p) else
 if (fnH v.h p.D (xV v.h g.a) (kdV g.o)).2.1=false then (false,turn v (fnH v.h p.D (xV v.h g.a) (kdV g.o)).2.2,p) else
 if (mmV p (fnH v.h p.D (xV v.h g.a) (kdV g.o)).1 s).2=false then (false,turn v (tkH (fnH v.h p.D (xV v.h g.a) (kdV g.o)).2.2 (msV g.o) (xV v.h g.a)),p) else
 (true,chR (turn v (fnH v.h p.D (xV v.h g.a) (kdV g.o)).2.2) p g (fnH v.h p.D (xV v.h g.a) (kdV g.o)).1 s (waV s (mmV p (fnH v.h p.D (xV v.h g.a) (kdV g.o)).1 s).1))
theorem zvt (B z k:Nat) (T:Nat→Prop) (v:Mc) (p:Pt) (g:Wk) (W:World) (K:St W B z k T v p g) (hr:Rgs g) (rb:Bool) (kd od ms:Int) (hk:(rb=true∧kd=1∧od=4∧ms=5)∨(rb=false∧kd=2∧od=6∧ms=7)) (hrb:resB g.o=rb) (s:Int) (hs:s=4∨s=8) (a:Int) (ha:xV v.h g.a=a) (hm:(a.tmod s != 0)=true):Calls Tryz.prog 90 #[.pointer (some ⟨k,0,none⟩),.int .i64 s] W fun e W'=>e=.returned (.bool false)∧Cw W W' B z k T (turn v (tkH v.h od a)) p g:=by
 have SX:=hid K;have CW:=hid (Cw.below K (Below.refl _ _));have CA:=hid (fun w (h:St w B z k T v p g)=>zcW B z k T v p g w h hr.2.1);have CO:=hid (fun w=>hrb ▸ zgz g.o w);rw [ha] at CA;clear K hr hrb  ha;rcases hs with rfl | rfl <;> rcases hk with ⟨rfl,rfl,rfl,rfl⟩ | ⟨rfl,rfl,rfl,rfl⟩
 all_goals
  go_enter func90,ntmps90;go_wp2_with (first | (go_at_call 81;(with_reducible refine (CA.out _ SX.out).mono ?_);rintro e wb ⟨rfl,kk⟩;have CW:=hid (CW.out.trans (Cw.below SX.out kk));have SX:=hid CW.out.1;clear kk) | (with_reducible refine zaa rfl rfl (KW.op SX.out.kw) rfl ?_) | (go_at_call 111;(with_reducible refine (CO.out _).mono ?_);rintro e w8 ⟨rfl,rfl⟩) | (with_reducible refine zaa rfl rfl (KW.rg SX.out.kw) rfl ?_) | (go_at_call 75;(with_reducible refine (zea _ a SX.out.ms).mono ?_);rintro e wb ⟨rfl,kk⟩;have CW:=hid (CW.out.ch kk);have SX:=hid CW.out.1;clear kk));go_ret;exact ⟨rfl,CW.out⟩
theorem zt0 (B z k:Nat) (T:Nat→Prop) (v:Mc) (p:Pt) (g:Wk) (W:World) (K:St W B z k T v p g) (hr:Rgs g) (rb:Bool) (kd od ms:Int) (hk:(rb=true∧kd=1∧od=4∧ms=5)∨(rb=false∧kd=2∧od=6∧ms=7)) (hrb:resB g.o=rb) (s:Int) (hs:s=4∨s=8) (a:Int) (hau:Al.U64 a) (ha:xV v.h g.a=a) (hm:(a.tmod s != 0)=false) (pl:Int) (h1:Hart) (hf:fnH v.h p.D a kd=(pl,false,h1)):Calls Tryz.prog 90 #[.pointer (some ⟨k,0,none⟩),.int .i64 s] W fun e W'=>e=.returned (.bool false)∧Cw W W' B z k T (turn v h1) p g:=by
 have SX:=hid K;have CW:=hid (Cw.below K (Below.refl _ _));have CA:=hid (fun w (h:St w B z k T v p g)=>zcW B z k T v p g w h hr.2.1);have CO:=hid (fun w=>hrb ▸ zgz g.o w);rw [ha] at CA;have CF:=hid (fun w (h:Ms w B z v p T)=>zdj a kd h hau.1);rw [hf] at CF;clear K hr hrb ha hf hau;rcases hs with rfl | rfl <;> rcases hk with ⟨rfl,rfl,rfl,rfl⟩ | ⟨rfl,rfl,rfl,rfl⟩
 all_goals
  go_enter func90,ntmps90;go_wp2_with (first | (go_at_call 81;(with_reducible refine (CA.out _ SX.out).mono ?_);rintro e wb ⟨rfl,kk⟩;have CW:=hid (CW.out.trans (Cw.below SX.out kk));have SX:=hid CW.out.1;clear kk) | (with_reducible refine zaa rfl rfl (KW.op SX.out.kw) rfl ?_) | (go_at_call 111;(with_reducible refine (CO.out _).mono ?_);rintro e w8 ⟨rfl,rfl⟩) | (with_reducible refine zaa rfl rfl (KW.rg SX.out.kw) rfl ?_) | (go_at_call 96;(with_reducible refine (CF.out _ SX.out.ms).mono ?_);rintro e wb ⟨rfl,kk⟩;have CW:=hid (CW.out.ch kk);have SX:=hid CW.out.1;clear kk));go_ret;exact ⟨rfl,CW.out⟩
theorem zxn (B z k:Nat) (T:Nat→Prop) (v:Mc) (p:Pt) (g:Wk) (W:World) (K:St W B z k T v p g) (hr:Rgs g) (rb:Bool) (kd od ms:Int) (hk:(rb=true∧kd=1∧od=4∧ms=5)∨(rb=false∧kd=2∧od=6∧ms=7)) (hrb:resB g.o=rb) (s:Int) (hs:s=4∨s=8) (ok:POk v p) (a:Int) (hau:Al.U64 a) (ha:xV v.h g.a=a) (hm:(a.tmod s != 0)=false) (pl:Int) (hpl:Al.U64 pl) (h1:Hart) (hf:fnH v.h p.D a kd=(pl,true,h1)) (n:Int) (hq:mmV p pl s=(n,false)):Calls Tryz.prog 90 #[.pointer (some ⟨k,0,none⟩),.int .i64 s] W fun e W'=>e=.returned (.bool false)∧Cw W W' B z k T (turn v (tkH h1 ms a)) p g:=by
 have SX:=hid K;have CW:=hid (Cw.below K (Below.refl _ _));have CA:=hid (fun w (h:St w B z k T v p g)=>zcW B z k T v p g w h hr.2.1);have CO:=hid (fun w=>hrb ▸ zgz g.o w);rw [ha] at CA;have CF:=hid (fun w (h:Ms w B z v p T)=>zdj a kd h hau.1);rw [hf] at CF;have CM:=hid (fun w (h:St w B z k T (turn v h1) p g)=>zgG pl s h.ms h.hB h.up (ok.turn h1) (U64.le hpl).1 (U64.le hpl).2);rw [hq] at CM;clear K hr hrb ha hf hau hpl hq ok;rcases hs with rfl | rfl <;> rcases hk with ⟨rfl,rfl,rfl,rfl⟩ | ⟨rfl,rfl,rfl,rfl⟩
 all_goals
  go_enter func90,ntmps90;go_wp2_with (first | (go_at_call 81;(with_reducible refine (CA.out _ SX.out).mono ?_);rintro e wb ⟨rfl,kk⟩;have CW:=hid (CW.out.trans (Cw.below SX.out kk));have SX:=hid CW.out.1;clear kk) | (with_reducible refine zaa rfl rfl (KW.op SX.out.kw) rfl ?_) | (go_at_call 111;(with_reducible refine (CO.out _).mono ?_);rintro e w8 ⟨rfl,rfl⟩) | (with_reducible refine zaa rfl rfl (KW.rg SX.out.kw) rfl ?_) | ((first | (go_at_call 96;with_reducible refine (CF.out _ SX.out.ms).mono ?_) | (go_at_call 97;with_reducible refine (CM.out _ SX.out).mono ?_) | (go_at_call 75;with_reducible refine (zea _ a SX.out.ms).mono ?_));rintro e wb ⟨rfl,kk⟩;have CW:=hid (CW.out.ch kk);have SX:=hid CW.out.1;clear kk));go_ret;exact ⟨rfl,CW.out⟩
theorem zv9 (B z k:Nat) (T:Nat→Prop) (v:Mc) (p:Pt) (g:Wk) (W:World) (K:St W B z k T v p g) (hr:Rgs g) (rb:Bool) (kd od ms:Int) (hk:(rb=true∧kd=1∧od=4∧ms=5)∨(rb=false∧kd=2∧od=6∧ms=7)) (hrb:resB g.o=rb) (s:Int) (hs:s=4∨s=8) (ok:POk v p) (hO:(p.O.length+1)*32≤140737488355328) (a:Int) (hau:Al.U64 a) (ha:xV v.h g.a=a) (hm:(a.tmod s != 0)=false) (pl:Int) (hpl:Al.U64 pl) (h1:Hart) (hf:fnH v.h p.D a kd=(pl,true,h1)) (n:Int) (hn:Al.U64 n) (hx:Al.U64 (xV h1 g.b)) (hq:mmV p pl s=(n,true)) (q:Mc × Pt) (hc:chR (turn v h1) p g pl s (waV s n)=q):Calls Tryz.prog 90 #[.pointer (some ⟨k,0,none⟩),.int .i64 s] W fun e W'=>e=.returned (.bool true)∧Cw W W' B z k T q.1 q.2 g:=by
 have SX:=hid K;have CW:=hid (Cw.below K (Below.refl _ _));have CA:=hid (fun w (h:St w B z k T v p g)=>zcW B z k T v p g w h hr.2.1);have CO:=hid (fun w=>hrb ▸ zgz g.o w);rw [ha] at CA;have CF:=hid (fun w (h:Ms w B z v p T)=>zdj a kd h hau.1);rw [hf] at CF;have CM:=hid (fun w (h:St w B z k T (turn v h1) p g)=>zgG pl s h.ms h.hB h.up (ok.turn h1) (U64.le hpl).1 (U64.le hpl).2);rw [hq] at CM
 have hwa:Al.U64 (waV s n):=by
  unfold waV
  split
  ·exact Al.zaw n
  ·exact hn
 have CC:=hid (fun w (h:St w B z k T (turn v h1) p g)=>zqR B z k T (turn v h1) p g w h hr pl s (waV s n) (ok.turn h1) hO hpl hwa hx);rw [hc] at CC;have CWd:=hid (fun w=>Al.zcl n w);have e4:waV 4 n=Al.za3 n:=rfl;have e8:waV 8 n=n:=rfl;clear K hr hrb ha hf hau hpl hq ok hO hn hx hc hwa;rcases hs with rfl | rfl <;> rcases hk with ⟨rfl,rfl,rfl,rfl⟩ | ⟨rfl,rfl,rfl,rfl⟩
 all_goals
  first | rw [e4] at CC | rw [e8] at CC
  clear e4 e8;go_enter func90,ntmps90;go_wp2_with (first | (go_at_call 81;(with_reducible refine (CA.out _ SX.out).mono ?_);rintro e wb ⟨rfl,kk⟩;have CW:=hid (CW.out.trans (Cw.below SX.out kk));have SX:=hid CW.out.1;clear kk) | (with_reducible refine zaa rfl rfl (KW.op SX.out.kw) rfl ?_) | (go_at_call 111;(with_reducible refine (CO.out _).mono ?_);rintro e w8 ⟨rfl,rfl⟩) | (with_reducible refine zaa rfl rfl (KW.rg SX.out.kw) rfl ?_) | ((first | (go_at_call 96;with_reducible refine (CF.out _ SX.out.ms).mono ?_) | (go_at_call 97;with_reducible refine (CM.out _ SX.out).mono ?_));rintro e wb ⟨rfl,kk⟩;have CW:=hid (CW.out.ch kk);have SX:=hid CW.out.1;clear kk) | (go_at_call 112;(with_reducible refine (CWd.out _).mono ?_);rintro e w8 ⟨rfl,rfl⟩) | (go_at_call 113;(with_reducible refine (CC.out _ SX.out).mono ?_);rintro e wb ⟨rfl,kk⟩;have CW:=hid (CW.out.trans kk);clear kk));go_ret;exact ⟨rfl,CW.out⟩
theorem zzT (B z k:Nat) (T:Nat→Prop) (v:Mc) (p:Pt) (g:Wk) (W:World) (K:St W B z k T v p g) (hr:Rgs g) (s:Int) (hs:s=4∨s=8) (ok:POk v p) (hO:(p.O.length+1)*32≤140737488355328) (hau:Al.U64 (xV v.h g.a)) (hx:∀ h kd,(fnH v.h p.D (xV v.h g.a) kd).2.2=h→Al.U64 (xV h g.b)) (hmm:∀ pl,Al.U64 (mmV p pl s).1):Calls Tryz.prog 90 #[.pointer (some ⟨k,0,none⟩),.int .i64 s] W fun e W'=>e=.returned (.bool (atR v p g s).1)∧Cw W W' B z k T (atR v p g s).2.1 (atR v p g s).2.2 g:=by
 have hk:(resB g.o=true∧kdV g.o=1∧odV g.o=4∧msV g.o=5)∨(resB g.o=false∧kdV g.o=2∧odV g.o=6∧msV g.o=7):=by
  unfold kdV odV msV;cases resB g.o
  ·exact .inr ⟨rfl,rfl,rfl,rfl⟩
  ·exact .inl ⟨rfl,rfl,rfl,rfl⟩
 unfold atR
 by_cases hm:(xV v.h g.a).tmod s≠0
 ·rw [if_pos hm]
  exact zvt B z k T v p g W K hr _ _ _ _ hk rfl s hs _ rfl (bne_iff_ne.2 hm)
 ·rw [if_neg hm]
  have hm':((xV v.h g.a).tmod s != 0)=false:=by
   rw [bne_eq_false_iff_eq];exact Decidable.not_not.1 hm
  have hfu:=fn_u v.h p.D (xV v.h g.a) (kdV g.o) hau;have hxx:=hx _ (kdV g.o) rfl;rcases hf:fnH v.h p.D (xV v.h g.a) (kdV g.o) with ⟨pl,b,h1⟩
  rw [hf] at hfu hxx;simp only at hfu hxx ⊢;cases b with
  | false=>exact zt0 B z k T v p g W K hr _ _ _ _ hk rfl s hs _ hau rfl hm' pl h1 hf
  | true =>
   have hn:=hmm pl;rcases hq:mmV p pl s with ⟨n,b2⟩
   rw [hq] at hn;cases b2 with
   | false=>exact zxn B z k T v p g W K hr _ _ _ _ hk rfl s hs ok _ hau rfl hm' pl hfu h1 hf n hq
   | true=>exact zv9 B z k T v p g W K hr _ _ _ _ hk rfl s hs ok hO _ hau rfl hm' pl hfu h1 hf n hn hxx hq _ rfl
def pcV (h:Hart) (n:Int):Int:=IntKind.u64.wrap (h.pc+n)
def ze1 (hi lo:Int):Int:=IntKind.u32.wrap (bits .or .u64 (IntKind.u64.wrap (hi*65536)) lo)
def ftR (v:Mc) (p:Pt) (g:Wk):Bool × Hart × Wk :=
 if (hfH v.h p v.h.pc).2.1=false then (false,(hfH v.h p v.h.pc).2.2,g) else
 if Br.zdB (hfH v.h p v.h.pc).1.toNat=true then
  if Br.zbw (hfH v.h p v.h.pc).1.toNat=0 then (false,tkH (hfH v.h p v.h.pc).2.2 2 (hfH v.h p v.h.pc).1,g)
  else (true,(hfH v.h p v.h.pc).2.2,{ g with wd:=(Br.zbw (hfH v.h p v.h.pc).1.toNat:Nat),np:=pcV v.h 2 })
 else
  if (hfH (hfH v.h p v.h.pc).2.2 p (pcV v.h 2)).2.1=false then (false,(hfH (hfH v.h p v.h.pc).2.2 p (pcV v.h 2)).2.2,g)
  else (true,(hfH (hfH v.h p v.h.pc).2.2 p (pcV v.h 2)).2.2,{ g with wd:=ze1 (hfH (hfH v.h p v.h.pc).2.2 p (pcV v.h 2)).1 (hfH v.h p v.h.pc).1,np:=pcV v.h 4 })
theorem zmH (B z k:Nat) (T:Nat→Prop) (v:Mc) (p:Pt) (g:Wk) (W:World) (K:St W B z k T v p g) (ok:POk v p) (hpc:Al.U64 v.h.pc) (n:Int) (h1:Hart) (hf:hfH v.h p v.h.pc=(n,false,h1)):Calls Tryz.prog 49 #[.pointer (some ⟨k,0,none⟩)] W fun e W'=>e=.returned (.bool false)∧Cw W W' B z k T (turn v h1) p g:=by
 have SX:=hid K;have CW:=hid (Cw.below K (Below.refl _ _));have C1:=hid (fun w (h:St w B z k T v p g)=>zeI v.h.pc h.ms h.hB h.up ok hpc.1 (U64.le (fn_u _ _ _ _ hpc)));rw [hf] at C1;have LPC:=hid (fun w (h:St w B z k T v p g)=>St.l_pc h);have HPC:=hid (show IntKind.u64.wrap (v.h.pc+2)=pcV v.h 2 from rfl);have HPC4:=hid (show IntKind.u64.wrap (v.h.pc+4)=pcV v.h 4 from rfl);clear K ok hpc hf;go_enter func49,ntmps49;go_wp2_with (first | (with_reducible first | refine zaa rfl rfl (KW.ptr SX.out.kw) rfl ?_ | refine zaa rfl rfl (LPC.out _ SX.out) rfl ?_ | refine zaa rfl rfl (KW.rg SX.out.kw) rfl ?_) | (go_at_call 72;(with_reducible refine (C1.out _ SX.out).mono ?_);rintro e wb ⟨rfl,kk⟩;have CW:=hid (CW.out.ch kk);have SX:=hid CW.out.1;clear kk));go_ret;exact ⟨rfl,CW.out⟩
theorem zwX (B z k:Nat) (T:Nat→Prop) (v:Mc) (p:Pt) (g:Wk) (W:World) (K:St W B z k T v p g) (ok:POk v p) (hpc:Al.U64 v.h.pc) (n:Nat) (hn:n<65536) (h1:Hart) (hf:hfH v.h p v.h.pc=((n:Int),true,h1)) (hs:Br.zdB n=true) (hw:Br.zbw n=0):Calls Tryz.prog 49 #[.pointer (some ⟨k,0,none⟩)] W fun e W'=>e=.returned (.bool false)∧Cw W W' B z k T (turn v (tkH h1 2 n)) p g:=by
 have SX:=hid K;have CW:=hid (Cw.below K (Below.refl _ _));have C1:=hid (fun w (h:St w B z k T v p g)=>zeI v.h.pc h.ms h.hB h.up ok hpc.1 (U64.le (fn_u _ _ _ _ hpc)));rw [hf] at C1;have LPC:=hid (fun w (h:St w B z k T v p g)=>St.l_pc h);have HPC:=hid (show IntKind.u64.wrap (v.h.pc+2)=pcV v.h 2 from rfl);have HPC4:=hid (show IntKind.u64.wrap (v.h.pc+4)=pcV v.h 4 from rfl);have CS:=hid (fun w=>hs ▸ Br.zgS n w);have CWd:=hid (fun w=>by have c:=Br.zAc n w hn;rw [hw] at c;exact c);have u1:IntKind.u16.wrap (n:Int)=(n:Int):=by rw [IntKind.wrap_u16];omega
 have u2:(n:Int) % 65536=(n:Int):=by omega
 clear K ok hpc hf hs hw hn;go_enter func49,ntmps49;go_wp2_with (first | (with_reducible first | refine zaa rfl rfl (KW.ptr SX.out.kw) rfl ?_ | refine zaa rfl rfl (LPC.out _ SX.out) rfl ?_ | refine zaa rfl rfl (KW.rg SX.out.kw) rfl ?_) | (go_at_call 72;(with_reducible refine (C1.out _ SX.out).mono ?_);rintro e wb ⟨rfl,kk⟩;have CW:=hid (CW.out.ch kk);have SX:=hid CW.out.1;clear kk) | ((first | (go_at_call 73;with_reducible refine (CS.out _).mono ?_) | (go_at_call 74;with_reducible refine (CWd.out _).mono ?_));rintro e w8 ⟨rfl,rfl⟩) | (go_at_call 75;(with_reducible refine (zea 2 n SX.out.ms).mono ?_);rintro e wb ⟨rfl,kk⟩;have CW:=hid (CW.out.ch kk);have SX:=hid CW.out.1;clear kk));go_ret;exact ⟨rfl,CW.out⟩
theorem zvv (B z k:Nat) (T:Nat→Prop) (v:Mc) (p:Pt) (g:Wk) (W:World) (K:St W B z k T v p g) (ok:POk v p) (hpc:Al.U64 v.h.pc) (n:Nat) (hn:n<65536) (h1:Hart) (hf:hfH v.h p v.h.pc=((n:Int),true,h1)) (hs:Br.zdB n=true) (hw:Br.zbw n≠0):Calls Tryz.prog 49 #[.pointer (some ⟨k,0,none⟩)] W fun e W'=>e=.returned (.bool true)∧Cw W W' B z k T (turn v h1) p { g with wd:=(Br.zbw n:Nat),np:=pcV v.h 2 }:=by
 have SX:=hid K;have CW:=hid (Cw.below K (Below.refl _ _));have C1:=hid (fun w (h:St w B z k T v p g)=>zeI v.h.pc h.ms h.hB h.up ok hpc.1 (U64.le (fn_u _ _ _ _ hpc)));rw [hf] at C1;have LPC:=hid (fun w (h:St w B z k T v p g)=>St.l_pc h);have HPC:=hid (show IntKind.u64.wrap (v.h.pc+2)=pcV v.h 2 from rfl);have HPC4:=hid (show IntKind.u64.wrap (v.h.pc+4)=pcV v.h 4 from rfl);have CS:=hid (fun w=>hs ▸ Br.zgS n w);have CWd:=hid (fun w=>Br.zir n w hn hw);generalize ((Br.zbw n:Nat):Int)=wv at CWd ⊢;have u1:IntKind.u16.wrap (n:Int)=(n:Int):=by rw [IntKind.wrap_u16];omega
 have u2:(n:Int) % 65536=(n:Int):=by omega
 clear K ok hpc hf hs hw hn;go_enter func49,ntmps49;go_upto_region 9 with (first | (with_reducible first | refine zaa rfl rfl (KW.ptr SX.out.kw) rfl ?_ | refine zaa rfl rfl (LPC.out _ SX.out) rfl ?_ | refine zaa rfl rfl (KW.rg SX.out.kw) rfl ?_) | (go_at_call 72;(with_reducible refine (C1.out _ SX.out).mono ?_);rintro e wb ⟨rfl,kk⟩;have CW:=hid (CW.out.ch kk);have SX:=hid CW.out.1;clear kk) | ((first | (go_at_call 73;with_reducible refine (CS.out _).mono ?_) | (go_at_call 74;with_reducible refine (CWd.out _).mono ?_));rintro e w8 ⟨rfl,rfl⟩))
 try rw [HPC.out]
 have K1:=hid SX.out.kw;have CX:=hid (SX.out.setwk { g with wd:=wv });have K2:=hid CX.out.1.kw;have CY:=hid (CX.out.1.setwk { g with wd:=wv,np:=pcV v.h 2 });have CZ:=hid ((CW.out.trans CX.out).trans CY.out);go_wp2_with (with_reducible first | refine zan rfl rfl (KW.setwd K1.out _) rfl rfl ?_ | refine zan rfl rfl (KW.setnp K2.out _) rfl rfl ?_);go_ret;exact ⟨rfl,CZ.out⟩
theorem ztL (B z k:Nat) (T:Nat→Prop) (v:Mc) (p:Pt) (g:Wk) (W:World) (K:St W B z k T v p g) (ok:POk v p) (hpc:Al.U64 v.h.pc) (n:Nat) (hn:n<65536) (h1:Hart) (hf:hfH v.h p v.h.pc=((n:Int),true,h1)) (hs:Br.zdB n=false) (n2:Int) (h2:Hart) (hf2:hfH h1 p (pcV v.h 2)=(n2,false,h2)):Calls Tryz.prog 49 #[.pointer (some ⟨k,0,none⟩)] W fun e W'=>e=.returned (.bool false)∧Cw W W' B z k T (turn v h2) p g:=by
 have SX:=hid K;have CW:=hid (Cw.below K (Below.refl _ _));have C1:=hid (fun w (h:St w B z k T v p g)=>zeI v.h.pc h.ms h.hB h.up ok hpc.1 (U64.le (fn_u _ _ _ _ hpc)));rw [hf] at C1;have LPC:=hid (fun w (h:St w B z k T v p g)=>St.l_pc h);have HPC:=hid (show IntKind.u64.wrap (v.h.pc+2)=pcV v.h 2 from rfl);have HPC4:=hid (show IntKind.u64.wrap (v.h.pc+4)=pcV v.h 4 from rfl);have CS:=hid (fun w=>hs ▸ Br.zgS n w);have C2:=hid (fun w (h:St w B z k T (turn v h1) p g)=>zeI (pcV v.h 2) h.ms h.hB h.up (ok.turn h1) (zaX _).1 (U64.le (fn_u _ _ _ _ (zaX _))));have e0:hfH (turn v h1).h p (pcV v.h 2)=hfH h1 p (pcV v.h 2):=rfl;rw [e0,hf2] at C2;rw [← HPC.out] at C2;clear e0;have u1:IntKind.u16.wrap (n:Int)=(n:Int):=by rw [IntKind.wrap_u16];omega
 have u2:(n:Int) % 65536=(n:Int):=by omega
 clear K ok hpc hf hf2 hs hn;go_enter func49,ntmps49;go_upto_region 11 with (first | (with_reducible first | refine zaa rfl rfl (KW.ptr SX.out.kw) rfl ?_ | refine zaa rfl rfl (LPC.out _ SX.out) rfl ?_ | refine zaa rfl rfl (KW.rg SX.out.kw) rfl ?_) | (go_at_call 72;(with_reducible refine (C1.out _ SX.out).mono ?_);rintro e wb ⟨rfl,kk⟩;have CW:=hid (CW.out.ch kk);have SX:=hid CW.out.1;clear kk) | (go_at_call 73;(with_reducible refine (CS.out _).mono ?_);rintro e w8 ⟨rfl,rfl⟩));go_wp2_with (first | (with_reducible refine zaa rfl rfl (KW.rg SX.out.kw) rfl ?_) | (go_at_call 72;(with_reducible refine (C2.out _ SX.out).mono ?_);rintro e wb ⟨rfl,kk⟩;have CW:=hid (CW.out.ch kk);have SX:=hid CW.out.1;clear kk));go_ret;exact ⟨rfl,CW.out⟩
theorem zp8 (B z k:Nat) (T:Nat→Prop) (v:Mc) (p:Pt) (g:Wk) (W:World) (K:St W B z k T v p g) (ok:POk v p) (hpc:Al.U64 v.h.pc) (n:Nat) (hn:n<65536) (h1:Hart) (hf:hfH v.h p v.h.pc=((n:Int),true,h1)) (hs:Br.zdB n=false) (n2:Nat) (hn2:n2<65536) (h2:Hart) (hf2:hfH h1 p (pcV v.h 2)=((n2:Int),true,h2)):Calls Tryz.prog 49 #[.pointer (some ⟨k,0,none⟩)] W fun e W'=>e=.returned (.bool true)∧Cw W W' B z k T (turn v h2) p { g with wd:=ze1 n2 n,np:=pcV v.h 4 }:=by
 have SX:=hid K;have CW:=hid (Cw.below K (Below.refl _ _));have C1:=hid (fun w (h:St w B z k T v p g)=>zeI v.h.pc h.ms h.hB h.up ok hpc.1 (U64.le (fn_u _ _ _ _ hpc)));rw [hf] at C1;have LPC:=hid (fun w (h:St w B z k T v p g)=>St.l_pc h);have HPC:=hid (show IntKind.u64.wrap (v.h.pc+2)=pcV v.h 2 from rfl);have HPC4:=hid (show IntKind.u64.wrap (v.h.pc+4)=pcV v.h 4 from rfl);have CS:=hid (fun w=>hs ▸ Br.zgS n w);have C2:=hid (fun w (h:St w B z k T (turn v h1) p g)=>zeI (pcV v.h 2) h.ms h.hB h.up (ok.turn h1) (zaX _).1 (U64.le (fn_u _ _ _ _ (zaX _))));have e0:hfH (turn v h1).h p (pcV v.h 2)=hfH h1 p (pcV v.h 2):=rfl;rw [e0,hf2] at C2;rw [← HPC.out] at C2;clear e0;have u1:IntKind.u16.wrap (n:Int)=(n:Int):=by rw [IntKind.wrap_u16];omega
 have u2:(n:Int) % 65536=(n:Int):=by omega
 have HLG:=hid (show IntKind.u32.wrap (bits .or .u64 (IntKind.u64.wrap ((n2:Int)*65536)) n)=ze1 n2 n from rfl);have s1:IntKind.u64.wrap ((n2:Int)*65536)=(n2:Int)*65536:=by rw [IntKind.wrap_u64];omega
 have HS1:=hid s1;clear K ok hpc hf hf2 hs hn hn2 s1;go_enter func49,ntmps49;go_upto_region 14 with (first | (with_reducible first | refine zaa rfl rfl (KW.ptr SX.out.kw) rfl ?_ | refine zaa rfl rfl (LPC.out _ SX.out) rfl ?_ | refine zaa rfl rfl (KW.rg SX.out.kw) rfl ?_) | (go_at_call 72;(with_reducible refine (C1.out _ SX.out).mono ?_);rintro e wb ⟨rfl,kk⟩;have CW:=hid (CW.out.ch kk);have SX:=hid CW.out.1;clear kk) | (go_at_call 73;(with_reducible refine (CS.out _).mono ?_);rintro e w8 ⟨rfl,rfl⟩) | (go_at_call 72;(with_reducible refine (C2.out _ SX.out).mono ?_);rintro e wb ⟨rfl,kk⟩;have CW:=hid (CW.out.ch kk);have SX:=hid CW.out.1;clear kk));have K1:=hid SX.out.kw;have CX:=hid (SX.out.setwk { g with wd:=ze1 n2 n });have K2:=hid CX.out.1.kw;have CY:=hid (CX.out.1.setwk { g with wd:=ze1 n2 n,np:=pcV v.h 4 });have CZ:=hid ((CW.out.trans CX.out).trans CY.out);go_wp2_with (with_reducible first | refine zan rfl rfl (KW.setwd K1.out _) rfl rfl ?_ | refine zan rfl rfl (KW.setnp K2.out _) rfl rfl ?_);go_ret;exact ⟨rfl,CZ.out⟩
theorem zmd (p:Pt) (t:Int):∃ n:Nat,n<65536∧(mmV p t 2).1=(n:Int):=by
 unfold mmV
 by_cases h1:t<2147483648
 ·rw [if_pos h1]
  exact ⟨0,by omega,rfl⟩
 rw [if_neg h1]
 by_cases h2:stE p.D.length t 2=0
 ·rw [if_pos h2]
  show ∃ n:Nat,n<65536∧ldV p.D t 2=(n:Int)
  unfold ldV
  by_cases h3:stB p.D.length t 2=true
  ·rw [if_pos h3]
   refine ⟨_,?_,rfl⟩
   refine Nat.lt_of_lt_of_le (zid _) ?_
   rw [show (65536:Nat)=256 ^ 2 by rfl];refine Nat.pow_le_pow_right (by omega) ?_
   rw [List.length_take];exact Nat.min_le_left _ _
  ·rw [if_neg h3]
   exact ⟨0,by omega,rfl⟩
 ·rw [if_neg h2]
  exact ⟨0,by omega,rfl⟩
theorem zh6 (h:Hart) (p:Pt) (t:Int):∃ n:Nat,n<65536∧(hfH h p t).1=(n:Int):=by
 unfold hfH
 split
 ·exact ⟨0,by omega,rfl⟩
 ·split
  ·exact zmd p _
  ·exact ⟨0,by omega,rfl⟩
theorem zge (B z k:Nat) (T:Nat→Prop) (v:Mc) (p:Pt) (g:Wk) (W:World) (K:St W B z k T v p g) (ok:POk v p) (hpc:Al.U64 v.h.pc):Calls Tryz.prog 49 #[.pointer (some ⟨k,0,none⟩)] W fun e W'=>e=.returned (.bool (ftR v p g).1)∧Cw W W' B z k T (turn v (ftR v p g).2.1) p (ftR v p g).2.2:=by
 obtain ⟨n,hn,en⟩:=zh6 v.h p v.h.pc;unfold ftR;rcases hf:hfH v.h p v.h.pc with ⟨n0,b,h1⟩
 rw [hf] at en;simp only at en ⊢;subst en;cases b with
 | false =>
  rw [if_pos rfl];exact zmH B z k T v p g W K ok hpc _ h1 hf
 | true =>
  rw [if_neg (by decide),Int.toNat_natCast];rcases Bool.eq_false_or_eq_true (Br.zdB n) with hs | hs
  ·rw [if_pos hs]
   by_cases hw:Br.zbw n=0
   ·rw [if_pos hw]
    exact zwX B z k T v p g W K ok hpc n hn h1 hf hs hw
   ·rw [if_neg hw]
    exact zvv B z k T v p g W K ok hpc n hn h1 hf hs hw
  ·rw [if_neg (by rw [hs];decide)]
   obtain ⟨n2,hn2,en2⟩:=zh6 h1 p (pcV v.h 2);rcases hf2:hfH h1 p (pcV v.h 2) with ⟨n3,b2,h2⟩
   rw [hf2] at en2;simp only at en2 ⊢;subst en2;cases b2 with
   | false =>
    rw [if_pos rfl];exact ztL B z k T v p g W K ok hpc n hn h1 hf hs _ h2 hf2
   | true =>
    rw [if_neg (by decide)];exact zp8 B z k T v p g W K ok hpc n hn h1 hf hs n2 hn2 h2 hf2
end Go.Proofs.YtplcfdnfeclpmaaGreatDoor
