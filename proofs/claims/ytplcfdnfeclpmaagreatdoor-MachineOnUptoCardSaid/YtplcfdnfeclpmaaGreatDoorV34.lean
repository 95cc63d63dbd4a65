/- MachineOn, part 34. -/
import Derived.Test.YtplcfdnfeclpmaaGreatDoorV33
set_option maxHeartbeats 4000000
set_option maxRecDepth 100000
open Go.Lib (hid)
namespace Go.Proofs.YtplcfdnfeclpmaaGreatDoor
open Go.RowKit Go.Deep Go.Joins
theorem POk.re {m:Mc} {p:Pt} (h:POk m p) (q:Option Addr) (n c:Nat) (dv mv ov:Value):POk (reM m q n c dv mv ov) p:=⟨⟨h.bd.addr,h.bd.nicA,h.bd.sector⟩,h.c,h.fz,h.fl,h.dl,h.ml⟩
theorem POk.turn {m:Mc} {p:Pt} (h:POk m p) (x:Hart):POk (turn m x) p:=⟨⟨h.bd.addr,h.bd.nicA,h.bd.sector⟩,h.c,h.fz,h.fl,h.dl,h.ml⟩
section
variable {W : World} {B z k : Nat} {T : Nat → Prop} {v : Mc} {p : Pt} {g : Wk}
theorem ld_s (t s:Int) (K:Ms W B z v p T) (hB:B≤W.heap.size) (up:∀ x,W.heap.size≤x→T x) (ok:POk v p) (h0:0≤t) (h1:t≤18446744073709551615):Calls Tryz.prog 103 #[.pointer (some ⟨z,0,none⟩),.int .u64 t,.int .i64 s] W fun e W'=>e=.returned (.tuple #[.int .u64 (ldM v p t s).2.2.1,.bool (ldM v p t s).2.2.2])∧Ch W W' B z T (ldM v p t s).1 (ldM v p t s).2.1:=by
 obtain ⟨m,s1,s2,s3⟩:=K;have e:=s1.re;have ls:=zwk v p t s m.b.fp m.b.fn m.b.fc m.dv m.mv m.ov;have okm:POk m p:=by rw [e];exact ok.re _ _ _ _ _ _
 rw [← e] at ls;obtain ⟨l1,l2⟩:=ls;refine (zzs z B m p t s W s2 hB okm h0 h1).mono ?_
 rintro e W' ⟨rfl,d⟩
 rw [l1] at d ⊢;exact ⟨rfl,d.ch l2 s3 up⟩
theorem st_s (t s x:Int) (K:Ms W B z v p T) (hB:B≤W.heap.size) (up:∀ x,W.heap.size≤x→T x) (ok:POk v p) (hO:(p.O.length+1)*32≤140737488355328) (ht:0≤t∧t≤18446744073709551615) (hx:0≤x∧x≤18446744073709551615):Calls Tryz.prog 106 #[.pointer (some ⟨z,0,none⟩),.int .u64 t,.int .i64 s,.int .u64 x] W fun e W'=>e=.returned (.bool (stM v p t s x).2.2)∧Ch W W' B z T (stM v p t s x).1 (stM v p t s x).2.1:=by
 obtain ⟨m,s1,s2,s3⟩:=K;have e:=s1.re;have ls:=zxd v p t s x m.b.fp m.b.fn m.b.fc m.dv m.mv m.ov;have okm:POk m p:=by rw [e];exact ok.re _ _ _ _ _ _
 rw [← e] at ls;obtain ⟨l1,l2⟩:=ls;refine (zwr z B m p t s x W s2 hB okm hO ht hx).mono ?_
 rintro e W' ⟨rfl,d⟩
 rw [l1] at d ⊢;exact ⟨rfl,d.ch l2 s3 up⟩
def mmV (p:Pt) (t s:Int):Int × Bool:=if t<2147483648 then (0,false) else if stE p.D.length t s=0 then (ldV p.D t s,true) else (0,false)
theorem zot (v:Mc) (p:Pt) (t s:Int) (h:2147483648≤t):ldM v p t s=(v,p,mmV p t s):=by
 have ho:ofB t=false:=by unfold ofB;rw [Bool.and_eq_false_iff];right;exact decide_eq_false (by omega)
 have hl:(ldF v.b p.F t s v.cnt).2.2.2=false:=by
  unfold ldF;rw [if_neg (by omega),if_neg (by omega),if_neg (by omega),if_neg (by omega),if_neg (by omega),if_neg (by omega),if_neg (by omega),if_neg (by omega),if_neg (by omega),if_neg (by omega),if_neg (by omega),if_neg (by omega)]
 unfold ldM mmV;rw [ho,hl,if_neg (by omega:¬ t<2147483648)]
 by_cases hs:stE p.D.length t s=0
 ·rw [if_pos hs,if_pos hs]
 ·rw [if_neg hs,if_neg hs]
  rfl
theorem lift {f:FuncId} {args:Array Value} {r:Value} {h':Hart} (K:Ms W B z v p T) (H:∀ m,MBox W z m→m.h=v.h→DAt W m.dv p.D→Calls Tryz.prog f args W fun e W'=>e=.returned r∧Chg W W' z (turn m h')):Calls Tryz.prog f args W fun e W'=>e=.returned r∧Ch W W' B z T (turn v h') p:=by
 obtain ⟨m,s1,s2,s3⟩:=K;refine (H m s2.box s1.h s2.rd.d).mono ?_
 rintro e W' ⟨rfl,c⟩
 exact ⟨rfl,c.ch s1 s2 s3⟩
theorem zea (c x:Int) (K:Ms W B z v p T):Calls Tryz.prog 75 #[rgV z,.int .i64 c,.int .u64 x] W fun e W'=>e=.returned (.bool false)∧Ch W W' B z T (turn v (tkH v.h c x)) p:=lift K fun m b e _=>by rw [← e];exact zj8 z m c x W b
theorem zkM (n x:Int) (K:Ms W B z v p T) (hr:0≤n∧n<32):Calls Tryz.prog 100 #[rgV z,.int .i64 n,.int .u64 x] W fun e W'=>e=.returned (.tuple #[])∧Ch W W' B z T (turn v (putH v.h n x)) p:=lift K fun m b e _=>by rw [← e];exact zvE z m n x W b hr
theorem zf7 (K:Ms W B z v p T):Calls Tryz.prog 107 #[rgV z] W fun e W'=>e=.returned (.tuple #[])∧Ch W W' B z T (turn v (relH v.h)) p:=lift K fun m b e _=>by rw [← e];exact znD z m W b
theorem zdj (t kind:Int) (K:Ms W B z v p T) (h0:0≤t):Calls Tryz.prog 96 #[rgV z,.int .u64 t,.int .i64 kind] W fun e W'=>e=.returned (.tuple #[.int .u64 (fnH v.h p.D t kind).1,.bool (fnH v.h p.D t kind).2.1])∧Ch W W' B z T (turn v (fnH v.h p.D t kind).2.2) p:=lift K fun m b e d=>by
 rw [← e]
 by_cases hr:(Wk.zbr p.D m.h.c.s0 m.h.c.s15 m.h.mode t kind).2=-1
 ·exact zlS z m p.D t kind W b d h0 hr
 ·exact zmG z m p.D t kind W b d h0 hr
end
theorem zgG {W:World} {B z:Nat} {T:Nat→Prop} {v:Mc} {p:Pt} (t s:Int) (K:Ms W B z v p T) (hB:B≤W.heap.size) (up:∀ x,W.heap.size≤x→T x) (ok:POk v p) (h0:0≤t) (h1:t≤18446744073709551615):Calls Tryz.prog 97 #[rgV z,.int .u64 t,.int .i64 s] W fun e W'=>e=.returned (.tuple #[.int .u64 (mmV p t s).1,.bool (mmV p t s).2])∧Ch W W' B z T v p:=by
 by_cases hlo:t<2147483648
 ·have e1:mmV p t s=(0,false):=by unfold mmV;rw [if_pos hlo]
  have g0:decide (t<2147483648)=true:=decide_eq_true hlo;rw [e1];have X0:=hid (Ch.below K (zag W (rgO z)));clear K up ok h0 h1 hlo e1;go_enter Tryz.func97,Tryz.ntmps97;go_wp2_with fail;go_ret2;exact ⟨rfl,X0.out⟩
 ·have g0:decide (t<2147483648)=false:=decide_eq_false hlo
  have C1:=hid (fun w (h:Below W.heap.size W w)=>by
   have c:=ld_s t s (K.next h) (Nat.le_trans hB h.size) (fun x hx=>up x (Nat.le_trans h.size hx)) ok h0 h1;rw [zot v p t s (by omega)] at c;exact c)
  have X0:=hid (zag W (rgO z));have K0:=hid (heap_alloc_last W (rgO z));generalize mmV p t s=r at C1 ⊢;clear K up ok h0 h1 hlo hB;go_enter Tryz.func97,Tryz.ntmps97;go_upto_region 1 with (fail);generalize W.alloc (.cells (rgC z) 77)=wa at X0 K0 ⊢;have C2:=hid (C1.out _ X0.out);go_wp2_with (first | (with_reducible refine zaa rfl rfl (zdF K0.out) rfl ?_) | (go_at_call 103;(with_reducible refine C2.out.mono ?_);rintro e wb ⟨rfl,kk⟩;have KK:=hid kk;clear kk));go_ret2;exact ⟨rfl,KK.out.before (zcr X0.out _)⟩
def hfH (h:Hart) (p:Pt) (t:Int):Int × Bool × Hart :=
 if (fnH h p.D t 0).2.1=false then (0,false,(fnH h p.D t 0).2.2) else
 if (mmV p (fnH h p.D t 0).1 2).2=true then ((mmV p (fnH h p.D t 0).1 2).1,true,(fnH h p.D t 0).2.2)
 else (0,false,tkH (fnH h p.D t 0).2.2 1 t)
structure Bx (w:World) (B z bx:Nat) (T:Nat→Prop) (v:Mc) (p:Pt):Prop where
 ms:Ms w B z v p T
 hB:B≤w.heap.size
 up:∀ x,w.heap.size≤x→T x
 cell:w.heap[bx]?=some (rgO z)
 nb:¬ T bx
section
variable {W w w' : World} {B z k bx : Nat} {T : Nat → Prop} {v v' : Mc} {p p' : Pt} {g : Wk}
theorem Bx.start (K:Ms W B z v p T) (hB:B≤W.heap.size) (up:∀ x,W.heap.size≤x→T x):Bx (W.alloc (rgO z)) B z W.heap.size (fun x=>T x∧x≠W.heap.size) v p:=by
 obtain ⟨m,s1,s2,s3⟩:=K;have hb:=zag W (rgO z);refine ⟨⟨m,s1,s2.next hb,fun x hx=>⟨s3 x hx,fun e=>?_⟩⟩,Nat.le_trans hB hb.size,fun x hx=>⟨up x (Nat.le_trans hb.size hx),fun e=>?_⟩,heap_alloc_last W (rgO z),fun h=>h.2 rfl⟩
 ·have:=(s2.lt hx).2;omega
 ·simp only [World.size_alloc] at hx;omega
theorem Bx.ch (h:Bx w B z bx T v p) (c:Ch w w' B z T v' p'):Bx w' B z bx T v' p':=⟨c.1,Nat.le_trans h.hB c.2.size,fun x hx=>h.up x (Nat.le_trans c.2.size hx),(c.2.block bx (Array.getElem?_eq_some_iff.1 h.cell).1 h.nb).trans h.cell,h.nb⟩
theorem Bx.done {N:Nat} (c:Ch (W.alloc (rgO z)) w' B z (fun x=>T x∧x≠N) v p):Ch W w' B z T v p :=
 ⟨c.1.mono fun _ h=>h.1,(zcr (zag W (rgO z)) T).trans (c.2.mono fun _ _ h=>h.1)⟩
end
theorem zms {W:World} {B z:Nat} {T:Nat→Prop} {v:Mc} {p:Pt} (t:Int) (K:Ms W B z v p T) (hB:B≤W.heap.size) (up:∀ x,W.heap.size≤x→T x) (h0:0≤t) (r:Int × Bool × Hart) (hr:fnH v.h p.D t 0=r) (hpl:0≤r.1∧r.1≤18446744073709551615) (hb:r.2.1=false):Calls Tryz.prog 72 #[rgV z,.int .u64 t] W fun e W'=>e=.returned (.tuple #[.int .u64 0,.bool false])∧Ch W W' B z T (turn v r.2.2) p:=by
 obtain ⟨pl,b,h1⟩:=r;simp only at hb;subst hb;have XB:=hid (Bx.start K hB up);have C1:=hid (zdj t 0 XB.out.ms h0);rw [hr] at C1;simp only at hpl;have FIN:=hid (fun (w':World) (v':Mc) (c:Ch (W.alloc (rgO z)) w' B z (fun x=>T x∧x≠W.heap.size) v' p)=>Bx.done c);clear K hB up h0 hr hpl;go_enter Tryz.func72,Tryz.ntmps72;go_upto_region 1 with (fail);generalize W.alloc (.cells (rgC z) 77)=wa at XB C1 FIN ⊢;go_wp2_with (first | (with_reducible refine zaa rfl rfl (zgR XB.out.cell) rfl ?_) | (go_at_call 96;(with_reducible refine C1.out.mono ?_);rintro e wb ⟨rfl,kk⟩;have KK:=hid kk;have XB:=hid (XB.out.ch kk);clear kk));go_ret2;exact ⟨rfl,FIN.out _ _ KK.out⟩
theorem zt7 {W:World} {B z:Nat} {T:Nat→Prop} {v:Mc} {p:Pt} (t:Int) (K:Ms W B z v p T) (hB:B≤W.heap.size) (up:∀ x,W.heap.size≤x→T x) (ok:POk v p) (h0:0≤t) (r:Int × Bool × Hart) (hr:fnH v.h p.D t 0=r) (hpl:0≤r.1∧r.1≤18446744073709551615) (hb:r.2.1=true) (hm:(mmV p r.1 2).2=true):Calls Tryz.prog 72 #[rgV z,.int .u64 t] W fun e W'=>e=.returned (.tuple #[.int .u64 (mmV p r.1 2).1,.bool true])∧Ch W W' B z T (turn v r.2.2) p:=by
 obtain ⟨pl,b,h1⟩:=r;simp only at hb hm;subst hb;have XB:=hid (Bx.start K hB up);have C1:=hid (zdj t 0 XB.out.ms h0);rw [hr] at C1;simp only at hpl;have FIN:=hid (fun (w':World) (v':Mc) (c:Ch (W.alloc (rgO z)) w' B z (fun x=>T x∧x≠W.heap.size) v' p)=>Bx.done c);have OK1:=hid (POk.turn ok h1);have HP:=hid hpl;clear K hB up ok h0 hr hpl;show Calls Tryz.prog _ _ _ fun e W'=>e=.returned (.tuple #[.int .u64 (mmV p pl 2).1,.bool true])∧Ch W W' B z T (turn v h1) p
 have C2:=hid (fun (w:World) (K:Ms w B z (turn v h1) p (fun x=>T x∧x≠W.heap.size)) (a:B≤w.heap.size) (b:∀ x,w.heap.size≤x→(T x∧x≠W.heap.size))=>zgG pl 2 K a b OK1.out HP.out.1 HP.out.2);generalize mmV p pl 2=mv at C2 hm ⊢;obtain ⟨mv,mb⟩:=mv;simp only at hm;subst hm;go_enter Tryz.func72,Tryz.ntmps72;go_upto_region 1 with (fail);generalize W.alloc (.cells (rgC z) 77)=wa at XB C1 FIN ⊢;go_wp2_with (first | (with_reducible refine zaa rfl rfl (zgR XB.out.cell) rfl ?_) | (go_at_call 96;(with_reducible refine C1.out.mono ?_);rintro e wb ⟨rfl,kk⟩;have KK:=hid kk;have XB:=hid (XB.out.ch kk);clear kk) | (go_at_call 97;(with_reducible refine (C2.out _ XB.out.ms XB.out.hB XB.out.up).mono ?_);rintro e wc ⟨rfl,kk⟩;have KK:=hid (kk.before KK.out.2);have XB:=hid (XB.out.ch kk);clear kk));go_ret2;exact ⟨rfl,FIN.out _ _ KK.out⟩
theorem zxb {W:World} {B z:Nat} {T:Nat→Prop} {v:Mc} {p:Pt} (t:Int) (K:Ms W B z v p T) (hB:B≤W.heap.size) (up:∀ x,W.heap.size≤x→T x) (ok:POk v p) (h0:0≤t) (r:Int × Bool × Hart) (hr:fnH v.h p.D t 0=r) (hpl:0≤r.1∧r.1≤18446744073709551615) (hb:r.2.1=true) (hm:(mmV p r.1 2).2=false):Calls Tryz.prog 72 #[rgV z,.int .u64 t] W fun e W'=>e=.returned (.tuple #[.int .u64 0,.bool false])∧Ch W W' B z T (turn v (tkH r.2.2 1 t)) p:=by
 obtain ⟨pl,b,h1⟩:=r;simp only at hb hm;subst hb;have XB:=hid (Bx.start K hB up);have C1:=hid (zdj t 0 XB.out.ms h0);rw [hr] at C1;simp only at hpl;have FIN:=hid (fun (w':World) (v':Mc) (c:Ch (W.alloc (rgO z)) w' B z (fun x=>T x∧x≠W.heap.size) v' p)=>Bx.done c);have OK1:=hid (POk.turn ok h1);have HP:=hid hpl;clear K hB up ok h0 hr hpl;show Calls Tryz.prog _ _ _ fun e W'=>e=.returned (.tuple #[.int .u64 0,.bool false])∧Ch W W' B z T (turn v (tkH h1 1 t)) p
 have C2:=hid (fun (w:World) (K:Ms w B z (turn v h1) p (fun x=>T x∧x≠W.heap.size)) (a:B≤w.heap.size) (b:∀ x,w.heap.size≤x→(T x∧x≠W.heap.size))=>zgG pl 2 K a b OK1.out HP.out.1 HP.out.2);generalize mmV p pl 2=mv at C2 hm ⊢;obtain ⟨mv,mb⟩:=mv;simp only at hm;subst hm;go_enter Tryz.func72,Tryz.ntmps72;go_upto_region 1 with (fail);generalize W.alloc (.cells (rgC z) 77)=wa at XB C1 FIN ⊢;go_wp2_with (first | (with_reducible refine zaa rfl rfl (zgR XB.out.cell) rfl ?_) | (go_at_call 96;(with_reducible refine C1.out.mono ?_);rintro e wb ⟨rfl,kk⟩;have KK:=hid kk;have XB:=hid (XB.out.ch kk);clear kk) | (go_at_call 97;(with_reducible refine (C2.out _ XB.out.ms XB.out.hB XB.out.up).mono ?_);rintro e wc ⟨rfl,kk⟩;have KK:=hid (kk.before KK.out.2);have XB:=hid (XB.out.ch kk);clear kk) | (go_at_call 75;(with_reducible refine (zea 1 t XB.out.ms).mono ?_);rintro e wd ⟨rfl,kk⟩;have KK:=hid (kk.before KK.out.2);clear kk));go_ret2;exact ⟨rfl,FIN.out _ _ KK.out⟩
theorem zeI {W:World} {B z:Nat} {T:Nat→Prop} {v:Mc} {p:Pt} (t:Int) (K:Ms W B z v p T) (hB:B≤W.heap.size) (up:∀ x,W.heap.size≤x→T x) (ok:POk v p) (h0:0≤t) (hpl:0≤(fnH v.h p.D t 0).1∧(fnH v.h p.D t 0).1≤18446744073709551615):Calls Tryz.prog 72 #[rgV z,.int .u64 t] W fun e W'=>e=.returned (.tuple #[.int .u64 (hfH v.h p t).1,.bool (hfH v.h p t).2.1])∧Ch W W' B z T (turn v (hfH v.h p t).2.2) p:=by
 unfold hfH;rcases Bool.eq_false_or_eq_true (fnH v.h p.D t 0).2.1 with hb | hb
 ·rw [if_neg (by rw [hb];decide)]
  rcases Bool.eq_false_or_eq_true (mmV p (fnH v.h p.D t 0).1 2).2 with hm | hm
  ·rw [if_pos hm]
   exact zt7 t K hB up ok h0 (fnH v.h p.D t 0) rfl hpl hb hm
  ·rw [if_neg (by rw [hm];decide)]
   exact zxb t K hB up ok h0 (fnH v.h p.D t 0) rfl hpl hb hm
 ·rw [if_pos hb]
  exact zms t K hB up h0 (fnH v.h p.D t 0) rfl hpl hb
end Go.Proofs.YtplcfdnfeclpmaaGreatDoor
