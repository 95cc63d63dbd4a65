/- MachineOn, part 41. -/
import Derived.Test.YtplcfdnfeclpmaaGreatDoorV40
set_option maxHeartbeats 4000000
set_option maxRecDepth 100000
open Go.Lib (hid)
open Go Go.RowKit Go.Deep Go.Joins Go.Proofs.Tryz
namespace Go.Proofs.YtplcfdnfeclpmaaGreatDoor
def zc6 (h:Hart):Hart × Bool:=if h.mode=3 then (Tr.zd6 h,true) else (h,false)
def zc0 (h:Hart):Hart × Bool:=if h.mode<1 then (h,false) else (Tr.zeb h,true)
theorem zzy (h:Hart) (W:World):TB 87 #[zat h] W (.tuple #[zat (zc6 h).1,.bool (zc6 h).2]):=by
 unfold zc6
 by_cases hm:h.mode=3
 ·rw [if_pos hm]
  have hm':(h.mode != 3)=false:=by rw [bne_eq_false_iff_eq];exact hm
  rcases Bool.eq_false_or_eq_true (Tr.mppV h.c.s0 != 3) with hq | hq
  ·exact Tr.zzk h hm' hq W
  ·exact Tr.zpF h hm' hq W
 ·rw [if_neg hm]
  exact Tr.zs2 h (bne_iff_ne.2 hm) W
theorem zr2 (h:Hart) (W:World):TB 88 #[zat h] W (.tuple #[zat (zc0 h).1,.bool (zc0 h).2]):=by
 unfold zc0
 by_cases hm:h.mode<1
 ·rw [if_pos hm]
  exact Tr.zw9 h hm W
 ·rw [if_neg hm]
  rcases Bool.eq_false_or_eq_true (Tr.nzV h.c.s0 256) with hq | hq
  ·exact Tr.zs8 h hm hq W
  ·exact Tr.zqP h hm hq W
noncomputable def doR (v:Mc) (p:Pt) (g:Wk):Bool × Mc × Pt × Wk :=
 if g.o=1 then (true,turn v (putH v.h g.r (uImm g.i)),p,g) else
 if g.o=2 then (true,turn v (putH v.h g.r (pcV v.h (uImm g.i))),p,g) else
 if g.o=3 then (true,turn v (putH v.h g.r g.np),p,{ g with np:=pcV v.h (uImm g.i) }) else
 if g.o=4 then (true,turn v (putH v.h g.r g.np),p,{ g with np:=bits .andNot .u64 (adV v g) 1 }) else
 if g.o∈([5,6,7,8,9,10]:List Int) then (true,v,p,brG v g) else
 if g.o∈([11,12,13,14,15,16,17]:List Int) then ((ldR v p g).1,(ldR v p g).2.1,(ldR v p g).2.2,g) else
 if g.o∈([18,19,20,21]:List Int) then ((stR v p g).1,(stR v p g).2.1,(stR v p g).2.2,g) else
 if g.o∈([50,51,97]:List Int) then (true,v,p,g) else
 if g.o=98 then (if v.h.mode=0 then (false,turn v (noH v.h g),p,g) else (true,v,p,g)) else
 if g.o∈([54,55,56,57,58,59]:List Int) then ((ctR v g).1,turn v (ctR v g).2,p,g) else
 if g.o=52 then (false,turn v (tkH v.h (IntKind.i64.wrap (8+v.h.mode)) 0),p,g) else
 if g.o=53 then (false,turn v (tkH v.h 3 v.h.pc),p,g) else
 if g.o=95 then (false,turn v (if (zc6 v.h).2=true then (zc6 v.h).1 else noH v.h g),p,g) else
 if g.o=96 then (false,turn v (if (zc0 v.h).2=true then (zc0 v.h).1 else noH v.h g),p,g) else
 if g.o∈([73,74,75,76,77,78,79,80,81,82,83,84,85,86,87,88,89,90,91,92,93,94]:List Int) then ((atR v p g (zcP g.o)).1,(atR v p g (zcP g.o)).2.1,(atR v p g (zcP g.o)).2.2,g) else
 (true,turn v (putH v.h g.r (sumV v g)),p,g)
theorem zmL (B z k:Nat) (T:Nat→Prop) (v:Mc) (p:Pt) (g:Wk) (W:World) (K:St W B z k T v p g) (hr:Rgs g) (ho:g.o=1):Calls Tryz.prog 51 #[.pointer (some ⟨k,0,none⟩)] W fun e W'=>e=.returned (.bool true)∧Cw W W' B z k T (turn v (putH v.h g.r (uImm g.i))) p g:=by
 have SX:=hid K;have CW:=hid (Cw.below K (Below.refl _ _));have HR:=hid hr;have HOP:=hid ((KW.op K.kw).trans (by rw [ho]));clear K ho hr;go_enter func51,ntmps51;go_wp2_with (first | (with_reducible refine zaa rfl rfl HOP.out rfl ?_) | (go_at_call 79;(with_reducible refine (zdh z k g _ SX.out.kw).mono ?_);rintro e w8 ⟨rfl,rfl⟩) | (go_at_call 78;(with_reducible refine (zdb B z k T v p g _ SX.out _ HR.out.1).mono ?_);rintro e wb ⟨rfl,kk⟩;have CW:=hid (CW.out.trans kk);have SX:=hid CW.out.1;clear kk));go_ret;exact ⟨rfl,CW.out⟩
theorem zAp (B z k:Nat) (T:Nat→Prop) (v:Mc) (p:Pt) (g:Wk) (W:World) (K:St W B z k T v p g) (hr:Rgs g) (ho:g.o=2):Calls Tryz.prog 51 #[.pointer (some ⟨k,0,none⟩)] W fun e W'=>e=.returned (.bool true)∧Cw W W' B z k T (turn v (putH v.h g.r (pcV v.h (uImm g.i)))) p g:=by
 have SX:=hid K;have CW:=hid (Cw.below K (Below.refl _ _));have HR:=hid hr;have HPU:=hid (fun (n x:Int)=>show (putH v.h n x).pc=v.h.pc from by unfold putH;split <;> rfl);have HOP:=hid ((KW.op K.kw).trans (by rw [ho]));clear K ho hr;go_enter func51,ntmps51;go_upto_region 5 with (with_reducible refine zaa rfl rfl HOP.out rfl ?_);refine dr (fun w=>∃ (u:Mc) (q:Wk),St w B z k T u p q∧u.h.pc=v.h.pc) fun wz hzz=>?_
 have CW:=hid (CW.out.trans (Cw.below SX.out hzz));have SX:=hid CW.out.1;clear hzz;have hS:=(⟨_,_,SX.out,rfl⟩:∃ (u:Mc) (q:Wk),St _ B z k T u p q∧u.h.pc=v.h.pc);refine tk 0 hS ?_
 refine tk 1 hS ?_
 refine tk 2 hS ?_
 refine tk 3 hS ?_
 refine tk 4 hS ?_
 refine tl 5 hS (fun w hw=>KW.ptr hw.choose_spec.choose_spec.1.kw) ?_
 refine tk 6 hS ?_
 refine tk 7 hS ?_
 refine tk 8 hS ?_
 refine tl 9 hS (fun w hw=>(St.l_pc hw.choose_spec.choose_spec.1).trans (by rw [hw.choose_spec.choose_spec.2])) ?_
 refine tk 10 hS ?_
 refine hc 11 (zdn (zdh z k g _ SX.out.kw)) ?_
 rintro v' wb ⟨rfl,rfl⟩
 refine ⟨hS,fun hS=>?_⟩
 simp only [puts];refine tk 12 hS ?_
 refine hc 13 (zbC (zdb B z k T v p g _ SX.out (pcV v.h (uImm g.i)) HR.out.1)) ?_
 rintro v' wb ⟨rfl,kk⟩
 have CW:=hid (CW.out.trans kk);have SX:=hid CW.out.1;clear kk;refine ⟨⟨_,_,SX.out,HPU.out _ _⟩,fun hS=>?_⟩
 simp only [puts];refine tk 14 hS ?_
 refine wpAnyH_done (by kernel_rfl) ?_ _
 go_wp2_with fail;go_ret;exact ⟨rfl,CW.out⟩
theorem zyQ (B z k:Nat) (T:Nat→Prop) (v:Mc) (p:Pt) (g:Wk) (W:World) (K:St W B z k T v p g) (hr:Rgs g) (ho:g.o=3):Calls Tryz.prog 51 #[.pointer (some ⟨k,0,none⟩)] W fun e W'=>e=.returned (.bool true)∧Cw W W' B z k T (turn v (putH v.h g.r g.np)) p { g with np:=pcV v.h (uImm g.i) }:=by
 have SX:=hid K;have CW:=hid (Cw.below K (Below.refl _ _));have HR:=hid hr;have HPU:=hid (fun (n x:Int)=>show (putH v.h n x).pc=v.h.pc from by unfold putH;split <;> rfl);have HOP:=hid ((KW.op K.kw).trans (by rw [ho]));clear K ho hr;go_enter func51,ntmps51;go_upto_region 7 with (with_reducible refine zaa rfl rfl HOP.out rfl ?_);refine dr (fun w=>∃ (u:Mc) (q:Wk),St w B z k T u p q∧u.h.pc=v.h.pc) fun wz hzz=>?_
 have CW:=hid (CW.out.trans (Cw.below SX.out hzz));have SX:=hid CW.out.1;clear hzz;have hS:=(⟨_,_,SX.out,rfl⟩:∃ (u:Mc) (q:Wk),St _ B z k T u p q∧u.h.pc=v.h.pc);refine tk 0 hS ?_
 refine tk 1 hS ?_
 refine tk 2 hS ?_
 refine tk 3 hS ?_
 refine tk 4 hS ?_
 refine tl 5 hS (fun w hw=>KW.ptr hw.choose_spec.choose_spec.1.kw) ?_
 refine tk 6 hS ?_
 refine tk 7 hS ?_
 refine tk 8 hS ?_
 refine tl 9 hS (fun w hw=>(St.l_pc hw.choose_spec.choose_spec.1).trans (by rw [hw.choose_spec.choose_spec.2])) ?_
 refine tk 10 hS ?_
 refine hc 11 (zdn (zdh z k g _ SX.out.kw)) ?_
 rintro v' wb ⟨rfl,rfl⟩
 refine ⟨hS,fun hS=>?_⟩
 simp only [puts];refine tk 12 hS ?_
 refine hc 13 (zbC (zkJ B z k T v p g _ SX.out (pcV v.h (uImm g.i)) HR.out.1)) ?_
 rintro v' wb ⟨rfl,kk⟩
 have CW:=hid (CW.out.trans kk);have SX:=hid CW.out.1;clear kk;refine ⟨⟨_,_,SX.out,HPU.out _ _⟩,fun hS=>?_⟩
 simp only [puts];refine tk 14 hS ?_
 refine wpAnyH_done (by kernel_rfl) ?_ _
 go_wp2_with fail;go_ret;exact ⟨rfl,CW.out⟩
theorem zu6 (B z k:Nat) (T:Nat→Prop) (v:Mc) (p:Pt) (g:Wk) (W:World) (K:St W B z k T v p g) (hr:Rgs g) (ho:g.o=4):Calls Tryz.prog 51 #[.pointer (some ⟨k,0,none⟩)] W fun e W'=>e=.returned (.bool true)∧Cw W W' B z k T (turn v (putH v.h g.r g.np)) p { g with np:=bits .andNot .u64 (adV v g) 1 }:=by
 have SX:=hid K;have CW:=hid (Cw.below K (Below.refl _ _));have HR:=hid hr;have HOP:=hid ((KW.op K.kw).trans (by rw [ho]));clear K ho hr;go_enter func51,ntmps51;go_wp2_with (first | (with_reducible refine zaa rfl rfl HOP.out rfl ?_) | (go_at_call 81;(with_reducible refine (zcW B z k T v p g _ SX.out HR.out.2.1).mono ?_);rintro e wb ⟨rfl,kk⟩;have CW:=hid (CW.out.trans (Cw.below SX.out kk));have SX:=hid CW.out.1;clear kk) | (go_at_call 79;(with_reducible refine (zdh z k g _ SX.out.kw).mono ?_);rintro e w8 ⟨rfl,rfl⟩) | (go_at_call 80;(with_reducible refine (zkJ B z k T v p g _ SX.out _ HR.out.1).mono ?_);rintro e wb ⟨rfl,kk⟩;have CW:=hid (CW.out.trans kk);clear kk));go_ret;exact ⟨rfl,CW.out⟩
theorem zsK (B z k:Nat) (T:Nat→Prop) (v:Mc) (p:Pt) (g:Wk) (W:World) (K:St W B z k T v p g) (hr:Rgs g) (ho:g.o∈([5,6,7,8,9,10]:List Int)):Calls Tryz.prog 51 #[.pointer (some ⟨k,0,none⟩)] W fun e W'=>e=.returned (.bool true)∧Cw W W' B z k T v p (brG v g):=by
 have SX:=hid K;have CW:=hid (Cw.below K (Below.refl _ _));have CB:=hid (znh B z k T v p g W K hr);generalize brG v g=gg at CB ⊢;simp only [List.mem_cons,List.not_mem_nil,or_false] at ho;rcases ho with ho | ho | ho | ho | ho | ho
 all_goals
  have HOP:=hid ((KW.op K.kw).trans (by rw [ho]));clear K ho hr;go_enter func51,ntmps51;go_wp2_with (first | (with_reducible refine zaa rfl rfl HOP.out rfl ?_) | (go_at_call 82;(with_reducible refine (CB.out).mono ?_);rintro e wb ⟨rfl,kk⟩;have CW:=hid kk;clear kk));go_ret;exact ⟨rfl,CW.out⟩
theorem zAI (B z k:Nat) (T:Nat→Prop) (v:Mc) (p:Pt) (g:Wk) (W:World) (K:St W B z k T v p g) (hr:Rgs g) (ok:POk v p) (ho:g.o∈([11,12,13,14,15,16,17]:List Int)):Calls Tryz.prog 51 #[.pointer (some ⟨k,0,none⟩)] W fun e W'=>e=.returned (.bool (ldR v p g).1)∧Cw W W' B z k T (ldR v p g).2.1 (ldR v p g).2.2 g:=by
 have SX:=hid K;have CW:=hid (Cw.below K (Below.refl _ _));have CB:=hid (znk B z k T v p g W K hr ok);generalize ldR v p g=gg at CB ⊢;simp only [List.mem_cons,List.not_mem_nil,or_false] at ho;rcases ho with ho | ho | ho | ho | ho | ho | ho
 all_goals
  have HOP:=hid ((KW.op K.kw).trans (by rw [ho]));clear K ho hr ok;go_enter func51,ntmps51;go_wp2_with (first | (with_reducible refine zaa rfl rfl HOP.out rfl ?_) | (go_at_call 83;(with_reducible refine (CB.out).mono ?_);rintro e wb ⟨rfl,kk⟩;have CW:=hid kk;clear kk));go_ret;exact ⟨rfl,CW.out⟩
theorem zqU (B z k:Nat) (T:Nat→Prop) (v:Mc) (p:Pt) (g:Wk) (W:World) (K:St W B z k T v p g) (hr:Rgs g) (ok:POk v p) (hO:(p.O.length+1)*32≤140737488355328) (hx:∀ (h:Hart),(fnH v.h p.D (adV v g) 2).2.2=h→Al.U64 (xV h g.b)) (ho:g.o∈([18,19,20,21]:List Int)):Calls Tryz.prog 51 #[.pointer (some ⟨k,0,none⟩)] W fun e W'=>e=.returned (.bool (stR v p g).1)∧Cw W W' B z k T (stR v p g).2.1 (stR v p g).2.2 g:=by
 have SX:=hid K;have CW:=hid (Cw.below K (Below.refl _ _));have CB:=hid (zt1 B z k T v p g W K hr ok hO hx);generalize stR v p g=gg at CB ⊢;simp only [List.mem_cons,List.not_mem_nil,or_false] at ho;rcases ho with ho | ho | ho | ho
 all_goals
  have HOP:=hid ((KW.op K.kw).trans (by rw [ho]));clear K ho hr ok hO hx;go_enter func51,ntmps51;go_wp2_with (first | (with_reducible refine zaa rfl rfl HOP.out rfl ?_) | (go_at_call 84;(with_reducible refine (CB.out).mono ?_);rintro e wb ⟨rfl,kk⟩;have CW:=hid kk;clear kk));go_ret;exact ⟨rfl,CW.out⟩
theorem zz2 (B z k:Nat) (T:Nat→Prop) (v:Mc) (p:Pt) (g:Wk) (W:World) (K:St W B z k T v p g) (ho:g.o∈([50,51,97]:List Int)):Calls Tryz.prog 51 #[.pointer (some ⟨k,0,none⟩)] W fun e W'=>e=.returned (.bool true)∧Cw W W' B z k T v p g:=by
 have SX:=hid K;have CW:=hid (Cw.below K (Below.refl _ _));simp only [List.mem_cons,List.not_mem_nil,or_false] at ho;rcases ho with ho | ho | ho
 all_goals
  have HOP:=hid ((KW.op K.kw).trans (by rw [ho]));clear K ho;go_enter func51,ntmps51;go_wp2_with (with_reducible refine zaa rfl rfl HOP.out rfl ?_);go_ret;exact ⟨rfl,CW.out⟩
theorem zpp (B z k:Nat) (T:Nat→Prop) (v:Mc) (p:Pt) (g:Wk) (W:World) (K:St W B z k T v p g) (hm:v.h.mode≠0) (ho:g.o=98):Calls Tryz.prog 51 #[.pointer (some ⟨k,0,none⟩)] W fun e W'=>e=.returned (.bool true)∧Cw W W' B z k T v p g:=by
 have SX:=hid K;have CW:=hid (Cw.below K (Below.refl _ _));have HMD:=hid (fun w (h:St w B z k T v p g)=>St.l_mode h);have g0:(v.h.mode != 0)=true:=bne_iff_ne.2 hm;generalize v.h.mode=md at HMD g0;have HOP:=hid ((KW.op K.kw).trans (by rw [ho]));clear K ho hm;go_enter func51,ntmps51;go_wp2_with (with_reducible first | refine zaa rfl rfl HOP.out rfl ?_ | refine zaa rfl rfl (KW.ptr SX.out.kw) rfl ?_ | refine zaa rfl rfl (HMD.out _ SX.out) rfl ?_);go_ret;exact ⟨rfl,CW.out⟩
theorem zye (B z k:Nat) (T:Nat→Prop) (v:Mc) (p:Pt) (g:Wk) (W:World) (K:St W B z k T v p g) (hm:v.h.mode=0) (ho:g.o=98):Calls Tryz.prog 51 #[.pointer (some ⟨k,0,none⟩)] W fun e W'=>e=.returned (.bool false)∧Cw W W' B z k T (turn v (noH v.h g)) p g:=by
 have SX:=hid K;have CW:=hid (Cw.below K (Below.refl _ _));have HMD:=hid (fun w (h:St w B z k T v p g)=>(St.l_mode h).trans (by rw [hm]));have HOP:=hid ((KW.op K.kw).trans (by rw [ho]));clear K ho hm;go_enter func51,ntmps51;go_wp2_with (first | (with_reducible first | refine zaa rfl rfl HOP.out rfl ?_ | refine zaa rfl rfl (KW.ptr SX.out.kw) rfl ?_ | refine zaa rfl rfl (HMD.out _ SX.out) rfl ?_) | (go_at_call 77;(with_reducible refine (ze3 B z k T v p g _ SX.out).mono ?_);rintro e wb ⟨rfl,kk⟩;have CW:=hid (CW.out.trans kk);have SX:=hid CW.out.1;clear kk));go_ret;exact ⟨rfl,CW.out⟩
theorem zno (B z k:Nat) (T:Nat→Prop) (v:Mc) (p:Pt) (g:Wk) (W:World) (K:St W B z k T v p g) (hr:Rgs g) (hc:Cs.RU v.h.c) (hn:Cs.U64 v.cnt) (hx:∀ was,Cs.U64 was→Cs.U64 (wrV v g was).1) (ho:g.o∈([54,55,56,57,58,59]:List Int)):Calls Tryz.prog 51 #[.pointer (some ⟨k,0,none⟩)] W fun e W'=>e=.returned (.bool (ctR v g).1)∧Cw W W' B z k T (turn v (ctR v g).2) p g:=by
 have SX:=hid K;have CW:=hid (Cw.below K (Below.refl _ _));have CB:=hid (zpr B z k T v p g W K hr hc hn hx);generalize ctR v g=gg at CB ⊢;simp only [List.mem_cons,List.not_mem_nil,or_false] at ho;rcases ho with ho | ho | ho | ho | ho | ho
 all_goals
  have HOP:=hid ((KW.op K.kw).trans (by rw [ho]));clear K ho hr hc hn hx;go_enter func51,ntmps51;go_wp2_with (first | (with_reducible refine zaa rfl rfl HOP.out rfl ?_) | (go_at_call 85;(with_reducible refine (CB.out).mono ?_);rintro e wb ⟨rfl,kk⟩;have CW:=hid kk;clear kk));go_ret;exact ⟨rfl,CW.out⟩
theorem zxo (B z k:Nat) (T:Nat→Prop) (v:Mc) (p:Pt) (g:Wk) (W:World) (K:St W B z k T v p g) (ho:g.o=52):Calls Tryz.prog 51 #[.pointer (some ⟨k,0,none⟩)] W fun e W'=>e=.returned (.bool false)∧Cw W W' B z k T (turn v (tkH v.h (IntKind.i64.wrap (8+v.h.mode)) 0)) p g:=by
 have SX:=hid K;have CW:=hid (Cw.below K (Below.refl _ _));have HOP:=hid ((KW.op K.kw).trans (by rw [ho]));clear K ho;go_enter func51,ntmps51;go_upto_region 44 with (with_reducible refine zaa rfl rfl HOP.out rfl ?_);refine dr (fun w=>KW w k z g) fun wz hzz=>?_
 have CW:=hid (CW.out.trans (Cw.below SX.out hzz));have SX:=hid CW.out.1;clear hzz;have hS:=SX.out.kw;refine tk 0 hS ?_
 refine tk 1 hS ?_
 refine tk 2 hS ?_
 refine tl 3 hS (fun w hw=>KW.rg hw) ?_
 refine tk 4 hS ?_
 refine tk 5 hS ?_
 refine tk 6 hS ?_
 refine tk 7 hS ?_
 refine tl 8 hS (fun w hw=>KW.ptr hw) ?_
 refine tk 9 hS ?_
 refine tk 10 hS ?_
 refine tk 11 hS ?_
 refine hl 12 (St.l_mode SX.out) hS ?_
 refine tk 13 hS ?_
 refine hc 14 (zbC (zea (IntKind.i64.wrap (8+v.h.mode)) 0 SX.out.ms)) ?_
 rintro v' wb ⟨rfl,kk⟩
 have CW:=hid (CW.out.ch kk);have SX:=hid CW.out.1;clear kk;refine ⟨SX.out.kw,fun hS=>?_⟩
 simp only [puts];refine tk 15 hS ?_
 refine wpAnyH_done (by kernel_rfl) ?_ _
 go_wp2_with fail;go_ret;exact ⟨rfl,CW.out⟩
theorem zqZ (B z k:Nat) (T:Nat→Prop) (v:Mc) (p:Pt) (g:Wk) (W:World) (K:St W B z k T v p g) (ho:g.o=53):Calls Tryz.prog 51 #[.pointer (some ⟨k,0,none⟩)] W fun e W'=>e=.returned (.bool false)∧Cw W W' B z k T (turn v (tkH v.h 3 v.h.pc)) p g:=by
 have SX:=hid K;have CW:=hid (Cw.below K (Below.refl _ _));have HOP:=hid ((KW.op K.kw).trans (by rw [ho]));clear K ho;go_enter func51,ntmps51;go_upto_region 46 with (with_reducible refine zaa rfl rfl HOP.out rfl ?_);refine dr (fun w=>KW w k z g) fun wz hzz=>?_
 have CW:=hid (CW.out.trans (Cw.below SX.out hzz));have SX:=hid CW.out.1;clear hzz;have hS:=SX.out.kw;refine tk 0 hS ?_
 refine tk 1 hS ?_
 refine tk 2 hS ?_
 refine tl 3 hS (fun w hw=>KW.rg hw) ?_
 refine tk 4 hS ?_
 refine tk 5 hS ?_
 refine tk 6 hS ?_
 refine tk 7 hS ?_
 refine tl 8 hS (fun w hw=>KW.ptr hw) ?_
 refine tk 9 hS ?_
 refine tk 10 hS ?_
 refine tk 11 hS ?_
 refine hl 12 (St.l_pc SX.out) hS ?_
 refine hc 13 (zbC (zea 3 v.h.pc SX.out.ms)) ?_
 rintro v' wb ⟨rfl,kk⟩
 have CW:=hid (CW.out.ch kk);have SX:=hid CW.out.1;clear kk;refine ⟨SX.out.kw,fun hS=>?_⟩
 simp only [puts];refine tk 14 hS ?_
 refine wpAnyH_done (by kernel_rfl) ?_ _
 go_wp2_with fail;go_ret;exact ⟨rfl,CW.out⟩
theorem ztb (B z k:Nat) (T:Nat→Prop) (v:Mc) (p:Pt) (g:Wk) (W:World) (K:St W B z k T v p g) (ho:g.o=95):Calls Tryz.prog 51 #[.pointer (some ⟨k,0,none⟩)] W fun e W'=>e=.returned (.bool false)∧Cw W W' B z k T (turn v (if (zc6 v.h).2=true then (zc6 v.h).1 else noH v.h g)) p g:=by
 have SX:=hid K;have CW:=hid (Cw.below K (Below.refl _ _));have CT:=hid (fun w=>zzy v.h w);have HH:=hid (fun w (h:St w B z k T v p g)=>St.l_hart h);have CY:=hid (fun w (h:St w B z k T v p g) x=>zi9 B z k T v p g w h x);have CN:=hid (fun w (h:St w B z k T v p g) x=>zkv B z k T v p g w h x);generalize zc6 v.h=q at CT ⊢;obtain ⟨h1,b⟩:=q;cases b
 ·have HOP:=hid ((KW.op K.kw).trans (by rw [ho]))
  clear K ho;go_enter func51,ntmps51;go_wp2_with (first | (with_reducible first | refine zaa rfl rfl HOP.out rfl ?_ | refine zaa rfl rfl (KW.ptr SX.out.kw) rfl ?_ | refine zaa rfl rfl (HH.out _ SX.out) rfl ?_) | (go_at_call 87;(with_reducible refine (CT.out _).mono ?_);rintro e wb ⟨rfl,kk⟩;have CW:=hid (CW.out.trans (Cw.below SX.out kk));have SX:=hid CW.out.1;clear kk) | (go_at_call 86;(with_reducible refine (CN.out _ SX.out h1).mono ?_);rintro e wb ⟨rfl,kk⟩;have CW:=hid (CW.out.trans kk);clear kk));go_ret;exact ⟨rfl,CW.out⟩
 ·have HOP:=hid ((KW.op K.kw).trans (by rw [ho]))
  clear K ho;go_enter func51,ntmps51;go_wp2_with (first | (with_reducible first | refine zaa rfl rfl HOP.out rfl ?_ | refine zaa rfl rfl (KW.ptr SX.out.kw) rfl ?_ | refine zaa rfl rfl (HH.out _ SX.out) rfl ?_) | (go_at_call 87;(with_reducible refine (CT.out _).mono ?_);rintro e wb ⟨rfl,kk⟩;have CW:=hid (CW.out.trans (Cw.below SX.out kk));have SX:=hid CW.out.1;clear kk) | (go_at_call 86;(with_reducible refine (CY.out _ SX.out h1).mono ?_);rintro e wb ⟨rfl,kk⟩;have CW:=hid (CW.out.trans kk);clear kk));go_ret;exact ⟨rfl,CW.out⟩
theorem znC (B z k:Nat) (T:Nat→Prop) (v:Mc) (p:Pt) (g:Wk) (W:World) (K:St W B z k T v p g) (ho:g.o=96):Calls Tryz.prog 51 #[.pointer (some ⟨k,0,none⟩)] W fun e W'=>e=.returned (.bool false)∧Cw W W' B z k T (turn v (if (zc0 v.h).2=true then (zc0 v.h).1 else noH v.h g)) p g:=by
 have SX:=hid K;have CW:=hid (Cw.below K (Below.refl _ _));have CT:=hid (fun w=>zr2 v.h w);have HH:=hid (fun w (h:St w B z k T v p g)=>St.l_hart h);have CY:=hid (fun w (h:St w B z k T v p g) x=>zi9 B z k T v p g w h x);have CN:=hid (fun w (h:St w B z k T v p g) x=>zkv B z k T v p g w h x);generalize zc0 v.h=q at CT ⊢;obtain ⟨h1,b⟩:=q;cases b
 ·have HOP:=hid ((KW.op K.kw).trans (by rw [ho]))
  clear K ho;go_enter func51,ntmps51;go_wp2_with (first | (with_reducible first | refine zaa rfl rfl HOP.out rfl ?_ | refine zaa rfl rfl (KW.ptr SX.out.kw) rfl ?_ | refine zaa rfl rfl (HH.out _ SX.out) rfl ?_) | (go_at_call 88;(with_reducible refine (CT.out _).mono ?_);rintro e wb ⟨rfl,kk⟩;have CW:=hid (CW.out.trans (Cw.below SX.out kk));have SX:=hid CW.out.1;clear kk) | (go_at_call 86;(with_reducible refine (CN.out _ SX.out h1).mono ?_);rintro e wb ⟨rfl,kk⟩;have CW:=hid (CW.out.trans kk);clear kk));go_ret;exact ⟨rfl,CW.out⟩
 ·have HOP:=hid ((KW.op K.kw).trans (by rw [ho]))
  clear K ho;go_enter func51,ntmps51;go_wp2_with (first | (with_reducible first | refine zaa rfl rfl HOP.out rfl ?_ | refine zaa rfl rfl (KW.ptr SX.out.kw) rfl ?_ | refine zaa rfl rfl (HH.out _ SX.out) rfl ?_) | (go_at_call 88;(with_reducible refine (CT.out _).mono ?_);rintro e wb ⟨rfl,kk⟩;have CW:=hid (CW.out.trans (Cw.below SX.out kk));have SX:=hid CW.out.1;clear kk) | (go_at_call 86;(with_reducible refine (CY.out _ SX.out h1).mono ?_);rintro e wb ⟨rfl,kk⟩;have CW:=hid (CW.out.trans kk);clear kk));go_ret;exact ⟨rfl,CW.out⟩
theorem zyr (B z k:Nat) (T:Nat→Prop) (v:Mc) (p:Pt) (g:Wk) (W:World) (K:St W B z k T v p g) (hr:Rgs g) (ok:POk v p) (hO:(p.O.length+1)*32≤140737488355328) (hau:Al.U64 (xV v.h g.a)) (hx:∀ h kd,(fnH v.h p.D (xV v.h g.a) kd).2.2=h→Al.U64 (xV h g.b)) (hmm:∀ pl s,Al.U64 (mmV p pl s).1) (ho:g.o∈([73,74,75,76,77,78,79,80,81,82,83,84,85,86,87,88,89,90,91,92,93,94]:List Int)):Calls Tryz.prog 51 #[.pointer (some ⟨k,0,none⟩)] W fun e W'=>e=.returned (.bool (atR v p g (zcP g.o)).1)∧Cw W W' B z k T (atR v p g (zcP g.o)).2.1 (atR v p g (zcP g.o)).2.2 g:=by
 have SX:=hid K;have CW:=hid (Cw.below K (Below.refl _ _))
 have hno:g.o ∉ ([1,2,3,4,5,6,7,8,9,10,11,12,13,14,15,16,17,18,19,20,21,50,51,97,98,54,55,56,57,58,59,52,53,95,96]:List Int):=by
  simp only [List.mem_cons,List.not_mem_nil,or_false] at ho ⊢;omega
 have hs:(zcP g.o=4∨zcP g.o=8):=by
  simp only [List.mem_cons,List.not_mem_nil,or_false] at ho;rcases ho with ho | ho | ho | ho | ho | ho | ho | ho | ho | ho | ho | ho | ho | ho | ho | ho | ho | ho | ho | ho | ho | ho
  all_goals
   rw [ho]
   first | exact .inl rfl | exact .inr rfl
 have hlo:∀ c:Int,c∈([1,2,3,4,5,6,7,8,9,10,11,12,13,14,15,16,17,18,19,20,21,50,51,97,98,54,55,56,57,58,59,52,53,95,96]:List Int)→(g.o==c)=false:=fun c hc=>by
  rw [beq_eq_false_iff_ne];exact fun e=>hno (by rw [e];exact hc)
 have CZ:=hid (fun w=>zlt g.o w);have CB:=hid (fun w (h:St w B z k T v p g)=>zzT B z k T v p g w h hr (zcP g.o) hs ok hO hau hx (fun pl=>hmm pl _));generalize zcP g.o=s at CZ CB hs ⊢;generalize atR v p g s=gg at CB ⊢;have g1:(s != 0)=true:=by rw [bne_iff_ne];omega
 have HOP0:=hid (fun w (h:St w B z k T v p g)=>KW.op h.kw);generalize g.o=op at CZ HOP0 hlo;have m1:(op==(1:Int))=false:=hlo 1 (by decide);have m2:(op==(2:Int))=false:=hlo 2 (by decide);have m3:(op==(3:Int))=false:=hlo 3 (by decide);have m4:(op==(4:Int))=false:=hlo 4 (by decide);have m5:(op==(5:Int))=false:=hlo 5 (by decide);have m6:(op==(6:Int))=false:=hlo 6 (by decide);have m7:(op==(7:Int))=false:=hlo 7 (by decide);have m8:(op==(8:Int))=false:=hlo 8 (by decide);have m9:(op==(9:Int))=false:=hlo 9 (by decide);have m10:(op==(10:Int))=false:=hlo 10 (by decide);have m11:(op==(11:Int))=false:=hlo 11 (by decide);have m12:(op==(12:Int))=false:=hlo 12 (by decide);have m13:(op==(13:Int))=false:=hlo 13 (by decide);have m14:(op==(14:Int))=false:=hlo 14 (by decide);have m15:(op==(15:Int))=false:=hlo 15 (by decide);have m16:(op==(16:Int))=false:=hlo 16 (by decide);have m17:(op==(17:Int))=false:=hlo 17 (by decide);have m18:(op==(18:Int))=false:=hlo 18 (by decide);have m19:(op==(19:Int))=false:=hlo 19 (by decide);have m20:(op==(20:Int))=false:=hlo 20 (by decide);have m21:(op==(21:Int))=false:=hlo 21 (by decide);have m50:(op==(50:Int))=false:=hlo 50 (by decide);have m51:(op==(51:Int))=false:=hlo 51 (by decide);have m97:(op==(97:Int))=false:=hlo 97 (by decide);have m98:(op==(98:Int))=false:=hlo 98 (by decide);have m54:(op==(54:Int))=false:=hlo 54 (by decide);have m55:(op==(55:Int))=false:=hlo 55 (by decide);have m56:(op==(56:Int))=false:=hlo 56 (by decide)
 have m57:(op==(57:Int))=false:=hlo 57 (by decide);have m58:(op==(58:Int))=false:=hlo 58 (by decide);have m59:(op==(59:Int))=false:=hlo 59 (by decide);have m52:(op==(52:Int))=false:=hlo 52 (by decide);have m53:(op==(53:Int))=false:=hlo 53 (by decide);have m95:(op==(95:Int))=false:=hlo 95 (by decide);have m96:(op==(96:Int))=false:=hlo 96 (by decide);clear K hr ok hO hau hx hmm hs ho hno hlo;go_enter func51,ntmps51;go_wp2_with (first | (with_reducible refine zaa rfl rfl (HOP0.out _ SX.out) rfl ?_) | (go_at_call 89;(with_reducible refine (CZ.out _).mono ?_);rintro e w8 ⟨rfl,rfl⟩) | (go_at_call 90;(with_reducible refine (CB.out _ SX.out).mono ?_);rintro e wb ⟨rfl,kk⟩;have CW:=hid (CW.out.trans kk);clear kk));go_ret;exact ⟨rfl,CW.out⟩
theorem zxs (B z k:Nat) (T:Nat→Prop) (v:Mc) (p:Pt) (g:Wk) (W:World) (K:St W B z k T v p g) (hr:Rgs g) (hx:∀ n,Al.U64 (xV v.h n)) (hno:g.o ∉ ([1,2,3,4,5,6,7,8,9,10,11,12,13,14,15,16,17,18,19,20,21,50,51,97,98,54,55,56,57,58,59,52,53,95,96]:List Int)) (hat:¬ g.o∈([73,74,75,76,77,78,79,80,81,82,83,84,85,86,87,88,89,90,91,92,93,94]:List Int)):Calls Tryz.prog 51 #[.pointer (some ⟨k,0,none⟩)] W fun e W'=>e=.returned (.bool true)∧Cw W W' B z k T (turn v (putH v.h g.r (sumV v g))) p g:=by
 have SX:=hid K;have CW:=hid (Cw.below K (Below.refl _ _))
 have hlo:∀ c:Int,c∈([1,2,3,4,5,6,7,8,9,10,11,12,13,14,15,16,17,18,19,20,21,50,51,97,98,54,55,56,57,58,59,52,53,95,96]:List Int)→(g.o==c)=false:=fun c hc=>by
  rw [beq_eq_false_iff_ne];exact fun e=>hno (by rw [e];exact hc)
 have hz:zcP g.o=0:=by
  unfold zcP;rw [if_neg (fun h=>hat (by simp only [List.mem_cons,List.not_mem_nil,or_false] at h ⊢;omega)),if_neg (fun h=>hat (by simp only [List.mem_cons,List.not_mem_nil,or_false] at h ⊢;omega))]
 have CZ:=hid (fun w=>hz ▸ zlt g.o w);have CB:=hid (fun w (h:St w B z k T v p g)=>zhs B z k T v p g w h hr hx (zaX _));generalize sumV v g=sv at CB ⊢;have HOP0:=hid (fun w (h:St w B z k T v p g)=>KW.op h.kw);generalize g.o=op at CZ HOP0 hlo;have m1:(op==(1:Int))=false:=hlo 1 (by decide);have m2:(op==(2:Int))=false:=hlo 2 (by decide);have m3:(op==(3:Int))=false:=hlo 3 (by decide);have m4:(op==(4:Int))=false:=hlo 4 (by decide);have m5:(op==(5:Int))=false:=hlo 5 (by decide);have m6:(op==(6:Int))=false:=hlo 6 (by decide);have m7:(op==(7:Int))=false:=hlo 7 (by decide);have m8:(op==(8:Int))=false:=hlo 8 (by decide);have m9:(op==(9:Int))=false:=hlo 9 (by decide);have m10:(op==(10:Int))=false:=hlo 10 (by decide);have m11:(op==(11:Int))=false:=hlo 11 (by decide);have m12:(op==(12:Int))=false:=hlo 12 (by decide);have m13:(op==(13:Int))=false:=hlo 13 (by decide);have m14:(op==(14:Int))=false:=hlo 14 (by decide);have m15:(op==(15:Int))=false:=hlo 15 (by decide);have m16:(op==(16:Int))=false:=hlo 16 (by decide);have m17:(op==(17:Int))=false:=hlo 17 (by decide);have m18:(op==(18:Int))=false:=hlo 18 (by decide);have m19:(op==(19:Int))=false:=hlo 19 (by decide);have m20:(op==(20:Int))=false:=hlo 20 (by decide);have m21:(op==(21:Int))=false:=hlo 21 (by decide);have m50:(op==(50:Int))=false:=hlo 50 (by decide);have m51:(op==(51:Int))=false:=hlo 51 (by decide);have m97:(op==(97:Int))=false:=hlo 97 (by decide);have m98:(op==(98:Int))=false:=hlo 98 (by decide)
 have m54:(op==(54:Int))=false:=hlo 54 (by decide);have m55:(op==(55:Int))=false:=hlo 55 (by decide);have m56:(op==(56:Int))=false:=hlo 56 (by decide);have m57:(op==(57:Int))=false:=hlo 57 (by decide);have m58:(op==(58:Int))=false:=hlo 58 (by decide);have m59:(op==(59:Int))=false:=hlo 59 (by decide);have m52:(op==(52:Int))=false:=hlo 52 (by decide);have m53:(op==(53:Int))=false:=hlo 53 (by decide);have m95:(op==(95:Int))=false:=hlo 95 (by decide);have m96:(op==(96:Int))=false:=hlo 96 (by decide);clear K hr hx hno hat hlo hz;go_enter func51,ntmps51;go_wp2_with (first | (with_reducible refine zaa rfl rfl (HOP0.out _ SX.out) rfl ?_) | (go_at_call 89;(with_reducible refine (CZ.out _).mono ?_);rintro e w8 ⟨rfl,rfl⟩) | (go_at_call 91;(with_reducible refine (CB.out _ SX.out).mono ?_);rintro e wb ⟨rfl,kk⟩;have CW:=hid (CW.out.trans kk);clear kk));go_ret;exact ⟨rfl,CW.out⟩
end Go.Proofs.YtplcfdnfeclpmaaGreatDoor
