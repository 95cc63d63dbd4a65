/- MachineOn, part 36. -/
import Derived.Test.YtplcfdnfeclpmaaGreatDoorV34
import Derived.Test.YtplcfdnfeclpmaaGreatDoorV35
set_option maxHeartbeats 4000000
set_option maxRecDepth 100000
open Go.Lib (hid)
open Go Go.RowKit Go.Deep Go.Joins Go.Proofs.Tryz
namespace Go.Proofs.YtplcfdnfeclpmaaGreatDoor
def noH (h:Hart) (g:Wk):Hart:=tkH h 2 (IntKind.u64.wrap g.wd)
theorem ze3 (B z k:Nat) (T:Nat→Prop) (v:Mc) (p:Pt) (g:Wk) (W:World) (K:St W B z k T v p g):Calls Tryz.prog 77 #[.pointer (some ⟨k,0,none⟩)] W fun e W'=>e=.returned (.bool false)∧Cw W W' B z k T (turn v (noH v.h g)) p g:=by
 unfold noH;have SO:=hid (fun w (h:Below W.heap.size W w)=>K.next h);have X:=hid (Below.refl W.heap.size W);clear K;go_enter func77,ntmps77;go_upto_region 1 with (fail);refine dr (fun w=>KW w k z g) fun wz hzz=>?_
 have X:=hid (zac X.out hzz);clear hzz;have hS:=(SO.out _ X.out).kw;refine tk 0 hS ?_
 refine tk 1 hS ?_
 refine tk 2 hS ?_
 refine tl 3 hS (fun w hw=>KW.rg hw) ?_
 refine tk 4 hS ?_
 refine tk 5 hS ?_
 refine tk 6 hS ?_
 refine tl 7 hS (fun w hw=>KW.wd hw) ?_
 refine tk 8 hS ?_
 refine hc 9 (zbC (zea 2 _ (SO.out _ X.out).ms)) ?_
 rintro v' wb ⟨rfl,kk⟩
 have CW:=hid (Cw.before (Cw.of (SO.out _ X.out) kk) X.out);clear kk;refine ⟨CW.out.1.kw,fun hS=>?_⟩
 simp only [puts];refine tk 10 hS ?_
 refine wpAnyH_done (by kernel_rfl) ?_ _
 go_wp2_with fail;go_ret;exact ⟨rfl,CW.out⟩
theorem zdb (B z k:Nat) (T:Nat→Prop) (v:Mc) (p:Pt) (g:Wk) (W:World) (K:St W B z k T v p g) (x:Int) (hr:0≤g.r∧g.r<32):Calls Tryz.prog 78 #[.pointer (some ⟨k,0,none⟩),.int .u64 x] W fun e W'=>e=.returned (.bool true)∧Cw W W' B z k T (turn v (putH v.h g.r x)) p g:=by
 have SO:=hid (fun w (h:Below W.heap.size W w)=>K.next h);have X:=hid (Below.refl W.heap.size W);have HR:=hid hr;clear K hr;go_enter func78,ntmps78;go_upto_region 1 with (fail);refine dr (fun w=>KW w k z g) fun wz hzz=>?_
 have X:=hid (zac X.out hzz);clear hzz;have hS:=(SO.out _ X.out).kw;refine tk 0 hS ?_
 refine tk 1 hS ?_
 refine tk 2 hS ?_
 refine tl 3 hS (fun w hw=>KW.rg hw) ?_
 refine tk 4 hS ?_
 refine tk 5 hS ?_
 refine tk 6 hS ?_
 refine tk 7 hS ?_
 refine tl 8 hS (fun w hw=>KW.rd hw) ?_
 refine tk 9 hS ?_
 refine hc 10 (zbC (zkM g.r x (SO.out _ X.out).ms HR.out)) ?_
 rintro v' wb ⟨rfl,kk⟩
 have CW:=hid (Cw.before (Cw.of (SO.out _ X.out) kk) X.out);clear kk;refine ⟨CW.out.1.kw,fun hS=>?_⟩
 simp only [puts];refine wpAnyH_done (by kernel_rfl) ?_ _
 go_wp2_with fail;go_ret;exact ⟨rfl,CW.out⟩
theorem zkJ (B z k:Nat) (T:Nat→Prop) (v:Mc) (p:Pt) (g:Wk) (W:World) (K:St W B z k T v p g) (x:Int) (hr:0≤g.r∧g.r<32):Calls Tryz.prog 80 #[.pointer (some ⟨k,0,none⟩),.int .u64 x] W fun e W'=>e=.returned (.bool true)∧Cw W W' B z k T (turn v (putH v.h g.r g.np)) p { g with np:=x }:=by
 have SO:=hid (fun w (h:Below W.heap.size W w)=>K.next h);have X:=hid (Below.refl W.heap.size W);have HR:=hid hr;clear K hr;go_enter func80,ntmps80;go_upto_region 1 with (fail);refine dr (fun w=>KW w k z g) fun wz hzz=>?_
 have X:=hid (zac X.out hzz);clear hzz;have hS:=(SO.out _ X.out).kw;refine tk 0 hS ?_
 refine tk 1 hS ?_
 refine tk 2 hS ?_
 refine tl 3 hS (fun w hw=>KW.rg hw) ?_
 refine tk 4 hS ?_
 refine tk 5 hS ?_
 refine tk 6 hS ?_
 refine tk 7 hS ?_
 refine tl 8 hS (fun w hw=>KW.rd hw) ?_
 refine tk 9 hS ?_
 refine tk 10 hS ?_
 refine tk 11 hS ?_
 refine tl 12 hS (fun w hw=>KW.np hw) ?_
 refine hc 13 (zbC (zkM g.r g.np (SO.out _ X.out).ms HR.out)) ?_
 rintro v' wb ⟨rfl,kk⟩
 have CW:=hid (Cw.before (Cw.of (SO.out _ X.out) kk) X.out);clear kk;refine ⟨CW.out.1.kw,fun hS=>?_⟩
 simp only [puts];refine wpAnyH_done (by kernel_rfl) ?_ _
 have SK:=hid CW.out.1.kw;have CF:=hid (CW.out.trans (CW.out.1.setwk { g with np:=x }));go_wp2_with (with_reducible refine zan rfl rfl (KW.setnp SK.out x) rfl rfl ?_);go_ret;exact ⟨rfl,CF.out⟩
theorem zkv (B z k:Nat) (T:Nat→Prop) (v:Mc) (p:Pt) (g:Wk) (W:World) (K:St W B z k T v p g) (h:Hart):Calls Tryz.prog 86 #[.pointer (some ⟨k,0,none⟩),zat h,.bool false] W fun e W'=>e=.returned (.bool false)∧Cw W W' B z k T (turn v (noH v.h g)) p g:=by
 have X0:=hid (zag W (.cells (zai h) 27));have C1:=hid (fun w (h:Below W.heap.size W w)=>ze3 B z k T v p g w (K.next h));clear K;go_enter func86,ntmps86;go_upto_region 1 with (fail);generalize W.alloc (.cells (zai h) 27)=wa at X0 ⊢;have C2:=hid (C1.out _ X0.out);go_wp2_with (go_at_call 77;(with_reducible refine C2.out.mono ?_);rintro e wb ⟨rfl,kk⟩;have CW:=hid (kk.before X0.out);clear kk);go_ret;exact ⟨rfl,CW.out⟩
theorem ztD {w:World} {g:Nat} {h:Hart} (k:w.heap[g]?=some (.cells (zai h) 27 (0,0))):(Instr.loadAt 27 (.pointer (some ⟨g,0,none⟩))).run Tryz.prog w=.ok (zat h) w:=by
 simp only [Instr.loadAt,Instr.sureAddr,Sem.run_bind,Sem.run_pure,Result.andThen];exact run_loadVar_row w g 27 27 (zai h) (0,0) _ k underlying27 rfl (by rw [zcU,zcn])
theorem St.sethart {w:World} {B z k:Nat} {T:Nat→Prop} {v:Mc} {p:Pt} {g:Wk} (K:St w B z k T v p g) (h:Hart):∃ cs,(Instr.storeAt 27 (.pointer (some ⟨z,0,none⟩)) (zat h)).run Tryz.prog w=.ok () (w.setRow z cs)∧Cw w (w.setRow z cs) B z k T (turn v h) p g:=by
 obtain ⟨m,s1,s2,s3⟩:=K.ms;exact ⟨_,MBox.store_hart s2.box h,Cw.of K (Chg.ch s1 s2 s3 ⟨w,Below.refl _ _,rfl⟩)⟩
theorem zi9 (B z k:Nat) (T:Nat→Prop) (v:Mc) (p:Pt) (g:Wk) (W:World) (K:St W B z k T v p g) (h:Hart):Calls Tryz.prog 86 #[.pointer (some ⟨k,0,none⟩),zat h,.bool true] W fun e W'=>e=.returned (.bool false)∧Cw W W' B z k T (turn v h) p g:=by
 have X0:=hid (zag W (.cells (zai h) 27));have K0:=hid (heap_alloc_last W (.cells (zai h) 27));have SO1:=hid (K.next X0.out);clear K;go_enter func86,ntmps86;go_upto_region 1 with (fail);generalize W.alloc (.cells (zai h) 27)=wa at X0 K0 SO1 ⊢;have SO:=hid (fun w (h:Below wa.heap.size wa w)=>SO1.out.next h);have SB:=hid (fun w (h:Below wa.heap.size wa w)=>(h.block _ (Array.getElem?_eq_some_iff.1 K0.out).1).trans K0.out);have X:=hid (Below.refl wa.heap.size wa);go_upto_region 3 with (fail);refine dr (fun w=>KW w k z g) fun wz hzz=>?_
 have X:=hid (zac X.out hzz);clear hzz;obtain ⟨cs,hst,hcw⟩:=(SO.out _ X.out).sethart h;have HST:=hid hst;have HCW:=hid hcw;clear hst hcw;have hS:=(SO.out _ X.out).kw;refine tk 0 hS ?_
 refine tk 1 hS ?_
 refine tk 2 hS ?_
 refine tk 3 hS ?_
 refine tl 4 hS (fun w hw=>KW.ptr hw) ?_
 refine hl 5 (ztD (SB.out _ X.out)) hS ?_
 refine tk 6 hS ?_
 refine tk 7 hS ?_
 refine hs 8 (HST.out) fun wy hw=>?_
 have HC:=hid (show Cw wz wy B z k T (turn v h) p g by rw [hw];exact HCW.out);refine ⟨HC.out.1.kw,fun hS=>?_⟩
 refine wpAnyH_done (by kernel_rfl) ?_ _
 go_wp2_with fail;go_ret;exact ⟨rfl,(HC.out.before X.out).before X0.out⟩
noncomputable def sumV (v:Mc) (g:Wk):Int:=Al.doV g.o (xV v.h g.a) (if zek g.o=true then uImm g.i else xV v.h g.b)
theorem zhs (B z k:Nat) (T:Nat→Prop) (v:Mc) (p:Pt) (g:Wk) (W:World) (K:St W B z k T v p g) (hr:Rgs g) (hx:∀ n,Al.U64 (xV v.h n)) (hi:Al.U64 (uImm g.i)):Calls Tryz.prog 91 #[.pointer (some ⟨k,0,none⟩)] W fun e W'=>e=.returned (.bool true)∧Cw W W' B z k T (turn v (putH v.h g.r (sumV v g))) p g:=by
 have SO:=hid (fun w (h:Below W.heap.size W w)=>K.next h);have C1:=hid (fun w (h:Below W.heap.size W w)=>zcW B z k T v p g w (K.next h) hr.2.1);have C2:=hid (fun w (h:Below W.heap.size W w)=>zeZ B z k T v p g w (K.next h) hr.2.2);have C3:=hid (fun w (h:Below W.heap.size W w) x=>zdb B z k T v p g w (K.next h) x hr.1);have X:=hid (Below.refl W.heap.size W);unfold sumV;rcases Bool.eq_false_or_eq_true (zek g.o) with ho | ho
 ·have hv:(if zek g.o=true then uImm g.i else xV v.h g.b)=uImm g.i:=if_pos ho
  rw [hv];obtain ⟨ob,hcd⟩:=Al.ziV g.o (xV v.h g.a) (uImm g.i) (hx _) hi;have CD:=hid hcd;have CO:=hid (fun w=>ho ▸ zkq g.o w);generalize Al.doV g.o (xV v.h g.a) (uImm g.i)=dv at CD ⊢;clear K hr hx hi hv ho hcd;go_enter func91,ntmps91;go_upto_region 4 with (first | (go_at_call 102;(with_reducible refine (C2.out _ X.out).mono ?_);rintro e wb ⟨rfl,kk⟩;have X:=hid (zac X.out kk);clear kk) | (with_reducible refine zaa rfl rfl (KW.op (SO.out _ X.out).kw) rfl ?_) | ((first | (go_at_call 114;with_reducible refine (CO.out _).mono ?_) | (go_at_call 79;with_reducible refine (zdh z k g _ (SO.out _ X.out).kw).mono ?_));rintro e w8 ⟨rfl,rfl⟩));refine dr (fun w=>St w B z k T v p g) fun wz hzz=>?_
  have X:=hid (zac X.out hzz);clear hzz;have hS:=SO.out _ X.out;refine tk 0 hS ?_
  refine tk 1 hS ?_
  refine tk 2 hS ?_
  refine tk 3 hS ?_
  refine tl 4 hS (fun w hw=>KW.op hw.kw) ?_
  refine tk 5 hS ?_
  refine tk 7 hS ?_
  refine hc 6 (zbL (C1.out _ X.out)) ?_
  rintro v' wb ⟨rfl,kk⟩
  have X:=hid (zac X.out kk);refine ⟨SO.out _ X.out,fun hS=>?_⟩
  clear kk;simp only [puts];refine hc 8 (zdn (CD.out _)) ?_
  rintro v' wb ⟨rfl,rfl⟩
  refine ⟨hS,fun hS=>?_⟩
  simp only [puts];refine tk 9 hS ?_
  refine tk 10 hS ?_
  refine tk 11 hS ?_
  refine tk 12 hS ?_
  refine tk 13 hS ?_
  refine wpAnyH_done (by kernel_rfl) ?_ _
  go_wp2_with (go_at_call 78;(with_reducible refine (C3.out _ X.out _).mono ?_);rintro e wb ⟨rfl,kk⟩;have CW:=hid (kk.before X.out);clear kk);go_ret;exact ⟨rfl,CW.out⟩
 ·have hv:(if zek g.o=true then uImm g.i else xV v.h g.b)=xV v.h g.b:=if_neg (by rw [ho];decide)
  rw [hv];obtain ⟨ob,hcd⟩:=Al.ziV g.o (xV v.h g.a) (xV v.h g.b) (hx _) (hx _);have CD:=hid hcd;have CO:=hid (fun w=>ho ▸ zkq g.o w);generalize Al.doV g.o (xV v.h g.a) (xV v.h g.b)=dv at CD ⊢;clear K hr hx hi hv ho hcd;go_enter func91,ntmps91;go_upto_region 4 with (first | (go_at_call 102;(with_reducible refine (C2.out _ X.out).mono ?_);rintro e wb ⟨rfl,kk⟩;have X:=hid (zac X.out kk);clear kk) | (with_reducible refine zaa rfl rfl (KW.op (SO.out _ X.out).kw) rfl ?_) | (go_at_call 114;(with_reducible refine (CO.out _).mono ?_);rintro e w8 ⟨rfl,rfl⟩));refine dr (fun w=>St w B z k T v p g) fun wz hzz=>?_
  have X:=hid (zac X.out hzz);clear hzz;have hS:=SO.out _ X.out;refine tk 0 hS ?_
  refine tk 1 hS ?_
  refine tk 2 hS ?_
  refine tk 3 hS ?_
  refine tl 4 hS (fun w hw=>KW.op hw.kw) ?_
  refine tk 5 hS ?_
  refine tk 7 hS ?_
  refine hc 6 (zbL (C1.out _ X.out)) ?_
  rintro v' wb ⟨rfl,kk⟩
  have X:=hid (zac X.out kk);refine ⟨SO.out _ X.out,fun hS=>?_⟩
  clear kk;simp only [puts];refine hc 8 (zdn (CD.out _)) ?_
  rintro v' wb ⟨rfl,rfl⟩
  refine ⟨hS,fun hS=>?_⟩
  simp only [puts];refine tk 9 hS ?_
  refine tk 10 hS ?_
  refine tk 11 hS ?_
  refine tk 12 hS ?_
  refine tk 13 hS ?_
  refine wpAnyH_done (by kernel_rfl) ?_ _
  go_wp2_with (go_at_call 78;(with_reducible refine (C3.out _ X.out _).mono ?_);rintro e wb ⟨rfl,kk⟩;have CW:=hid (kk.before X.out);clear kk);go_ret;exact ⟨rfl,CW.out⟩
noncomputable def brB (v:Mc) (g:Wk):Bool:=Al.brV g.o (xV v.h g.a) (xV v.h g.b)
noncomputable def brG (v:Mc) (g:Wk):Wk:=if brB v g=true then { g with np:=IntKind.u64.wrap (v.h.pc+uImm g.i) } else g
theorem znh (B z k:Nat) (T:Nat→Prop) (v:Mc) (p:Pt) (g:Wk) (W:World) (K:St W B z k T v p g) (hr:Rgs g):Calls Tryz.prog 82 #[.pointer (some ⟨k,0,none⟩)] W fun e W'=>e=.returned (.bool true)∧Cw W W' B z k T v p (brG v g):=by
 have SO:=hid (fun w (h:Below W.heap.size W w)=>K.next h);have C1:=hid (fun w (h:Below W.heap.size W w)=>zcW B z k T v p g w (K.next h) hr.2.1);have C2:=hid (fun w (h:Below W.heap.size W w)=>zeZ B z k T v p g w (K.next h) hr.2.2);have X:=hid (Below.refl W.heap.size W);obtain ⟨ob,hcd⟩:=Al.zyI g.o (xV v.h g.a) (xV v.h g.b);unfold brG;rcases Bool.eq_false_or_eq_true (brB v g) with hb | hb
 ·rw [if_pos hb]
  unfold brB at hb;rw [hb] at hcd;have CD:=hid hcd;clear K hr hb hcd;go_enter func82,ntmps82;go_upto_region 1 with (fail);refine dr (fun w=>St w B z k T v p g) fun wz hzz=>?_
  have X:=hid (zac X.out hzz);clear hzz;have hS:=SO.out _ X.out;refine tk 0 hS ?_
  refine tk 1 hS ?_
  refine tk 2 hS ?_
  refine tk 3 hS ?_
  refine tl 4 hS (fun w hw=>KW.op hw.kw) ?_
  refine tk 5 hS ?_
  refine tk 7 hS ?_
  refine hc 6 (zbL (C1.out _ X.out)) ?_
  rintro v' wb ⟨rfl,kk⟩
  have X:=hid (zac X.out kk);refine ⟨SO.out _ X.out,fun hS=>?_⟩
  clear kk;simp only [puts];refine hc 8 (zbL (C2.out _ X.out)) ?_
  rintro v' wb ⟨rfl,kk⟩
  have X:=hid (zac X.out kk);refine ⟨SO.out _ X.out,fun hS=>?_⟩
  clear kk;simp only [puts];refine hc 9 (zdn (CD.out _)) ?_
  rintro v' wb ⟨rfl,rfl⟩
  refine ⟨hS,fun hS=>?_⟩
  simp only [puts];refine tk 10 hS ?_
  refine tk 11 hS ?_
  refine tk 12 hS ?_
  refine tk 13 hS ?_
  refine tk 14 hS ?_
  refine wpAnyH_done (by kernel_rfl) ?_ _
  go_upto_region 3 with (fail);refine dr (fun w=>∃ g,St w B z k T v p g) fun wz hzz=>?_
  have X:=hid (zac X.out hzz);clear hzz;have hS:=(⟨g,SO.out _ X.out⟩:∃ g,St _ B z k T v p g);refine tk 0 hS ?_
  refine tk 1 hS ?_
  refine tk 2 hS ?_
  refine tk 3 hS ?_
  refine tk 4 hS ?_
  refine tl 5 hS (fun w hw=>KW.ptr hw.choose_spec.kw) ?_
  refine tk 6 hS ?_
  refine tk 7 hS ?_
  refine tk 8 hS ?_
  refine tl 9 hS (fun w hw=>St.l_pc hw.choose_spec) ?_
  refine tk 10 hS ?_
  refine hc 11 (zdn (zdh z k g _ (SO.out _ X.out).kw)) ?_
  rintro v' wb ⟨rfl,rfl⟩
  refine ⟨hS,fun hS=>?_⟩
  simp only [puts];refine tk 12 hS ?_
  refine tk 13 hS ?_
  refine tk 14 hS ?_
  refine hs 15 (KW.setnp (SO.out _ X.out).kw (IntKind.u64.wrap (v.h.pc+uImm g.i))) fun wy hw=>?_
  have CW:=hid (show Cw W wy B z k T v p { g with np:=IntKind.u64.wrap (v.h.pc+uImm g.i) } by rw [hw];exact ((SO.out _ X.out).setwk _).before X.out);refine ⟨⟨_,CW.out.1⟩,fun hS=>?_⟩
  refine wpAnyH_done (by kernel_rfl) ?_ _
  go_wp2_with fail;go_ret;exact ⟨rfl,CW.out⟩
 ·rw [if_neg (by rw [hb];decide)]
  unfold brB at hb;rw [hb] at hcd;have CD:=hid hcd;clear K hr hb hcd;go_enter func82,ntmps82;go_upto_region 1 with (fail);refine dr (fun w=>St w B z k T v p g) fun wz hzz=>?_
  have X:=hid (zac X.out hzz);clear hzz;have hS:=SO.out _ X.out;refine tk 0 hS ?_
  refine tk 1 hS ?_
  refine tk 2 hS ?_
  refine tk 3 hS ?_
  refine tl 4 hS (fun w hw=>KW.op hw.kw) ?_
  refine tk 5 hS ?_
  refine tk 7 hS ?_
  refine hc 6 (zbL (C1.out _ X.out)) ?_
  rintro v' wb ⟨rfl,kk⟩
  have X:=hid (zac X.out kk);refine ⟨SO.out _ X.out,fun hS=>?_⟩
  clear kk;simp only [puts];refine hc 8 (zbL (C2.out _ X.out)) ?_
  rintro v' wb ⟨rfl,kk⟩
  have X:=hid (zac X.out kk);refine ⟨SO.out _ X.out,fun hS=>?_⟩
  clear kk;simp only [puts];refine hc 9 (zdn (CD.out _)) ?_
  rintro v' wb ⟨rfl,rfl⟩
  refine ⟨hS,fun hS=>?_⟩
  simp only [puts];refine tk 10 hS ?_
  refine tk 11 hS ?_
  refine tk 12 hS ?_
  refine tk 13 hS ?_
  refine tk 14 hS ?_
  refine wpAnyH_done (by kernel_rfl) ?_ _
  go_wp2_with fail;go_ret;exact ⟨rfl,Cw.below (SO.out _ (Below.refl _ _)) X.out⟩
theorem go_u (D:List UInt8) (ms md t kind:Int):∀ (n:Nat) (tb:Int),Al.U64 (Wk.goF D ms md t kind n tb).1
 | 0,_=>Al.zap
 | n+1,tb=>by
  unfold Wk.goF
  split
  ·exact Al.zap
  split
  ·exact Al.zap
  split
  ·exact go_u D ms md t kind n _
  split
  ·exact Al.zap
  split
  ·exact Al.zap
  ·show Al.U64 (bits BinOp.or IntKind.u64 _ _)
   exact Al.zad _ _ _
theorem fn_u (h:Hart) (D:List UInt8) (t kind:Int) (ht:Al.U64 t):Al.U64 (fnH h D t kind).1:=by
 unfold fnH
 split
 ·show Al.U64 (Wk.zbr D h.c.s0 h.c.s15 h.mode t kind).1
  unfold Wk.zbr
  split
  ·exact Al.zap
  split
  ·exact ht
  split
  ·exact ht
  split
  ·exact Al.zap
  ·exact go_u _ _ _ _ _ _ _
 ·exact Al.zap
def sgV (op n:Int):Int:=if op=11 then IntKind.u64.wrap (IntKind.i8.wrap n) else if op=12 then IntKind.u64.wrap (IntKind.i16.wrap n) else if op=13 then Al.za3 n else n
theorem zhi (op n:Int) (W:World):TW 105 #[.int .i64 op,.int .u64 n] W (.int .u64 (sgV op n)):=by
 by_cases h1:op=11
 ·subst h1
  go_enter func105,ntmps105;go_wp2_with fail;go_ret;exact ⟨rfl,rfl⟩
 by_cases h2:op=12
 ·subst h2
  go_enter func105,ntmps105;go_wp2_with fail;go_ret;exact ⟨rfl,rfl⟩
 by_cases h3:op=13
 ·subst h3
  have C1:=hid (fun w=>Al.zcl n w);go_enter func105,ntmps105;go_wp2_with (go_at_call 112;(with_reducible refine (C1.out _).mono ?_);rintro e w8 ⟨rfl,rfl⟩);go_ret;exact ⟨rfl,rfl⟩
 have hv:sgV op n=n:=by unfold sgV;rw [if_neg h1,if_neg h2,if_neg h3]
 rw [hv];have m1:(op==(11:Int))=false:=by rw [beq_eq_false_iff_ne];exact h1
 have m2:(op==(12:Int))=false:=by rw [beq_eq_false_iff_ne];exact h2
 have m3:(op==(13:Int))=false:=by rw [beq_eq_false_iff_ne];exact h3
 clear hv h1 h2 h3;go_enter func105,ntmps105;go_wp2_with fail;go_ret;exact ⟨rfl,rfl⟩
def adV (v:Mc) (g:Wk):Int:=IntKind.u64.wrap (xV v.h g.a+uImm g.i)
theorem zaX (x:Int):Al.U64 (IntKind.u64.wrap x):=Al.zax x
theorem U64.le {x:Int} (h:Al.U64 x):0≤x∧x≤18446744073709551615:=⟨h.1,by have:=h.2;omega⟩
def ldR (v:Mc) (p:Pt) (g:Wk):Bool × Mc × Pt :=
 if (fnH v.h p.D (adV v g) 1).2.1=false then (false,turn v (fnH v.h p.D (adV v g) 1).2.2,p) else
 let q:=ldM (turn v (fnH v.h p.D (adV v g) 1).2.2) p (fnH v.h p.D (adV v g) 1).1 (zaZ g.o)
 if q.2.2.2=true then (true,turn q.1 (putH q.1.h g.r (sgV g.o q.2.2.1)),q.2.1) else (false,turn q.1 (tkH q.1.h 5 (adV v g)),q.2.1)
theorem zn8 (B z k:Nat) (T:Nat→Prop) (v:Mc) (p:Pt) (g:Wk) (W:World) (K:St W B z k T v p g) (hr:Rgs g) (r:Int × Bool × Hart) (hf:fnH v.h p.D (adV v g) 1=r) (hb:r.2.1=false):Calls Tryz.prog 83 #[.pointer (some ⟨k,0,none⟩)] W fun e W'=>e=.returned (.bool false)∧Cw W W' B z k T (turn v r.2.2) p g:=by
 obtain ⟨pl,b,h1⟩:=r;simp only at hb;subst hb;have SX:=hid K;have CW:=hid (Cw.below K (Below.refl _ _));have CA:=hid (fun w (h:St w B z k T v p g)=>zcW B z k T v p g w h hr.2.1);have CF:=hid (fun w (h:Ms w B z v p T)=>zdj (adV v g) 1 h (zaX _).1);rw [hf] at CF;have HA:=hid (show IntKind.u64.wrap (xV v.h g.a+uImm g.i)=adV v g from rfl);generalize adV v g=ad at CF HA ⊢;clear K hf hr;go_enter func83,ntmps83;go_upto_region 2 with (first | (go_at_call 81;(with_reducible refine (CA.out _ SX.out).mono ?_);rintro e wb ⟨rfl,kk⟩;have CW:=hid (CW.out.trans (Cw.below SX.out kk));have SX:=hid CW.out.1;clear kk) | (go_at_call 79;(with_reducible refine (zdh z k g _ SX.out.kw).mono ?_);rintro e w8 ⟨rfl,rfl⟩));rw [HA.out];go_wp2_with (first | (with_reducible first | refine zaa rfl rfl (KW.rg SX.out.kw) rfl ?_ | refine zaa rfl rfl (KW.op SX.out.kw) rfl ?_ | refine zaa rfl rfl (KW.ptr SX.out.kw) rfl ?_) | (go_at_call 96;(with_reducible refine (CF.out _ SX.out.ms).mono ?_);rintro e wb ⟨rfl,kk⟩;have CW:=hid (CW.out.ch kk);have SX:=hid CW.out.1;clear kk));go_ret;exact ⟨rfl,CW.out⟩
theorem zrN (B z k:Nat) (T:Nat→Prop) (v:Mc) (p:Pt) (g:Wk) (W:World) (K:St W B z k T v p g) (hr:Rgs g) (ok:POk v p) (r:Int × Bool × Hart) (hf:fnH v.h p.D (adV v g) 1=r) (hb:r.2.1=true) (hu:Al.U64 r.1) (hq:(ldM (turn v r.2.2) p r.1 (zaZ g.o)).2.2.2=false):Calls Tryz.prog 83 #[.pointer (some ⟨k,0,none⟩)] W fun e W'=>e=.returned (.bool false)∧Cw W W' B z k T (turn (ldM (turn v r.2.2) p r.1 (zaZ g.o)).1 (tkH (ldM (turn v r.2.2) p r.1 (zaZ g.o)).1.h 5 (adV v g))) (ldM (turn v r.2.2) p r.1 (zaZ g.o)).2.1 g:=by
 obtain ⟨pl,b,h1⟩:=r;simp only at hb hu hq ⊢;subst hb;have SX:=hid K;have CW:=hid (Cw.below K (Below.refl _ _));have CL:=hid (fun w (h:St w B z k T (turn v h1) p g)=>ld_s pl (zaZ g.o) h.ms h.hB h.up (ok.turn h1) (U64.le hu).1 (U64.le hu).2);have CA:=hid (fun w (h:St w B z k T v p g)=>zcW B z k T v p g w h hr.2.1);have CF:=hid (fun w (h:Ms w B z v p T)=>zdj (adV v g) 1 h (zaX _).1);rw [hf] at CF;have HA:=hid (show IntKind.u64.wrap (xV v.h g.a+uImm g.i)=adV v g from rfl);generalize adV v g=ad at CF HA ⊢;have HR:=hid hr;generalize ldM (turn v h1) p pl (zaZ g.o)=q at CL hq ⊢;obtain ⟨m1,p1,n1,b1⟩:=q;simp only at hq ⊢;subst hq;clear K hf hr ok hu;go_enter func83,ntmps83;go_upto_region 2 with (first | (go_at_call 81;(with_reducible refine (CA.out _ SX.out).mono ?_);rintro e wb ⟨rfl,kk⟩;have CW:=hid (CW.out.trans (Cw.below SX.out kk));have SX:=hid CW.out.1;clear kk) | (go_at_call 79;(with_reducible refine (zdh z k g _ SX.out.kw).mono ?_);rintro e w8 ⟨rfl,rfl⟩));rw [HA.out];go_upto_region 5 with (first | (with_reducible first | refine zaa rfl rfl (KW.rg SX.out.kw) rfl ?_ | refine zaa rfl rfl (KW.op SX.out.kw) rfl ?_ | refine zaa rfl rfl (KW.ptr SX.out.kw) rfl ?_) | (go_at_call 96;(with_reducible refine (CF.out _ SX.out.ms).mono ?_);rintro e wb ⟨rfl,kk⟩;have CW:=hid (CW.out.ch kk);have SX:=hid CW.out.1;clear kk));refine dr (fun w=>KW w k z g) fun wz hzz=>?_
 have CW:=hid (CW.out.trans (Cw.below SX.out hzz));have SX:=hid CW.out.1;clear hzz;have hS:=SX.out.kw;refine tk 0 hS ?_
 refine tk 1 hS ?_
 refine tk 2 hS ?_
 refine tk 3 hS ?_
 refine tl 4 hS (fun w hw=>KW.ptr hw) ?_
 refine tk 5 hS ?_
 refine tk 6 hS ?_
 refine tk 7 hS ?_
 refine tk 8 hS ?_
 refine tk 9 hS ?_
 refine tl 10 hS (fun w hw=>KW.op hw) ?_
 refine hc 11 (zdn (zhf g.o _)) ?_
 rintro v' wb ⟨rfl,rfl⟩
 refine ⟨hS,fun hS=>?_⟩
 simp only [puts];refine hc 12 (zbC (CL.out _ SX.out)) ?_
 rintro v' wb ⟨rfl,kk⟩
 have CW:=hid (CW.out.ch kk);have SX:=hid CW.out.1;clear kk;refine ⟨SX.out.kw,fun hS=>?_⟩
 simp only [puts];refine tk 13 hS ?_
 refine tk 14 hS ?_
 refine tk 15 hS ?_
 refine tk 16 hS ?_
 refine tk 17 hS ?_
 refine wpAnyH_done (by kernel_rfl) ?_ _
 go_wp2_with (first | (with_reducible first | refine zaa rfl rfl (KW.rg SX.out.kw) rfl ?_ | refine zaa rfl rfl (KW.op SX.out.kw) rfl ?_ | refine zaa rfl rfl (KW.ptr SX.out.kw) rfl ?_) | (go_at_call 75;(with_reducible refine (zea 5 ad SX.out.ms).mono ?_);rintro e wb ⟨rfl,kk⟩;have CW:=hid (CW.out.ch kk);have SX:=hid CW.out.1;clear kk));go_ret;exact ⟨rfl,CW.out⟩
theorem zq6 (B z k:Nat) (T:Nat→Prop) (v:Mc) (p:Pt) (g:Wk) (W:World) (K:St W B z k T v p g) (hr:Rgs g) (ok:POk v p) (r:Int × Bool × Hart) (hf:fnH v.h p.D (adV v g) 1=r) (hb:r.2.1=true) (hu:Al.U64 r.1) (hq:(ldM (turn v r.2.2) p r.1 (zaZ g.o)).2.2.2=true):Calls Tryz.prog 83 #[.pointer (some ⟨k,0,none⟩)] W fun e W'=>e=.returned (.bool true)∧Cw W W' B z k T (turn (ldM (turn v r.2.2) p r.1 (zaZ g.o)).1 (putH (ldM (turn v r.2.2) p r.1 (zaZ g.o)).1.h g.r (sgV g.o (ldM (turn v r.2.2) p r.1 (zaZ g.o)).2.2.1))) (ldM (turn v r.2.2) p r.1 (zaZ g.o)).2.1 g:=by
 obtain ⟨pl,b,h1⟩:=r;simp only at hb hu hq ⊢;subst hb;have SX:=hid K;have CW:=hid (Cw.below K (Below.refl _ _));have CL:=hid (fun w (h:St w B z k T (turn v h1) p g)=>ld_s pl (zaZ g.o) h.ms h.hB h.up (ok.turn h1) (U64.le hu).1 (U64.le hu).2);have CA:=hid (fun w (h:St w B z k T v p g)=>zcW B z k T v p g w h hr.2.1);have CF:=hid (fun w (h:Ms w B z v p T)=>zdj (adV v g) 1 h (zaX _).1);rw [hf] at CF;have HA:=hid (show IntKind.u64.wrap (xV v.h g.a+uImm g.i)=adV v g from rfl);generalize adV v g=ad at CF HA ⊢;have HR:=hid hr;generalize ldM (turn v h1) p pl (zaZ g.o)=q at CL hq ⊢;obtain ⟨m1,p1,n1,b1⟩:=q;simp only at hq ⊢;subst hq;clear K hf hr ok hu;go_enter func83,ntmps83;go_upto_region 2 with (first | (go_at_call 81;(with_reducible refine (CA.out _ SX.out).mono ?_);rintro e wb ⟨rfl,kk⟩;have CW:=hid (CW.out.trans (Cw.below SX.out kk));have SX:=hid CW.out.1;clear kk) | (go_at_call 79;(with_reducible refine (zdh z k g _ SX.out.kw).mono ?_);rintro e w8 ⟨rfl,rfl⟩));rw [HA.out];go_upto_region 5 with (first | (with_reducible first | refine zaa rfl rfl (KW.rg SX.out.kw) rfl ?_ | refine zaa rfl rfl (KW.op SX.out.kw) rfl ?_ | refine zaa rfl rfl (KW.ptr SX.out.kw) rfl ?_) | (go_at_call 96;(with_reducible refine (CF.out _ SX.out.ms).mono ?_);rintro e wb ⟨rfl,kk⟩;have CW:=hid (CW.out.ch kk);have SX:=hid CW.out.1;clear kk));refine dr (fun w=>KW w k z g) fun wz hzz=>?_
 have CW:=hid (CW.out.trans (Cw.below SX.out hzz));have SX:=hid CW.out.1;clear hzz;have hS:=SX.out.kw;refine tk 0 hS ?_
 refine tk 1 hS ?_
 refine tk 2 hS ?_
 refine tk 3 hS ?_
 refine tl 4 hS (fun w hw=>KW.ptr hw) ?_
 refine tk 5 hS ?_
 refine tk 6 hS ?_
 refine tk 7 hS ?_
 refine tk 8 hS ?_
 refine tk 9 hS ?_
 refine tl 10 hS (fun w hw=>KW.op hw) ?_
 refine hc 11 (zdn (zhf g.o _)) ?_
 rintro v' wb ⟨rfl,rfl⟩
 refine ⟨hS,fun hS=>?_⟩
 simp only [puts];refine hc 12 (zbC (CL.out _ SX.out)) ?_
 rintro v' wb ⟨rfl,kk⟩
 have CW:=hid (CW.out.ch kk);have SX:=hid CW.out.1;clear kk;refine ⟨SX.out.kw,fun hS=>?_⟩
 simp only [puts];refine tk 13 hS ?_
 refine tk 14 hS ?_
 refine tk 15 hS ?_
 refine tk 16 hS ?_
 refine tk 17 hS ?_
 refine wpAnyH_done (by kernel_rfl) ?_ _
 go_wp2_with (first | (with_reducible first | refine zaa rfl rfl (KW.rg SX.out.kw) rfl ?_ | refine zaa rfl rfl (KW.op SX.out.kw) rfl ?_ | refine zaa rfl rfl (KW.ptr SX.out.kw) rfl ?_) | (go_at_call 105;(with_reducible refine (zhi g.o _ _).mono ?_);rintro e w8 ⟨rfl,rfl⟩) | (go_at_call 78;(with_reducible refine (zdb B z k T _ _ g _ SX.out _ HR.out.1).mono ?_);rintro e wb ⟨rfl,kk⟩;have CW:=hid (CW.out.trans kk);have SX:=hid CW.out.1;clear kk));go_ret;exact ⟨rfl,CW.out⟩
theorem znk (B z k:Nat) (T:Nat→Prop) (v:Mc) (p:Pt) (g:Wk) (W:World) (K:St W B z k T v p g) (hr:Rgs g) (ok:POk v p):Calls Tryz.prog 83 #[.pointer (some ⟨k,0,none⟩)] W fun e W'=>e=.returned (.bool (ldR v p g).1)∧Cw W W' B z k T (ldR v p g).2.1 (ldR v p g).2.2 g:=by
 unfold ldR;rcases Bool.eq_false_or_eq_true (fnH v.h p.D (adV v g) 1).2.1 with hb | hb
 ·rw [if_neg (by rw [hb];decide)]
  simp only;rcases Bool.eq_false_or_eq_true (ldM (turn v (fnH v.h p.D (adV v g) 1).2.2) p (fnH v.h p.D (adV v g) 1).1 (zaZ g.o)).2.2.2 with hq | hq
  ·rw [if_pos hq]
   exact zq6 B z k T v p g W K hr ok _ rfl hb (fn_u _ _ _ _ (zaX _)) hq
  ·rw [if_neg (by rw [hq];decide)]
   exact zrN B z k T v p g W K hr ok _ rfl hb (fn_u _ _ _ _ (zaX _)) hq
 ·rw [if_pos hb]
  exact zn8 B z k T v p g W K hr _ rfl hb
def stR (v:Mc) (p:Pt) (g:Wk):Bool × Mc × Pt :=
 if (fnH v.h p.D (adV v g) 2).2.1=false then (false,turn v (fnH v.h p.D (adV v g) 2).2.2,p) else
 let q:=stM (turn v (fnH v.h p.D (adV v g) 2).2.2) p (fnH v.h p.D (adV v g) 2).1 (zaZ g.o) (xV (fnH v.h p.D (adV v g) 2).2.2 g.b)
 if q.2.2=true then (true,turn q.1 (relH q.1.h),q.2.1) else (false,turn q.1 (tkH q.1.h 7 (adV v g)),q.2.1)
theorem zvO (B z k:Nat) (T:Nat→Prop) (v:Mc) (p:Pt) (g:Wk) (W:World) (K:St W B z k T v p g) (hr:Rgs g) (r:Int × Bool × Hart) (hf:fnH v.h p.D (adV v g) 2=r) (hb:r.2.1=false):Calls Tryz.prog 84 #[.pointer (some ⟨k,0,none⟩)] W fun e W'=>e=.returned (.bool false)∧Cw W W' B z k T (turn v r.2.2) p g:=by
 obtain ⟨pl,b,h1⟩:=r;simp only at hb;subst hb;have SX:=hid K;have CW:=hid (Cw.below K (Below.refl _ _));have CA:=hid (fun w (h:St w B z k T v p g)=>zcW B z k T v p g w h hr.2.1);have CF:=hid (fun w (h:Ms w B z v p T)=>zdj (adV v g) 2 h (zaX _).1);rw [hf] at CF;have HA:=hid (show IntKind.u64.wrap (xV v.h g.a+uImm g.i)=adV v g from rfl);generalize adV v g=ad at CF HA ⊢;clear K hf hr;go_enter func84,ntmps84;go_upto_region 2 with (first | (go_at_call 81;(with_reducible refine (CA.out _ SX.out).mono ?_);rintro e wb ⟨rfl,kk⟩;have CW:=hid (CW.out.trans (Cw.below SX.out kk));have SX:=hid CW.out.1;clear kk) | (go_at_call 79;(with_reducible refine (zdh z k g _ SX.out.kw).mono ?_);rintro e w8 ⟨rfl,rfl⟩));rw [HA.out];go_wp2_with (first | (with_reducible first | refine zaa rfl rfl (KW.rg SX.out.kw) rfl ?_ | refine zaa rfl rfl (KW.op SX.out.kw) rfl ?_ | refine zaa rfl rfl (KW.ptr SX.out.kw) rfl ?_) | (go_at_call 96;(with_reducible refine (CF.out _ SX.out.ms).mono ?_);rintro e wb ⟨rfl,kk⟩;have CW:=hid (CW.out.ch kk);have SX:=hid CW.out.1;clear kk));go_ret;exact ⟨rfl,CW.out⟩
theorem zqx (B z k:Nat) (T:Nat→Prop) (v:Mc) (p:Pt) (g:Wk) (W:World) (K:St W B z k T v p g) (hr:Rgs g) (ok:POk v p) (hO:(p.O.length+1)*32≤140737488355328) (r:Int × Bool × Hart) (hf:fnH v.h p.D (adV v g) 2=r) (hb:r.2.1=true) (hu:Al.U64 r.1) (hx:Al.U64 (xV r.2.2 g.b)) (hq:(stM (turn v r.2.2) p r.1 (zaZ g.o) (xV r.2.2 g.b)).2.2=false):Calls Tryz.prog 84 #[.pointer (some ⟨k,0,none⟩)] W fun e W'=>e=.returned (.bool false)∧Cw W W' B z k T (turn (stM (turn v r.2.2) p r.1 (zaZ g.o) (xV r.2.2 g.b)).1 (tkH (stM (turn v r.2.2) p r.1 (zaZ g.o) (xV r.2.2 g.b)).1.h 7 (adV v g))) (stM (turn v r.2.2) p r.1 (zaZ g.o) (xV r.2.2 g.b)).2.1 g:=by
 obtain ⟨pl,b,h1⟩:=r;simp only at hb hu hx hq ⊢;subst hb;have SX:=hid K;have CW:=hid (Cw.below K (Below.refl _ _));have CB:=hid (fun w (h:St w B z k T (turn v h1) p g)=>zeZ B z k T (turn v h1) p g w h hr.2.2);have CL:=hid (fun w (h:St w B z k T (turn v h1) p g)=>st_s pl (zaZ g.o) (xV h1 g.b) h.ms h.hB h.up (ok.turn h1) hO (U64.le hu) (U64.le hx));have CA:=hid (fun w (h:St w B z k T v p g)=>zcW B z k T v p g w h hr.2.1);have CF:=hid (fun w (h:Ms w B z v p T)=>zdj (adV v g) 2 h (zaX _).1);rw [hf] at CF;have HA:=hid (show IntKind.u64.wrap (xV v.h g.a+uImm g.i)=adV v g from rfl);generalize adV v g=ad at CF HA ⊢;generalize stM (turn v h1) p pl (zaZ g.o) (xV h1 g.b)=q at CL hq ⊢;obtain ⟨m1,p1,b1⟩:=q;simp only at hq ⊢;subst hq;clear K hf hr ok hu hx hO;go_enter func84,ntmps84;go_upto_region 2 with (first | (go_at_call 81;(with_reducible refine (CA.out _ SX.out).mono ?_);rintro e wb ⟨rfl,kk⟩;have CW:=hid (CW.out.trans (Cw.below SX.out kk));have SX:=hid CW.out.1;clear kk) | (go_at_call 79;(with_reducible refine (zdh z k g _ SX.out.kw).mono ?_);rintro e w8 ⟨rfl,rfl⟩));rw [HA.out];go_upto_region 5 with (first | (with_reducible first | refine zaa rfl rfl (KW.rg SX.out.kw) rfl ?_ | refine zaa rfl rfl (KW.op SX.out.kw) rfl ?_ | refine zaa rfl rfl (KW.ptr SX.out.kw) rfl ?_) | (go_at_call 96;(with_reducible refine (CF.out _ SX.out.ms).mono ?_);rintro e wb ⟨rfl,kk⟩;have CW:=hid (CW.out.ch kk);have SX:=hid CW.out.1;clear kk));refine dr (fun w=>KW w k z g) fun wz hzz=>?_
 have CW:=hid (CW.out.trans (Cw.below SX.out hzz));have SX:=hid CW.out.1;clear hzz;have hS:=SX.out.kw;refine tk 0 hS ?_
 refine tk 1 hS ?_
 refine tk 2 hS ?_
 refine tk 3 hS ?_
 refine tl 4 hS (fun w hw=>KW.ptr hw) ?_
 refine tk 5 hS ?_
 refine tk 6 hS ?_
 refine tk 7 hS ?_
 refine tk 8 hS ?_
 refine tk 9 hS ?_
 refine tl 10 hS (fun w hw=>KW.op hw) ?_
 refine tk 12 hS ?_
 refine hc 11 (zdn (zhf g.o _)) ?_
 rintro v' wb ⟨rfl,rfl⟩
 refine ⟨hS,fun hS=>?_⟩
 simp only [puts];refine hc 13 (zbC (CB.out _ SX.out)) ?_
 rintro v' wb ⟨rfl,kk⟩
 have CW:=hid (CW.out.trans (Cw.below SX.out kk));have SX:=hid CW.out.1;clear kk;refine ⟨SX.out.kw,fun hS=>?_⟩
 simp only [puts];refine hc 14 (zbC (CL.out _ SX.out)) ?_
 rintro v' wb ⟨rfl,kk⟩
 have CW:=hid (CW.out.ch kk);have SX:=hid CW.out.1;clear kk;refine ⟨SX.out.kw,fun hS=>?_⟩
 simp only [puts];refine tk 15 hS ?_
 refine wpAnyH_done (by kernel_rfl) ?_ _
 go_wp2_with (first | (with_reducible first | refine zaa rfl rfl (KW.rg SX.out.kw) rfl ?_ | refine zaa rfl rfl (KW.op SX.out.kw) rfl ?_ | refine zaa rfl rfl (KW.ptr SX.out.kw) rfl ?_) | (go_at_call 75;(with_reducible refine (zea 7 ad SX.out.ms).mono ?_);rintro e wb ⟨rfl,kk⟩;have CW:=hid (CW.out.ch kk);have SX:=hid CW.out.1;clear kk));go_ret;exact ⟨rfl,CW.out⟩
theorem zqa (B z k:Nat) (T:Nat→Prop) (v:Mc) (p:Pt) (g:Wk) (W:World) (K:St W B z k T v p g) (hr:Rgs g) (ok:POk v p) (hO:(p.O.length+1)*32≤140737488355328) (r:Int × Bool × Hart) (hf:fnH v.h p.D (adV v g) 2=r) (hb:r.2.1=true) (hu:Al.U64 r.1) (hx:Al.U64 (xV r.2.2 g.b)) (hq:(stM (turn v r.2.2) p r.1 (zaZ g.o) (xV r.2.2 g.b)).2.2=true):Calls Tryz.prog 84 #[.pointer (some ⟨k,0,none⟩)] W fun e W'=>e=.returned (.bool true)∧Cw W W' B z k T (turn (stM (turn v r.2.2) p r.1 (zaZ g.o) (xV r.2.2 g.b)).1 (relH (stM (turn v r.2.2) p r.1 (zaZ g.o) (xV r.2.2 g.b)).1.h)) (stM (turn v r.2.2) p r.1 (zaZ g.o) (xV r.2.2 g.b)).2.1 g:=by
 obtain ⟨pl,b,h1⟩:=r;simp only at hb hu hx hq ⊢;subst hb;have SX:=hid K;have CW:=hid (Cw.below K (Below.refl _ _));have CB:=hid (fun w (h:St w B z k T (turn v h1) p g)=>zeZ B z k T (turn v h1) p g w h hr.2.2);have CL:=hid (fun w (h:St w B z k T (turn v h1) p g)=>st_s pl (zaZ g.o) (xV h1 g.b) h.ms h.hB h.up (ok.turn h1) hO (U64.le hu) (U64.le hx));have CA:=hid (fun w (h:St w B z k T v p g)=>zcW B z k T v p g w h hr.2.1);have CF:=hid (fun w (h:Ms w B z v p T)=>zdj (adV v g) 2 h (zaX _).1);rw [hf] at CF;have HA:=hid (show IntKind.u64.wrap (xV v.h g.a+uImm g.i)=adV v g from rfl);generalize adV v g=ad at CF HA ⊢;generalize stM (turn v h1) p pl (zaZ g.o) (xV h1 g.b)=q at CL hq ⊢;obtain ⟨m1,p1,b1⟩:=q;simp only at hq ⊢;subst hq;clear K hf hr ok hu hx hO;go_enter func84,ntmps84;go_upto_region 2 with (first | (go_at_call 81;(with_reducible refine (CA.out _ SX.out).mono ?_);rintro e wb ⟨rfl,kk⟩;have CW:=hid (CW.out.trans (Cw.below SX.out kk));have SX:=hid CW.out.1;clear kk) | (go_at_call 79;(with_reducible refine (zdh z k g _ SX.out.kw).mono ?_);rintro e w8 ⟨rfl,rfl⟩));rw [HA.out];go_upto_region 5 with (first | (with_reducible first | refine zaa rfl rfl (KW.rg SX.out.kw) rfl ?_ | refine zaa rfl rfl (KW.op SX.out.kw) rfl ?_ | refine zaa rfl rfl (KW.ptr SX.out.kw) rfl ?_) | (go_at_call 96;(with_reducible refine (CF.out _ SX.out.ms).mono ?_);rintro e wb ⟨rfl,kk⟩;have CW:=hid (CW.out.ch kk);have SX:=hid CW.out.1;clear kk));refine dr (fun w=>KW w k z g) fun wz hzz=>?_
 have CW:=hid (CW.out.trans (Cw.below SX.out hzz));have SX:=hid CW.out.1;clear hzz;have hS:=SX.out.kw;refine tk 0 hS ?_
 refine tk 1 hS ?_
 refine tk 2 hS ?_
 refine tk 3 hS ?_
 refine tl 4 hS (fun w hw=>KW.ptr hw) ?_
 refine tk 5 hS ?_
 refine tk 6 hS ?_
 refine tk 7 hS ?_
 refine tk 8 hS ?_
 refine tk 9 hS ?_
 refine tl 10 hS (fun w hw=>KW.op hw) ?_
 refine tk 12 hS ?_
 refine hc 11 (zdn (zhf g.o _)) ?_
 rintro v' wb ⟨rfl,rfl⟩
 refine ⟨hS,fun hS=>?_⟩
 simp only [puts];refine hc 13 (zbC (CB.out _ SX.out)) ?_
 rintro v' wb ⟨rfl,kk⟩
 have CW:=hid (CW.out.trans (Cw.below SX.out kk));have SX:=hid CW.out.1;clear kk;refine ⟨SX.out.kw,fun hS=>?_⟩
 simp only [puts];refine hc 14 (zbC (CL.out _ SX.out)) ?_
 rintro v' wb ⟨rfl,kk⟩
 have CW:=hid (CW.out.ch kk);have SX:=hid CW.out.1;clear kk;refine ⟨SX.out.kw,fun hS=>?_⟩
 simp only [puts];refine tk 15 hS ?_
 refine wpAnyH_done (by kernel_rfl) ?_ _
 go_wp2_with (first | (with_reducible first | refine zaa rfl rfl (KW.rg SX.out.kw) rfl ?_ | refine zaa rfl rfl (KW.op SX.out.kw) rfl ?_ | refine zaa rfl rfl (KW.ptr SX.out.kw) rfl ?_) | (go_at_call 107;(with_reducible refine (zf7 SX.out.ms).mono ?_);rintro e wb ⟨rfl,kk⟩;have CW:=hid (CW.out.ch kk);have SX:=hid CW.out.1;clear kk));go_ret;exact ⟨rfl,CW.out⟩
theorem zt1 (B z k:Nat) (T:Nat→Prop) (v:Mc) (p:Pt) (g:Wk) (W:World) (K:St W B z k T v p g) (hr:Rgs g) (ok:POk v p) (hO:(p.O.length+1)*32≤140737488355328) (hx:∀ (h:Hart),(fnH v.h p.D (adV v g) 2).2.2=h→Al.U64 (xV h g.b)):Calls Tryz.prog 84 #[.pointer (some ⟨k,0,none⟩)] W fun e W'=>e=.returned (.bool (stR v p g).1)∧Cw W W' B z k T (stR v p g).2.1 (stR v p g).2.2 g:=by
 unfold stR;rcases Bool.eq_false_or_eq_true (fnH v.h p.D (adV v g) 2).2.1 with hb | hb
 ·rw [if_neg (by rw [hb];decide)]
  simp only;rcases Bool.eq_false_or_eq_true (stM (turn v (fnH v.h p.D (adV v g) 2).2.2) p (fnH v.h p.D (adV v g) 2).1 (zaZ g.o) (xV (fnH v.h p.D (adV v g) 2).2.2 g.b)).2.2 with hq | hq
  ·rw [if_pos hq]
   exact zqa B z k T v p g W K hr ok hO _ rfl hb (fn_u _ _ _ _ (zaX _)) (hx _ rfl) hq
  ·rw [if_neg (by rw [hq];decide)]
   exact zqx B z k T v p g W K hr ok hO _ rfl hb (fn_u _ _ _ _ (zaX _)) (hx _ rfl) hq
 ·rw [if_pos hb]
  exact zvO B z k T v p g W K hr _ rfl hb
end Go.Proofs.YtplcfdnfeclpmaaGreatDoor
