/- MachineOn, part 33. -/
import Derived.Test.YtplcfdnfeclpmaaGreatDoorV25
import Derived.Test.YtplcfdnfeclpmaaGreatDoorV27
import Derived.Test.YtplcfdnfeclpmaaGreatDoorV32
set_option maxHeartbeats 4000000
set_option maxRecDepth 100000
open Go.Lib (hid)
open Go Go.RowKit Go.Deep Go.Joins Go.Proofs.Tryz
namespace Go.Proofs.YtplcfdnfeclpmaaGreatDoor
def tkH (h:Hart) (c v:Int):Hart:=if 0≤c∧c≤63 then Tr.zdY h c.toNat false v else h
theorem zok (h:Hart) (c v:Int) (W:World):TB 48 #[zat h,.int .i64 c,.bool false,.int .u64 v] W (zat (tkH h c v)):=by
 unfold tkH
 by_cases hc:0≤c∧c≤63
 ·rw [if_pos hc]
  obtain ⟨n,rfl⟩:=Int.eq_ofNat_of_zero_le hc.1;exact Tr.ziX h n false v (by omega) W
 ·rw [if_neg hc]
  exact Tr.zzH h c false v (by omega) W
theorem zj8 (z:Nat) (m:Mc) (c v:Int) (W:World) (K:MBox W z m):Calls Tryz.prog 75 #[rgV z,.int .i64 c,.int .u64 v] W fun e W'=>e=.returned (.bool false)∧Chg W W' z (turn m (tkH m.h c v)):=by
 have C1:=hid (fun w=>zok m.h c v w);generalize tkH m.h c v=h' at C1 ⊢;have X0:=hid (zag W (rgO z));have K0:=hid (heap_alloc_last W (rgO z));have KM:=hid (K.next (zag W (rgO z)));have HNZ:=hid (show W.heap.size≠z from fun e=>absurd (MBox.lt K) (by omega));clear K;go_enter func75,ntmps75;go_upto_region 1 with (fail);generalize W.alloc (.cells (rgC z) 77)=wa at X0 K0 KM ⊢;have SO:=hid (fun w (h:Below wa.heap.size wa w)=>(h.block _ (Array.getElem?_eq_some_iff.1 K0.out).1).trans K0.out);have KZ:=hid (fun w (h:Below wa.heap.size wa w)=>MBox.next KM.out h);have X:=hid (Below.refl wa.heap.size wa);refine dr (fun w=>w.heap[W.heap.size]?=some (rgO z)) fun wz hzz=>?_
 have X:=hid (zac X.out hzz);clear hzz;have hS:=SO.out _ X.out;refine tk 0 hS ?_
 refine tl 1 hS (fun w hw=>zdF hw) ?_
 refine tk 2 hS ?_
 refine tl 3 hS (fun w hw=>zdF hw) ?_
 refine tk 4 hS ?_
 refine tk 5 hS ?_
 refine tk 7 hS ?_
 refine tk 8 hS ?_
 refine hl 6 (MBox.load_hart (KZ.out _ X.out)) hS ?_
 refine hc 9 (zbL (C1.out _)) ?_
 rintro v' wb ⟨rfl,kk⟩
 have X:=hid (zac X.out kk);refine ⟨SO.out _ X.out,fun hS=>?_⟩
 clear kk;simp only [puts];refine tk 10 hS ?_
 refine tk 11 hS ?_
 refine hs 12 (MBox.store_hart (KZ.out _ X.out) h') fun wy hw=>?_
 have HW:=hid hw;clear hw;refine ⟨by rw [HW.out];exact (setRow_other _ _ _ _ HNZ.out).trans hS,fun hS=>?_⟩
 refine wpAnyH_done (by kernel_rfl) ?_ _
 go_wp2_with fail;go_ret;exact ⟨rfl,_,zac X0.out X.out,HW.out⟩
def putH (h:Hart) (n v:Int):Hart:=if n=0 then h else { h with x:=h.x.set n.toNat v,hx:=by rw [List.length_set];exact h.hx }
theorem zvE (z:Nat) (m:Mc) (n v:Int) (W:World) (K:MBox W z m) (hr:0≤n∧n<32):Calls Tryz.prog 100 #[rgV z,.int .i64 n,.int .u64 v] W fun e W'=>e=.returned (.tuple #[])∧Chg W W' z (turn m (putH m.h n v)):=by
 unfold putH
 by_cases h0:n=0
 ·subst h0
  rw [if_pos rfl];have KK:=hid K;have X0:=hid (zag W (rgO z));clear K;go_enter func100,ntmps100;go_wp2_with fail;refine bodyPost_end (results_none rfl _ _ _) rfl ⟨rfl,?_⟩
  exact Chg.none KK.out X0.out
 ·rw [if_neg h0]
  obtain ⟨j,rfl⟩:=Int.eq_ofNat_of_zero_le hr.1;have hj:j<32:=by omega
  have g0:(((j:Nat):Int) != 0)=true:=bne_iff_ne.2 h0;have g1:decide (((j:Nat):Int)<32)=true:=decide_eq_true (by omega);clear hr h0;have X0:=hid (zag W (rgO z));have K0:=hid (heap_alloc_last W (rgO z));have KM:=hid (K.next (zag W (rgO z)));have HNZ:=hid (show W.heap.size≠z from fun e=>absurd (MBox.lt K) (by omega));clear K;go_enter func100,ntmps100;go_upto_region 1 with (fail);generalize W.alloc (.cells (rgC z) 77)=wa at X0 K0 KM ⊢;have SO:=hid (fun w (h:Below wa.heap.size wa w)=>(h.block _ (Array.getElem?_eq_some_iff.1 K0.out).1).trans K0.out);have KZ:=hid (fun w (h:Below wa.heap.size wa w)=>MBox.next KM.out h);have X:=hid (Below.refl wa.heap.size wa);have m_p:wa.cell? ⟨W.heap.size,0,none⟩=some (.pointer (some ⟨z,0,none⟩)):=cell_of_row _ _ 0 _ 77 (0,0) K0.out;have S1:=hid (MBox.store_x (m':=turn m { m.h with x:=m.h.x.set ((j:Nat):Int).toNat v,hx:=by rw [List.length_set];exact m.h.hx }) KM.out j v hj rfl rfl rfl rfl);clear KM KZ SO;go_wp2_with (with_reducible refine zan rfl rfl S1.out rfl rfl ?_);refine bodyPost_end (results_none rfl _ _ _) rfl ⟨rfl,?_⟩
  exact ⟨_,X0.out,rfl⟩
def relH (h:Hart):Hart:={ h with held:=false,rat:=0 }
theorem znD (z:Nat) (m:Mc) (W:World) (K:MBox W z m):Calls Tryz.prog 107 #[rgV z] W fun e W'=>e=.returned (.tuple #[])∧Chg W W' z (turn m (relH m.h)):=by
 have X0:=hid (zag W (rgO z));have K0:=hid (heap_alloc_last W (rgO z));have KM:=hid (K.next (zag W (rgO z)));have HNZ:=hid (show W.heap.size≠z from fun e=>absurd (MBox.lt K) (by omega));clear K;go_enter func107,ntmps107;go_upto_region 1 with (fail);generalize W.alloc (.cells (rgC z) 77)=wa at X0 K0 KM ⊢;have SO:=hid (fun w (h:Below wa.heap.size wa w)=>(h.block _ (Array.getElem?_eq_some_iff.1 K0.out).1).trans K0.out);have KZ:=hid (fun w (h:Below wa.heap.size wa w)=>MBox.next KM.out h);have X:=hid (Below.refl wa.heap.size wa);refine dr (fun w=>w.heap[W.heap.size]?=some (rgO z)) fun wz hzz=>?_
 have X:=hid (zac X.out hzz);clear hzz;have hS:=SO.out _ X.out;refine tk 0 hS ?_
 refine tl 1 hS (fun w hw=>zdF hw) ?_
 refine tk 2 hS ?_
 refine tl 3 hS (fun w hw=>zdF hw) ?_
 refine tk 4 hS ?_
 refine tk 5 hS ?_
 refine tk 6 hS ?_
 refine hs 7 (MBox.store_h (m':=turn m { m.h with held:=false }) (KZ.out _ X.out) 4 18 (.bool false) zev rfl rfl (by decide) rfl rfl rfl rfl) fun wa1 hw=>?_
 have HW:=hid hw;have KM2:=hid (MBox.put (KZ.out _ X.out) hw);clear hw;refine ⟨by rw [HW.out];exact (setRow_other _ _ _ _ HNZ.out).trans hS,fun hS=>?_⟩
 refine tk 8 hS ?_
 refine tk 9 hS ?_
 refine tk 10 hS ?_
 refine hs 11 (MBox.store_h (m':=turn m (relH m.h)) KM2.out 22 19 (.int .u64 0) zbX rfl rfl (by decide) rfl rfl rfl rfl) fun wa2 hw=>?_
 have HW2:=hid (show wa2=wz.setRow z (mcC (turn m (relH m.h))) by rw [hw,HW.out];exact setRow_setRow _ _ _ _);clear hw;refine ⟨by rw [HW2.out];exact (setRow_other _ _ _ _ HNZ.out).trans (SO.out _ X.out),fun hS=>?_⟩
 refine wpAnyH_done (by kernel_rfl) ?_ _
 go_wp2_with fail;refine bodyPost_end (results_none rfl _ _ _) rfl ⟨rfl,?_⟩
 exact ⟨_,zac X0.out X.out,HW2.out⟩
def fnH (h:Hart) (D:List UInt8) (t kind:Int):Int × Bool × Hart :=
 if (Wk.zbr D h.c.s0 h.c.s15 h.mode t kind).2=-1 then ((Wk.zbr D h.c.s0 h.c.s15 h.mode t kind).1,true,h)
 else (0,false,tkH h (Wk.zbr D h.c.s0 h.c.s15 h.mode t kind).2 t)
abbrev regC (c:Reg):Array Value:=#[.int .u64 c.s0,.int .u64 c.s1,.int .u64 c.s2,.int .u64 c.s3,.int .u64 c.s4,.int .u64 c.s5,.int .u64 c.s6,.int .u64 c.s7,.int .u64 c.s8,.int .u64 c.s9,.int .u64 c.s10,.int .u64 c.s11,.int .u64 c.s12,.int .u64 c.s13,.int .u64 c.s14,.int .u64 c.s15]
theorem ziM (c:Reg) (md:Int) (dv mv:Value) (E:Int) (D:List UInt8) (t kind:Int) (W:World) (hd:DAt W dv D) (h0:0≤t):TB 116 #[regV c,.int .i64 md,.agg #[dv,mv,.int .u64 E],.int .u64 t,.int .i64 kind] W (.tuple #[.int .u64 (Wk.zbr D c.s0 c.s15 md t kind).1,.int .i64 (Wk.zbr D c.s0 c.s15 md t kind).2]) :=
 Wk.zpC (regC c) #[dv,mv,.int .u64 E] c.s0 c.s15 md t kind D W ⟨rfl,rfl,rfl⟩ rfl h0 fun w hb t h0 h1=>zi6 dv mv (.int .u64 E) D t 8 w (hd.below hb) h0 h1
theorem zlS (z:Nat) (m:Mc) (D:List UInt8) (t kind:Int) (W:World) (K:MBox W z m) (hd:DAt W m.dv D) (h0:0≤t) (hr:(Wk.zbr D m.h.c.s0 m.h.c.s15 m.h.mode t kind).2=-1):Calls Tryz.prog 96 #[rgV z,.int .u64 t,.int .i64 kind] W fun e W'=>e=.returned (.tuple #[.int .u64 (fnH m.h D t kind).1,.bool (fnH m.h D t kind).2.1])∧Chg W W' z (turn m (fnH m.h D t kind).2.2):=by
 have C1:=hid (fun w (h:Below W.heap.size W w)=>ziM m.h.c m.h.mode m.dv m.mv m.E D t kind w (hd.below h) h0);unfold fnH;generalize Wk.zbr D m.h.c.s0 m.h.c.s15 m.h.mode t kind=r at C1 hr ⊢;obtain ⟨pl,cs⟩:=r;simp only at C1;clear hd h0;simp only at hr;subst hr;rw [if_pos rfl];have X0:=hid (zag W (rgO z));have K0:=hid (heap_alloc_last W (rgO z));have KM:=hid (K.next (zag W (rgO z)));have HNZ:=hid (show W.heap.size≠z from fun e=>absurd (MBox.lt K) (by omega));clear K;go_enter func96,ntmps96;go_upto_region 1 with (fail);generalize W.alloc (.cells (rgC z) 77)=wa at X0 K0 KM ⊢;have SO:=hid (fun w (h:Below wa.heap.size wa w)=>(h.block _ (Array.getElem?_eq_some_iff.1 K0.out).1).trans K0.out);have KZ:=hid (fun w (h:Below wa.heap.size wa w)=>MBox.next KM.out h);have X:=hid (Below.refl wa.heap.size wa);refine dr (fun w=>MBox w z m∧w.heap[W.heap.size]?=some (rgO z)) fun wz hzz=>?_
 have X:=hid (zac X.out hzz);clear hzz;have hS:=(And.intro (KZ.out _ X.out) (SO.out _ X.out));refine tk 0 hS ?_
 refine tl 1 hS (fun w hw=>zdF hw.2) ?_
 refine tk 2 hS ?_
 refine tk 3 hS ?_
 refine tk 4 hS ?_
 refine tl 5 hS (fun w hw=>MBox.load_reg hw.1) ?_
 refine tk 6 hS ?_
 refine tl 7 hS (fun w hw=>zdF hw.2) ?_
 refine tk 8 hS ?_
 refine tk 9 hS ?_
 refine tk 10 hS ?_
 refine tl 11 hS (fun w hw=>MBox.load_mode hw.1) ?_
 refine tk 12 hS ?_
 refine tl 13 hS (fun w hw=>zdF hw.2) ?_
 refine tk 14 hS ?_
 refine tk 15 hS ?_
 refine tl 16 hS (fun w hw=>MBox.load_ram hw.1) ?_
 refine tk 17 hS ?_
 refine tk 18 hS ?_
 refine hc 19 (zbL (C1.out _ (zac X0.out X.out))) ?_
 rintro v' wb ⟨rfl,kk⟩
 have X:=hid (zac X.out kk);refine ⟨(And.intro (KZ.out _ X.out) (SO.out _ X.out)),fun hS=>?_⟩
 clear kk;simp only [puts];refine tk 20 hS ?_
 refine tk 21 hS ?_
 refine tk 22 hS ?_
 refine tk 23 hS ?_
 refine tk 24 hS ?_
 refine wpAnyH_done (by kernel_rfl) ?_ _
 go_wp2_with fail;go_ret2;exact ⟨rfl,Chg.trans (Chg.none (KZ.out _ X.out) (Below.refl _ _)) (zac X0.out X.out)⟩
theorem zmG (z:Nat) (m:Mc) (D:List UInt8) (t kind:Int) (W:World) (K:MBox W z m) (hd:DAt W m.dv D) (h0:0≤t) (hr:(Wk.zbr D m.h.c.s0 m.h.c.s15 m.h.mode t kind).2≠-1):Calls Tryz.prog 96 #[rgV z,.int .u64 t,.int .i64 kind] W fun e W'=>e=.returned (.tuple #[.int .u64 (fnH m.h D t kind).1,.bool (fnH m.h D t kind).2.1])∧Chg W W' z (turn m (fnH m.h D t kind).2.2):=by
 have C1:=hid (fun w (h:Below W.heap.size W w)=>ziM m.h.c m.h.mode m.dv m.mv m.E D t kind w (hd.below h) h0);unfold fnH;generalize Wk.zbr D m.h.c.s0 m.h.c.s15 m.h.mode t kind=r at C1 hr ⊢;obtain ⟨pl,cs⟩:=r;simp only at C1;clear hd h0;simp only at hr ⊢;have g0:(cs != -1)=true:=bne_iff_ne.2 hr;rw [if_neg hr];clear hr;have C2:=hid (fun w (h:MBox w z m)=>zj8 z m cs t w h);have X0:=hid (zag W (rgO z));have K0:=hid (heap_alloc_last W (rgO z));have KM:=hid (K.next (zag W (rgO z)));have HNZ:=hid (show W.heap.size≠z from fun e=>absurd (MBox.lt K) (by omega));clear K;go_enter func96,ntmps96;go_upto_region 1 with (fail);generalize W.alloc (.cells (rgC z) 77)=wa at X0 K0 KM ⊢;have SO:=hid (fun w (h:Below wa.heap.size wa w)=>(h.block _ (Array.getElem?_eq_some_iff.1 K0.out).1).trans K0.out);have KZ:=hid (fun w (h:Below wa.heap.size wa w)=>MBox.next KM.out h);have X:=hid (Below.refl wa.heap.size wa);refine dr (fun w=>MBox w z m∧w.heap[W.heap.size]?=some (rgO z)) fun wz hzz=>?_
 have X:=hid (zac X.out hzz);clear hzz;have hS:=(And.intro (KZ.out _ X.out) (SO.out _ X.out));refine tk 0 hS ?_
 refine tl 1 hS (fun w hw=>zdF hw.2) ?_
 refine tk 2 hS ?_
 refine tk 3 hS ?_
 refine tk 4 hS ?_
 refine tl 5 hS (fun w hw=>MBox.load_reg hw.1) ?_
 refine tk 6 hS ?_
 refine tl 7 hS (fun w hw=>zdF hw.2) ?_
 refine tk 8 hS ?_
 refine tk 9 hS ?_
 refine tk 10 hS ?_
 refine tl 11 hS (fun w hw=>MBox.load_mode hw.1) ?_
 refine tk 12 hS ?_
 refine tl 13 hS (fun w hw=>zdF hw.2) ?_
 refine tk 14 hS ?_
 refine tk 15 hS ?_
 refine tl 16 hS (fun w hw=>MBox.load_ram hw.1) ?_
 refine tk 17 hS ?_
 refine tk 18 hS ?_
 refine hc 19 (zbL (C1.out _ (zac X0.out X.out))) ?_
 rintro v' wb ⟨rfl,kk⟩
 have X:=hid (zac X.out kk);refine ⟨(And.intro (KZ.out _ X.out) (SO.out _ X.out)),fun hS=>?_⟩
 clear kk;simp only [puts];refine tk 20 hS ?_
 refine tk 21 hS ?_
 refine tk 22 hS ?_
 refine tk 23 hS ?_
 refine tk 24 hS ?_
 refine wpAnyH_done (by kernel_rfl) ?_ _
 go_wp2_with (first | (with_reducible refine zaa rfl rfl (zgR (SO.out _ X.out)) rfl ?_) | (go_at_call 75;(with_reducible refine (C2.out _ (KZ.out _ X.out)).mono ?_);rintro e wc ⟨rfl,hc⟩;have HC:=hid hc;clear hc));go_ret2;exact ⟨rfl,Chg.trans HC.out (zac X0.out X.out)⟩
def zaZ (op:Int):Int :=
 if op∈([11,15,18]:List Int) then 1 else
 if op∈([12,16,19]:List Int) then 2 else
 if op∈([13,17,20]:List Int) then 4 else
 8
theorem zhf (op:Int) (W:World):TW 104 #[.int .i64 op] W (.int .i64 (zaZ op)):=by
 by_cases hm:op∈([11,15,18,12,16,19,13,17,20]:List Int)
 ·simp only [List.mem_cons,List.not_mem_nil,or_false] at hm
  rcases hm with rfl | rfl | rfl | rfl | rfl | rfl | rfl | rfl | rfl
  all_goals
   go_enter func104,ntmps104;go_wp2_with fail;go_ret;exact ⟨rfl,rfl⟩
 have hn:=hm;have m11:(op==(11:Int))=false:=by rw [beq_eq_false_iff_ne];exact fun e=>hn (by rw [e];decide)
 have m15:(op==(15:Int))=false:=by rw [beq_eq_false_iff_ne];exact fun e=>hn (by rw [e];decide)
 have m18:(op==(18:Int))=false:=by rw [beq_eq_false_iff_ne];exact fun e=>hn (by rw [e];decide)
 have m12:(op==(12:Int))=false:=by rw [beq_eq_false_iff_ne];exact fun e=>hn (by rw [e];decide)
 have m16:(op==(16:Int))=false:=by rw [beq_eq_false_iff_ne];exact fun e=>hn (by rw [e];decide)
 have m19:(op==(19:Int))=false:=by rw [beq_eq_false_iff_ne];exact fun e=>hn (by rw [e];decide)
 have m13:(op==(13:Int))=false:=by rw [beq_eq_false_iff_ne];exact fun e=>hn (by rw [e];decide)
 have m17:(op==(17:Int))=false:=by rw [beq_eq_false_iff_ne];exact fun e=>hn (by rw [e];decide)
 have m20:(op==(20:Int))=false:=by rw [beq_eq_false_iff_ne];exact fun e=>hn (by rw [e];decide)
 have hv:zaZ op=8:=by
  unfold zaZ;rw [if_neg (fun h=>hm (by simp only [List.mem_cons,List.not_mem_nil,or_false] at h ⊢;omega))];rw [if_neg (fun h=>hm (by simp only [List.mem_cons,List.not_mem_nil,or_false] at h ⊢;omega))];rw [if_neg (fun h=>hm (by simp only [List.mem_cons,List.not_mem_nil,or_false] at h ⊢;omega))]
 rw [hv];clear hv hn hm;go_enter func104,ntmps104;go_wp2_with fail;go_ret;exact ⟨rfl,rfl⟩
def zcP (op:Int):Int :=
 if op∈([73,74,75,76,77,78,79,80,81,82,83]:List Int) then 4 else
 if op∈([84,85,86,87,88,89,90,91,92,93,94]:List Int) then 8 else
 0
theorem zlt (op:Int) (W:World):TW 89 #[.int .i64 op] W (.int .i64 (zcP op)):=by
 by_cases hm:op∈([73,74,75,76,77,78,79,80,81,82,83,84,85,86,87,88,89,90,91,92,93,94]:List Int)
 ·simp only [List.mem_cons,List.not_mem_nil,or_false] at hm
  rcases hm with rfl | rfl | rfl | rfl | rfl | rfl | rfl | rfl | rfl | rfl | rfl | rfl | rfl | rfl | rfl | rfl | rfl | rfl | rfl | rfl | rfl | rfl
  all_goals
   go_enter func89,ntmps89;go_wp2_with fail;go_ret;exact ⟨rfl,rfl⟩
 have hn:=hm;have m73:(op==(73:Int))=false:=by rw [beq_eq_false_iff_ne];exact fun e=>hn (by rw [e];decide)
 have m74:(op==(74:Int))=false:=by rw [beq_eq_false_iff_ne];exact fun e=>hn (by rw [e];decide)
 have m75:(op==(75:Int))=false:=by rw [beq_eq_false_iff_ne];exact fun e=>hn (by rw [e];decide)
 have m76:(op==(76:Int))=false:=by rw [beq_eq_false_iff_ne];exact fun e=>hn (by rw [e];decide)
 have m77:(op==(77:Int))=false:=by rw [beq_eq_false_iff_ne];exact fun e=>hn (by rw [e];decide)
 have m78:(op==(78:Int))=false:=by rw [beq_eq_false_iff_ne];exact fun e=>hn (by rw [e];decide)
 have m79:(op==(79:Int))=false:=by rw [beq_eq_false_iff_ne];exact fun e=>hn (by rw [e];decide)
 have m80:(op==(80:Int))=false:=by rw [beq_eq_false_iff_ne];exact fun e=>hn (by rw [e];decide)
 have m81:(op==(81:Int))=false:=by rw [beq_eq_false_iff_ne];exact fun e=>hn (by rw [e];decide)
 have m82:(op==(82:Int))=false:=by rw [beq_eq_false_iff_ne];exact fun e=>hn (by rw [e];decide)
 have m83:(op==(83:Int))=false:=by rw [beq_eq_false_iff_ne];exact fun e=>hn (by rw [e];decide)
 have m84:(op==(84:Int))=false:=by rw [beq_eq_false_iff_ne];exact fun e=>hn (by rw [e];decide)
 have m85:(op==(85:Int))=false:=by rw [beq_eq_false_iff_ne];exact fun e=>hn (by rw [e];decide)
 have m86:(op==(86:Int))=false:=by rw [beq_eq_false_iff_ne];exact fun e=>hn (by rw [e];decide)
 have m87:(op==(87:Int))=false:=by rw [beq_eq_false_iff_ne];exact fun e=>hn (by rw [e];decide)
 have m88:(op==(88:Int))=false:=by rw [beq_eq_false_iff_ne];exact fun e=>hn (by rw [e];decide)
 have m89:(op==(89:Int))=false:=by rw [beq_eq_false_iff_ne];exact fun e=>hn (by rw [e];decide)
 have m90:(op==(90:Int))=false:=by rw [beq_eq_false_iff_ne];exact fun e=>hn (by rw [e];decide)
 have m91:(op==(91:Int))=false:=by rw [beq_eq_false_iff_ne];exact fun e=>hn (by rw [e];decide)
 have m92:(op==(92:Int))=false:=by rw [beq_eq_false_iff_ne];exact fun e=>hn (by rw [e];decide)
 have m93:(op==(93:Int))=false:=by rw [beq_eq_false_iff_ne];exact fun e=>hn (by rw [e];decide)
 have m94:(op==(94:Int))=false:=by rw [beq_eq_false_iff_ne];exact fun e=>hn (by rw [e];decide)
 have hv:zcP op=0:=by
  unfold zcP;rw [if_neg (fun h=>hm (by simp only [List.mem_cons,List.not_mem_nil,or_false] at h ⊢;omega))];rw [if_neg (fun h=>hm (by simp only [List.mem_cons,List.not_mem_nil,or_false] at h ⊢;omega))]
 rw [hv];clear hv hn hm;go_enter func89,ntmps89;go_wp2_with fail;go_ret;exact ⟨rfl,rfl⟩
def zek (op:Int):Bool :=
 if op∈([22,23,24,25,26,27,28,29,30,41,42,43,44]:List Int) then true else
 false
theorem zkq (op:Int) (W:World):TW 114 #[.int .i64 op] W (.bool (zek op)):=by
 by_cases hm:op∈([22,23,24,25,26,27,28,29,30,41,42,43,44]:List Int)
 ·simp only [List.mem_cons,List.not_mem_nil,or_false] at hm
  rcases hm with rfl | rfl | rfl | rfl | rfl | rfl | rfl | rfl | rfl | rfl | rfl | rfl | rfl
  all_goals
   go_enter func114,ntmps114;go_wp2_with fail;go_ret;exact ⟨rfl,rfl⟩
 have hn:=hm;have m22:(op==(22:Int))=false:=by rw [beq_eq_false_iff_ne];exact fun e=>hn (by rw [e];decide)
 have m23:(op==(23:Int))=false:=by rw [beq_eq_false_iff_ne];exact fun e=>hn (by rw [e];decide)
 have m24:(op==(24:Int))=false:=by rw [beq_eq_false_iff_ne];exact fun e=>hn (by rw [e];decide)
 have m25:(op==(25:Int))=false:=by rw [beq_eq_false_iff_ne];exact fun e=>hn (by rw [e];decide)
 have m26:(op==(26:Int))=false:=by rw [beq_eq_false_iff_ne];exact fun e=>hn (by rw [e];decide)
 have m27:(op==(27:Int))=false:=by rw [beq_eq_false_iff_ne];exact fun e=>hn (by rw [e];decide)
 have m28:(op==(28:Int))=false:=by rw [beq_eq_false_iff_ne];exact fun e=>hn (by rw [e];decide)
 have m29:(op==(29:Int))=false:=by rw [beq_eq_false_iff_ne];exact fun e=>hn (by rw [e];decide)
 have m30:(op==(30:Int))=false:=by rw [beq_eq_false_iff_ne];exact fun e=>hn (by rw [e];decide)
 have m41:(op==(41:Int))=false:=by rw [beq_eq_false_iff_ne];exact fun e=>hn (by rw [e];decide)
 have m42:(op==(42:Int))=false:=by rw [beq_eq_false_iff_ne];exact fun e=>hn (by rw [e];decide)
 have m43:(op==(43:Int))=false:=by rw [beq_eq_false_iff_ne];exact fun e=>hn (by rw [e];decide)
 have m44:(op==(44:Int))=false:=by rw [beq_eq_false_iff_ne];exact fun e=>hn (by rw [e];decide)
 have hv:zek op=false:=by
  unfold zek;rw [if_neg (fun h=>hm (by simp only [List.mem_cons,List.not_mem_nil,or_false] at h ⊢;omega))]
 rw [hv];clear hv hn hm;go_enter func114,ntmps114;go_wp2_with fail;go_ret;exact ⟨rfl,rfl⟩
def resB (op:Int):Bool:=op==73 || op==84
theorem zgz (op:Int) (W:World):TW 111 #[.int .i64 op] W (.bool (resB op)):=by
 unfold resB;rcases Bool.eq_false_or_eq_true (op==73) with h | h
 ·go_enter func111,ntmps111
  go_wp2_with fail;go_ret;exact ⟨by rw [h];rfl,rfl⟩
 ·go_enter func111,ntmps111
  go_wp2_with fail;go_ret;exact ⟨by rw [h];rfl,rfl⟩
def uImm (i:Int):Int:=IntKind.u64.wrap i
theorem zdh (z k:Nat) (g:Wk) (W:World) (K:KW W k z g):TW 79 #[.pointer (some ⟨k,0,none⟩)] W (.int .u64 (uImm g.i)):=by
 have K:=hid K;go_enter func79,ntmps79;go_wp2_with (with_reducible refine zaa rfl rfl (KW.imm K.out) rfl ?_);go_ret;exact ⟨rfl,rfl⟩
theorem zjD {ρ:Operand→Value} {o:Oper} {x y:Operand} {z n:Nat} {w:World} (ho:o.op=.indexAddr 23 x y) (hx:ρ x=.pointer (some ⟨z,0,none⟩)) (hy:ρ y=.int .i64 (n:Nat)) (hn:n<32):(execOp ρ o).run Tryz.prog w=.ok (.value (.pointer (some ⟨z,n,none⟩))) w:=by
 have h:((n:Nat):Int)<32:=by omega
 unfold execOp;rw [ho];simp only [hx,hy];go_simp
abbrev Rgs (g:Wk):Prop:=(0≤g.r∧g.r<32)∧(0≤g.a∧g.a<32)∧(0≤g.b∧g.b<32)
theorem zcW (B z k:Nat) (T:Nat→Prop) (v:Mc) (p:Pt) (g:Wk) (W:World) (K:St W B z k T v p g) (hr:0≤g.a∧g.a<32):TB 81 #[.pointer (some ⟨k,0,none⟩)] W (.int .u64 (xV v.h g.a)):=by
 obtain ⟨n,hn⟩:=Int.eq_ofNat_of_zero_le hr.1;have hn32:n<32:=by omega
 rw [hn];have SO:=hid (fun w (h:Below W.heap.size W w)=>K.next h);have X:=hid (Below.refl W.heap.size W);clear K hr;go_enter func81,ntmps81;go_upto_region 1 with (fail);refine dr (fun w=>St w B z k T v p g) fun wz hzz=>?_
 have X:=hid (zac X.out hzz);clear hzz;have hS:=SO.out _ X.out;refine tk 0 hS ?_
 refine tk 1 hS ?_
 refine tk 2 hS ?_
 refine tk 3 hS ?_
 refine tl 4 hS (fun w hw=>KW.ptr hw.kw) ?_
 refine tk 5 hS ?_
 refine tk 6 hS ?_
 refine tk 7 hS ?_
 refine tk 8 hS ?_
 refine tl 9 hS (fun w hw=>(KW.rs1 hw.kw).trans (by rw [hn])) ?_
 refine tk 10 hS ?_
 refine tk 11 hS ?_
 refine tk 12 hS ?_
 refine tk 13 hS (hy:=Or.inl ⟨by rfl,fun w _=>zjD rfl rfl rfl hn32⟩) ?_
 refine tl 14 hS (fun w hw=>St.l_x hw n hn32) ?_
 refine tk 15 hS ?_
 refine wpAnyH_done (by kernel_rfl) ?_ _
 go_wp2_with fail;go_ret;exact ⟨rfl,X.out⟩
theorem zeZ (B z k:Nat) (T:Nat→Prop) (v:Mc) (p:Pt) (g:Wk) (W:World) (K:St W B z k T v p g) (hr:0≤g.b∧g.b<32):TB 102 #[.pointer (some ⟨k,0,none⟩)] W (.int .u64 (xV v.h g.b)):=by
 obtain ⟨n,hn⟩:=Int.eq_ofNat_of_zero_le hr.1;have hn32:n<32:=by omega
 rw [hn];have SO:=hid (fun w (h:Below W.heap.size W w)=>K.next h);have X:=hid (Below.refl W.heap.size W);clear K hr;go_enter func102,ntmps102;go_upto_region 1 with (fail);refine dr (fun w=>St w B z k T v p g) fun wz hzz=>?_
 have X:=hid (zac X.out hzz);clear hzz;have hS:=SO.out _ X.out;refine tk 0 hS ?_
 refine tk 1 hS ?_
 refine tk 2 hS ?_
 refine tk 3 hS ?_
 refine tl 4 hS (fun w hw=>KW.ptr hw.kw) ?_
 refine tk 5 hS ?_
 refine tk 6 hS ?_
 refine tk 7 hS ?_
 refine tk 8 hS ?_
 refine tl 9 hS (fun w hw=>(KW.rs2 hw.kw).trans (by rw [hn])) ?_
 refine tk 10 hS ?_
 refine tk 11 hS ?_
 refine tk 12 hS ?_
 refine tk 13 hS (hy:=Or.inl ⟨by rfl,fun w _=>zjD rfl rfl rfl hn32⟩) ?_
 refine tl 14 hS (fun w hw=>St.l_x hw n hn32) ?_
 refine tk 15 hS ?_
 refine wpAnyH_done (by kernel_rfl) ?_ _
 go_wp2_with fail;go_ret;exact ⟨rfl,X.out⟩
def zeo (v:Mc) (g:Wk):Int:=if g.o∈([57,58,59]:List Int) then IntKind.u64.wrap g.a else xV v.h g.a
theorem zp9 (B z k:Nat) (T:Nat→Prop) (v:Mc) (p:Pt) (g:Wk) (W:World) (K:St W B z k T v p g) (hr:0≤g.a∧g.a<32):TB 151 #[.pointer (some ⟨k,0,none⟩)] W (.int .u64 (zeo v g)):=by
 have C1:=hid (zcW B z k T v p g W K hr);have KW0:=hid K.kw;clear K;unfold zeo
 by_cases hm:g.o∈([57,58,59]:List Int)
 ·rw [if_pos hm]
  clear hr C1;simp only [List.mem_cons,List.not_mem_nil,or_false] at hm;rcases hm with h | h | h
  all_goals
   have H:=hid ((KW.op KW0.out).trans (by rw [h]));clear h;go_enter func151,ntmps151;go_wp2_with (with_reducible first | refine zaa rfl rfl H.out rfl ?_ | refine zaa rfl rfl (KW.rs1 KW0.out) rfl ?_);go_ret;exact ⟨rfl,Below.refl _ _⟩
 ·rw [if_neg hm]
  generalize hop:g.o=op at hm;have H:=hid ((KW.op KW0.out).trans (by rw [hop]));have hn:=hm;have m57:(op==(57:Int))=false:=by rw [beq_eq_false_iff_ne];exact fun e=>hn (by rw [e];decide)
  have m58:(op==(58:Int))=false:=by rw [beq_eq_false_iff_ne];exact fun e=>hn (by rw [e];decide)
  have m59:(op==(59:Int))=false:=by rw [beq_eq_false_iff_ne];exact fun e=>hn (by rw [e];decide)
  clear hn hm hop hr;go_enter func151,ntmps151;go_wp2_with (first | (with_reducible refine zaa rfl rfl H.out rfl ?_) | (go_at_call 81;(with_reducible refine C1.out.mono ?_);rintro e w1 ⟨rfl,kk⟩;have X:=hid kk;clear kk));go_ret;exact ⟨rfl,X.out⟩
def wrV (v:Mc) (g:Wk) (was:Int):Int × Bool :=
 if g.o∈([55,58]:List Int) then (bits .or .u64 was (zeo v g),g.a != 0) else
 if g.o∈([56,59]:List Int) then (bits .andNot .u64 was (zeo v g),g.a != 0) else
 (zeo v g,true)
theorem zhK (B z k:Nat) (T:Nat→Prop) (v:Mc) (p:Pt) (g:Wk) (was:Int) (W:World) (K:St W B z k T v p g) (hr:0≤g.a∧g.a<32):TB 109 #[.pointer (some ⟨k,0,none⟩),.int .u64 was] W (.tuple #[.int .u64 (wrV v g was).1,.bool (wrV v g was).2]):=by
 have C1:=hid (fun w (h:Below W.heap.size W w)=>zp9 B z k T v p g w (K.next h) hr);have SO:=hid (fun w (h:Below W.heap.size W w)=>K.next h);have X:=hid (Below.refl W.heap.size W);clear K hr;unfold wrV;generalize zeo v g=gv at C1 ⊢
 by_cases h1:g.o∈([55,58]:List Int)
 ·rw [if_pos h1]
  simp only [List.mem_cons,List.not_mem_nil,or_false] at h1;rcases h1 with h | h
  all_goals
   have KO0:=hid (fun w (j:Below W.heap.size W w)=>(KW.op (SO.out w j).kw).trans (by rw [h]));clear h;go_enter func109,ntmps109;go_upto_region 1 with (fail);refine dr (fun w=>St w B z k T v p g) fun wz hzz=>?_
   have X:=hid (zac X.out hzz);clear hzz;have hS:=SO.out _ X.out;refine tk 0 hS ?_
   refine tk 2 hS ?_
   refine tk 3 hS ?_
   refine tk 4 hS ?_
   refine tk 5 hS ?_
   refine tl 6 hS (fun w hw=>KW.rs1 hw.kw) ?_
   refine tk 7 hS ?_
   refine hc 1 (zbL (C1.out _ X.out)) ?_
   rintro v' wb ⟨rfl,kk⟩
   have X:=hid (zac X.out kk);refine ⟨SO.out _ X.out,fun hS=>?_⟩
   clear kk;simp only [puts];refine tk 8 hS ?_
   refine tk 9 hS ?_
   refine wpAnyH_done (by kernel_rfl) ?_ _
   have KO:=hid (KO0.out _ X.out);go_wp2_with (with_reducible refine zaa rfl rfl KO.out rfl ?_);go_ret2;exact ⟨rfl,X.out⟩
 rw [if_neg h1]
 by_cases h2:g.o∈([56,59]:List Int)
 ·rw [if_pos h2]
  clear h1;simp only [List.mem_cons,List.not_mem_nil,or_false] at h2;rcases h2 with h | h
  all_goals
   have KO0:=hid (fun w (j:Below W.heap.size W w)=>(KW.op (SO.out w j).kw).trans (by rw [h]));clear h;go_enter func109,ntmps109;go_upto_region 1 with (fail);refine dr (fun w=>St w B z k T v p g) fun wz hzz=>?_
   have X:=hid (zac X.out hzz);clear hzz;have hS:=SO.out _ X.out;refine tk 0 hS ?_
   refine tk 2 hS ?_
   refine tk 3 hS ?_
   refine tk 4 hS ?_
   refine tk 5 hS ?_
   refine tl 6 hS (fun w hw=>KW.rs1 hw.kw) ?_
   refine tk 7 hS ?_
   refine hc 1 (zbL (C1.out _ X.out)) ?_
   rintro v' wb ⟨rfl,kk⟩
   have X:=hid (zac X.out kk);refine ⟨SO.out _ X.out,fun hS=>?_⟩
   clear kk;simp only [puts];refine tk 8 hS ?_
   refine tk 9 hS ?_
   refine wpAnyH_done (by kernel_rfl) ?_ _
   have KO:=hid (KO0.out _ X.out);go_wp2_with (with_reducible refine zaa rfl rfl KO.out rfl ?_);go_ret2;exact ⟨rfl,X.out⟩
 rw [if_neg h2];generalize hop:g.o=op at h1 h2;have KO0:=hid (fun w (j:Below W.heap.size W w)=>(KW.op (SO.out w j).kw).trans (by rw [hop]));have hn:op ∉ ([55,58,56,59]:List Int):=by simp only [List.mem_cons,List.not_mem_nil,or_false] at h1 h2 ⊢;omega
 have m55:(op==(55:Int))=false:=by rw [beq_eq_false_iff_ne];exact fun e=>hn (by rw [e];decide)
 have m58:(op==(58:Int))=false:=by rw [beq_eq_false_iff_ne];exact fun e=>hn (by rw [e];decide)
 have m56:(op==(56:Int))=false:=by rw [beq_eq_false_iff_ne];exact fun e=>hn (by rw [e];decide)
 have m59:(op==(59:Int))=false:=by rw [beq_eq_false_iff_ne];exact fun e=>hn (by rw [e];decide)
 clear hn h1 h2 hop;go_enter func109,ntmps109;go_upto_region 1 with (fail);refine dr (fun w=>St w B z k T v p g) fun wz hzz=>?_
 have X:=hid (zac X.out hzz);clear hzz;have hS:=SO.out _ X.out;refine tk 0 hS ?_
 refine tk 2 hS ?_
 refine tk 3 hS ?_
 refine tk 4 hS ?_
 refine tk 5 hS ?_
 refine tl 6 hS (fun w hw=>KW.rs1 hw.kw) ?_
 refine tk 7 hS ?_
 refine hc 1 (zbL (C1.out _ X.out)) ?_
 rintro v' wb ⟨rfl,kk⟩
 have X:=hid (zac X.out kk);refine ⟨SO.out _ X.out,fun hS=>?_⟩
 clear kk;simp only [puts];refine tk 8 hS ?_
 refine tk 9 hS ?_
 refine wpAnyH_done (by kernel_rfl) ?_ _
 have KO:=hid (KO0.out _ X.out);go_wp2_with (with_reducible refine zaa rfl rfl KO.out rfl ?_);go_ret2;exact ⟨rfl,X.out⟩
end Go.Proofs.YtplcfdnfeclpmaaGreatDoor
