/- MachineOn, part 39. -/
import Derived.Test.YtplcfdnfeclpmaaGreatDoorV36
import Derived.Test.YtplcfdnfeclpmaaGreatDoorV38
set_option maxHeartbeats 4000000
set_option maxRecDepth 100000
open Go.Lib (hid)
namespace Go.Proofs.YtplcfdnfeclpmaaGreatDoor
open Go.RowKit Go.Deep Go.Joins
noncomputable def ctR (v:Mc) (g:Wk):Bool × Hart :=
 let r:=Cs.rdV v.h.c v.h.mode g.i g.l v.cnt
 if r.2=false then (false,noH v.h g) else
 if (wrV v g r.1).2=true then
  let c:=Cs.wtV v.h.c v.h.mode g.i (wrV v g r.1).1
  if c.2=false then (false,noH v.h g) else (true,putH { v.h with c:=c.1 } g.r r.1)
 else (true,putH v.h g.r r.1)
theorem zuj (B z k:Nat) (T:Nat→Prop) (v:Mc) (p:Pt) (g:Wk) (W:World) (K:St W B z k T v p g) (hc:Cs.RU v.h.c) (hn:Cs.U64 v.cnt) (was:Int) (h1:Cs.rdV v.h.c v.h.mode g.i g.l v.cnt=(was,false)):Calls Tryz.prog 85 #[.pointer (some ⟨k,0,none⟩)] W fun e W'=>e=.returned (.bool false)∧Cw W W' B z k T (turn v (noH v.h g)) p g:=by
 have SX:=hid K;have CW:=hid (Cw.below K (Below.refl _ _));have CR:=hid (fun w=>Cs.zgq v.h.c v.h.mode g.i g.l v.cnt hc hn w);rw [h1] at CR;clear K h1 hc hn;go_enter Tryz.func85,Tryz.ntmps85;go_upto_region 1 with (fail);refine dr (fun w=>St w B z k T v p g) fun wz hzz=>?_
 have CW:=hid (CW.out.trans (Cw.below SX.out hzz));have SX:=hid CW.out.1;clear hzz;have hS:=SX.out;refine tk 0 hS ?_
 refine tk 1 hS ?_
 refine tk 2 hS ?_
 refine tk 3 hS ?_
 refine tl 4 hS (fun w hw=>KW.ptr hw.kw) ?_
 refine tk 5 hS ?_
 refine tk 6 hS ?_
 refine tk 7 hS ?_
 refine tk 8 hS ?_
 refine tk 9 hS ?_
 refine tk 10 hS ?_
 refine tl 11 hS (fun w hw=>KW.imm hw.kw) ?_
 refine tk 12 hS ?_
 refine tk 13 hS ?_
 refine wpAnyH_done (by kernel_rfl) ?_ _
 go_upto_region 2 with (fail);refine dr (fun w=>St w B z k T v p g) fun wz hzz=>?_
 have CW:=hid (CW.out.trans (Cw.below SX.out hzz));have SX:=hid CW.out.1;clear hzz;have hS:=SX.out;refine tk 0 hS ?_
 refine tk 1 hS ?_
 refine tk 2 hS ?_
 refine tl 3 hS (fun w hw=>St.l_reg hw) ?_
 refine tk 4 hS ?_
 refine tk 5 hS ?_
 refine tk 6 hS ?_
 refine tl 7 hS (fun w hw=>St.l_mode hw) ?_
 refine tk 8 hS ?_
 refine tk 9 hS ?_
 refine tk 10 hS ?_
 refine tk 11 hS ?_
 refine tl 12 hS (fun w hw=>KW.l hw.kw) ?_
 refine tk 13 hS ?_
 refine tk 14 hS ?_
 refine tk 15 hS ?_
 refine tk 16 hS ?_
 refine tl 17 hS (fun w hw=>KW.ptr hw.kw) ?_
 refine tk 18 hS ?_
 refine tk 19 hS ?_
 refine tl 20 hS (fun w hw=>St.l_cnt hw) ?_
 refine hc 21 (zbC (CR.out _)) ?_
 rintro v' wb ⟨rfl,kk⟩
 have CW:=hid (CW.out.trans (Cw.below SX.out kk));have SX:=hid CW.out.1;clear kk;refine ⟨SX.out,fun hS=>?_⟩
 simp only [puts];refine tk 22 hS ?_
 refine tk 23 hS ?_
 refine tk 24 hS ?_
 refine tk 25 hS ?_
 refine tk 26 hS ?_
 refine wpAnyH_done (by kernel_rfl) ?_ _
 go_wp2_with (go_at_call 77;(with_reducible refine (ze3 B z k T v p g _ SX.out).mono ?_);rintro e wb ⟨rfl,kk⟩;have CW:=hid (CW.out.trans kk);have SX:=hid CW.out.1;clear kk);go_ret;exact ⟨rfl,CW.out⟩
theorem ztM (B z k:Nat) (T:Nat→Prop) (v:Mc) (p:Pt) (g:Wk) (W:World) (K:St W B z k T v p g) (hr:Rgs g) (hc:Cs.RU v.h.c) (hn:Cs.U64 v.cnt) (was:Int) (h1:Cs.rdV v.h.c v.h.mode g.i g.l v.cnt=(was,true)) (x:Int) (h2:wrV v g was=(x,false)):Calls Tryz.prog 85 #[.pointer (some ⟨k,0,none⟩)] W fun e W'=>e=.returned (.bool true)∧Cw W W' B z k T (turn v (putH v.h g.r was)) p g:=by
 have SX:=hid K;have CW:=hid (Cw.below K (Below.refl _ _));have CR:=hid (fun w=>Cs.zgq v.h.c v.h.mode g.i g.l v.cnt hc hn w);rw [h1] at CR;have CV:=hid (fun w (h:St w B z k T v p g)=>zhK B z k T v p g was w h hr.2.1);rw [h2] at CV;have HR:=hid hr;clear K h1 h2 hc hn hr;go_enter Tryz.func85,Tryz.ntmps85;go_upto_region 1 with (fail);refine dr (fun w=>St w B z k T v p g) fun wz hzz=>?_
 have CW:=hid (CW.out.trans (Cw.below SX.out hzz));have SX:=hid CW.out.1;clear hzz;have hS:=SX.out;refine tk 0 hS ?_
 refine tk 1 hS ?_
 refine tk 2 hS ?_
 refine tk 3 hS ?_
 refine tl 4 hS (fun w hw=>KW.ptr hw.kw) ?_
 refine tk 5 hS ?_
 refine tk 6 hS ?_
 refine tk 7 hS ?_
 refine tk 8 hS ?_
 refine tk 9 hS ?_
 refine tk 10 hS ?_
 refine tl 11 hS (fun w hw=>KW.imm hw.kw) ?_
 refine tk 12 hS ?_
 refine tk 13 hS ?_
 refine wpAnyH_done (by kernel_rfl) ?_ _
 go_upto_region 2 with (fail);refine dr (fun w=>St w B z k T v p g) fun wz hzz=>?_
 have CW:=hid (CW.out.trans (Cw.below SX.out hzz));have SX:=hid CW.out.1;clear hzz;have hS:=SX.out;refine tk 0 hS ?_
 refine tk 1 hS ?_
 refine tk 2 hS ?_
 refine tl 3 hS (fun w hw=>St.l_reg hw) ?_
 refine tk 4 hS ?_
 refine tk 5 hS ?_
 refine tk 6 hS ?_
 refine tl 7 hS (fun w hw=>St.l_mode hw) ?_
 refine tk 8 hS ?_
 refine tk 9 hS ?_
 refine tk 10 hS ?_
 refine tk 11 hS ?_
 refine tl 12 hS (fun w hw=>KW.l hw.kw) ?_
 refine tk 13 hS ?_
 refine tk 14 hS ?_
 refine tk 15 hS ?_
 refine tk 16 hS ?_
 refine tl 17 hS (fun w hw=>KW.ptr hw.kw) ?_
 refine tk 18 hS ?_
 refine tk 19 hS ?_
 refine tl 20 hS (fun w hw=>St.l_cnt hw) ?_
 refine hc 21 (zbC (CR.out _)) ?_
 rintro v' wb ⟨rfl,kk⟩
 have CW:=hid (CW.out.trans (Cw.below SX.out kk));have SX:=hid CW.out.1;clear kk;refine ⟨SX.out,fun hS=>?_⟩
 simp only [puts];refine tk 22 hS ?_
 refine tk 23 hS ?_
 refine tk 24 hS ?_
 refine tk 25 hS ?_
 refine tk 26 hS ?_
 refine wpAnyH_done (by kernel_rfl) ?_ _
 go_wp2_with (first | (go_at_call 109;(with_reducible refine (CV.out _ SX.out).mono ?_);rintro e wb ⟨rfl,kk⟩;have CW:=hid (CW.out.trans (Cw.below SX.out kk));have SX:=hid CW.out.1;clear kk) | (go_at_call 78;(with_reducible refine (zdb B z k T v p g _ SX.out was HR.out.1).mono ?_);rintro e wb ⟨rfl,kk⟩;have CW:=hid (CW.out.trans kk);have SX:=hid CW.out.1;clear kk));go_ret;exact ⟨rfl,CW.out⟩
abbrev czO:Obj:=.cells #[.int .u64 0,.int .u64 0,.int .u64 0,.int .u64 0,.int .u64 0,.int .u64 0,.int .u64 0,.int .u64 0,.int .u64 0,.int .u64 0,.int .u64 0,.int .u64 0,.int .u64 0,.int .u64 0,.int .u64 0,.int .u64 0] 25
theorem zhd {w:World} {b:Nat} {old:Array Value} (c:Reg) (h:w.heap[b]?=some (.cells old 25 (0,0))) (ho:old.size=16):(Instr.storeAt 25 (.pointer (some ⟨b,0,none⟩)) (regV c)).run Tryz.prog w=.ok () (w.setRow b (regC c)):=by
 simp only [Instr.storeAt,Instr.sureAddr,Sem.run_bind,Sem.run_pure,Result.andThen];exact run_storeVar_row w b 25 25 old (regC c) h (by rw [zc2];rfl) (by rw [ho];rfl) (by simp [Value.oneCell'])
theorem zjT {w:World} {b:Nat} {c:Reg} (h:w.heap[b]?=some (.cells (regC c) 25 (0,0))):(Instr.loadAt 25 (.pointer (some ⟨b,0,none⟩))).run Tryz.prog w=.ok (regV c) w:=by
 simp only [Instr.loadAt,Instr.sureAddr,Sem.run_bind,Sem.run_pure,Result.andThen];exact run_loadVar_row w b 25 25 (regC c) (0,0) _ h Tryz.underlying25 rfl (by rw [zc2];rfl)
structure Cv (w:World) (B z k:Nat) (T:Nat→Prop) (v:Mc) (p:Pt) (g:Wk) (b:Nat) (cs:Array Value):Prop where
 st:St w B z k T v p g
 bx:w.heap[b]?=some (.cells cs 25 (0,0))
 sep:Ms w B z v p (fun x=>T x∧x≠b)
 tb:T b
theorem Ms.sep {W:World} {B z:Nat} {v:Mc} {p:Pt} {T:Nat→Prop} (K:Ms W B z v p T) (o:Obj):Ms (W.alloc o) B z v p (fun x=>T x∧x≠W.heap.size):=by
 obtain ⟨m,s1,s2,s3⟩:=K;refine ⟨m,s1,s2.next (zag W o),fun x hx=>⟨s3 x hx,fun e=>?_⟩⟩
 have:=(s2.lt hx).2;omega
theorem St.setc {w:World} {B z k:Nat} {T:Nat→Prop} {v:Mc} {p:Pt} {g:Wk} (K:St w B z k T v p g) (c:Reg):∃ cs,(Instr.storeAt 25 (.pointer (some ⟨z,34,none⟩)) (regV c)).run Tryz.prog w=.ok () (w.setRow z cs)∧Cw w (w.setRow z cs) B z k T (turn v { v.h with c:=c }) p g:=by
 obtain ⟨m,s1,s2,s3⟩:=K.ms;have e:turn v { v.h with c:=c }=turn v { m.h with c:=c }:=by rw [s1.h]
 rw [e];refine ⟨mcC (turn m { m.h with c:=c }),?_,Cw.of K (Chg.ch s1 s2 s3 ⟨w,Below.refl _ _,rfl⟩)⟩
 refine zfk w z 34 42 25 (mcC m) (mcC (turn m { m.h with c:=c })) (regC c) s2.box (by rw [zc2];rfl) (by simp [Value.oneCell']) (by rw [zcA];show 34+16≤79;omega) ?_
 show mcL _=(mcL m).take 34 ++ _ ++ (mcL m).drop (34+16)
 have h1:mcL m=(xL m.h ++ [.int .u64 m.h.pc,.int .i64 m.h.mode]) ++ (((zbA m.h).drop 2).take 16 ++ (([.bool m.h.held,.int .u64 m.h.rat]:List Value) ++ ((bdC m.b).toList ++ mcT m))):=by unfold mcL zby;simp [zbA,List.append_assoc]
 have h2:mcL (turn m { m.h with c:=c })=(xL m.h ++ [.int .u64 m.h.pc,.int .i64 m.h.mode]) ++ ((regC c).toList ++ (([.bool m.h.held,.int .u64 m.h.rat]:List Value) ++ ((bdC m.b).toList ++ mcT m))):=by unfold mcL zby;simp [zbA,xL,List.append_assoc,mcT]
 rw [h1,h2];exact zfF (xL m.h ++ [.int .u64 m.h.pc,.int .i64 m.h.mode]) (((zbA m.h).drop 2).take 16) _ (regC c).toList 34 16 (by rw [List.length_append,zdS];rfl) rfl
theorem Cv.new {w:World} {B z k:Nat} {T:Nat→Prop} {v:Mc} {p:Pt} {g:Wk} (K:St w B z k T v p g):Cv (w.alloc czO) B z k T v p g w.heap.size #[.int .u64 0,.int .u64 0,.int .u64 0,.int .u64 0,.int .u64 0,.int .u64 0,.int .u64 0,.int .u64 0,.int .u64 0,.int .u64 0,.int .u64 0,.int .u64 0,.int .u64 0,.int .u64 0,.int .u64 0,.int .u64 0]:=⟨K.next (zag w czO),heap_alloc_last w czO,K.ms.sep czO,K.up _ (Nat.le_refl _)⟩
section
variable {w w' : World} {B z k b : Nat} {T : Nat → Prop} {v : Mc} {p : Pt} {g : Wk} {cs : Array Value}
theorem Cv.next (h:Cv w B z k T v p g b cs) (hb:Below w.heap.size w w'):Cv w' B z k T v p g b cs:=⟨h.st.next hb,(hb.block b (Array.getElem?_eq_some_iff.1 h.bx).1).trans h.bx,h.sep.next hb,h.tb⟩
theorem Cv.put (h:Cv w B z k T v p g b cs) (cs':Array Value):Cw w (w.setRow b cs') B z k T v p g∧Cv (w.setRow b cs') B z k T v p g b cs':=by
 have ht:zau w (w.setRow b cs') (fun x=>x=b):=(zau.refl w (fun x=>x=b)).setRow (.inl rfl) _;have hk:KW w k z g:=h.st.kw;have hbk:k≠b:=fun e=>h.st.nk (e ▸ h.tb)
 have hm:Ms (w.setRow b cs') B z v p (fun x=>T x∧x≠b):=by
  obtain ⟨m,s1,s2,s3⟩:=h.sep;exact ⟨m,s1,s2.keep fun x hx=>ht.block x (s2.lt hx).2 (s3 x hx).2,s3⟩
 have hst:St (w.setRow b cs') B z k T v p g:=⟨hm.mono fun _ h=>h.1,Nat.le_trans h.st.hB ht.size,fun x hx=>h.st.up x (Nat.le_trans ht.size hx),hk.touch ht hbk,h.st.nk⟩;exact ⟨⟨hst,ht.mono fun x _ hx=>.inl (hx ▸ h.tb)⟩,⟨hst,setRow_heap w b _ cs' 25 (0,0) h.bx,hm,h.tb⟩⟩
end
theorem zAP (B z k:Nat) (T:Nat→Prop) (v:Mc) (p:Pt) (g:Wk) (W:World) (K:St W B z k T v p g) (hr:Rgs g) (hc:Cs.RU v.h.c) (hn:Cs.U64 v.cnt) (was:Int) (h1:Cs.rdV v.h.c v.h.mode g.i g.l v.cnt=(was,true)) (x:Int) (hxu:Cs.U64 x) (h2:wrV v g was=(x,true)) (c2:Reg) (h3:Cs.wtV v.h.c v.h.mode g.i x=(c2,false)):Calls Tryz.prog 85 #[.pointer (some ⟨k,0,none⟩)] W fun e W'=>e=.returned (.bool false)∧Cw W W' B z k T (turn v (noH v.h g)) p g:=by
 have SX:=hid K;have CW:=hid (Cw.below K (Below.refl _ _));have CR:=hid (fun w=>Cs.zgq v.h.c v.h.mode g.i g.l v.cnt hc hn w);rw [h1] at CR;have CV:=hid (fun w (h:St w B z k T v p g)=>zhK B z k T v p g was w h hr.2.1);rw [h2] at CV;have HR:=hid hr;have CT:=hid (fun w=>Cs.zjc v.h.c v.h.mode g.i x hc hxu w);rw [h3] at CT;clear K h1 h2 h3 hc hn hr hxu;go_enter Tryz.func85,Tryz.ntmps85;go_upto_region 1 with (fail);refine dr (fun w=>St w B z k T v p g) fun wz hzz=>?_
 have CW:=hid (CW.out.trans (Cw.below SX.out hzz));have SX:=hid CW.out.1;clear hzz;have hS:=SX.out;refine tk 0 hS ?_
 refine tk 1 hS ?_
 refine tk 2 hS ?_
 refine tk 3 hS ?_
 refine tl 4 hS (fun w hw=>KW.ptr hw.kw) ?_
 refine tk 5 hS ?_
 refine tk 6 hS ?_
 refine tk 7 hS ?_
 refine tk 8 hS ?_
 refine tk 9 hS ?_
 refine tk 10 hS ?_
 refine tl 11 hS (fun w hw=>KW.imm hw.kw) ?_
 refine tk 12 hS ?_
 refine tk 13 hS ?_
 refine wpAnyH_done (by kernel_rfl) ?_ _
 go_upto_region 2 with (fail);refine dr (fun w=>St w B z k T v p g) fun wz hzz=>?_
 have CW:=hid (CW.out.trans (Cw.below SX.out hzz));have SX:=hid CW.out.1;clear hzz;have hS:=SX.out;refine tk 0 hS ?_
 refine tk 1 hS ?_
 refine tk 2 hS ?_
 refine tl 3 hS (fun w hw=>St.l_reg hw) ?_
 refine tk 4 hS ?_
 refine tk 5 hS ?_
 refine tk 6 hS ?_
 refine tl 7 hS (fun w hw=>St.l_mode hw) ?_
 refine tk 8 hS ?_
 refine tk 9 hS ?_
 refine tk 10 hS ?_
 refine tk 11 hS ?_
 refine tl 12 hS (fun w hw=>KW.l hw.kw) ?_
 refine tk 13 hS ?_
 refine tk 14 hS ?_
 refine tk 15 hS ?_
 refine tk 16 hS ?_
 refine tl 17 hS (fun w hw=>KW.ptr hw.kw) ?_
 refine tk 18 hS ?_
 refine tk 19 hS ?_
 refine tl 20 hS (fun w hw=>St.l_cnt hw) ?_
 refine hc 21 (zbC (CR.out _)) ?_
 rintro v' wb ⟨rfl,kk⟩
 have CW:=hid (CW.out.trans (Cw.below SX.out kk));have SX:=hid CW.out.1;clear kk;refine ⟨SX.out,fun hS=>?_⟩
 simp only [puts];refine tk 22 hS ?_
 refine tk 23 hS ?_
 refine tk 24 hS ?_
 refine tk 25 hS ?_
 refine tk 26 hS ?_
 refine wpAnyH_done (by kernel_rfl) ?_ _
 go_upto_region 7 with (go_at_call 109;(with_reducible refine (CV.out _ SX.out).mono ?_);rintro e wb ⟨rfl,kk⟩;have CW:=hid (CW.out.trans (Cw.below SX.out kk));have SX:=hid CW.out.1;clear kk);refine dr (fun w=>St w B z k T v p g) fun wz hzz=>?_
 have CW:=hid (CW.out.trans (Cw.below SX.out hzz));have SX:=hid CW.out.1;clear hzz;have hS:=SX.out;refine tk 0 hS ?_
 refine tk 1 hS ?_
 refine tk 2 hS ?_
 refine tl 3 hS (fun w hw=>St.l_reg hw) ?_
 refine tk 4 hS ?_
 refine tk 5 hS ?_
 refine tk 6 hS ?_
 refine tl 7 hS (fun w hw=>St.l_mode hw) ?_
 refine tk 8 hS ?_
 refine tk 9 hS ?_
 refine two 10 14 (cc 10 (zbL (CT.out _)) ?_ (al 14 (Cv.new SX.out).st ?_ AllReadyH.nil))
 ·rintro v' wb ⟨rfl,kk⟩
  have CW:=hid (CW.out.trans (Cw.below SX.out kk));have SX:=hid CW.out.1;clear kk;refine ⟨SX.out,fun hS=>?_⟩
  simp only [puts];refine tk 11 hS ?_
  refine tk 12 hS ?_
  refine tk 13 hS ?_
  have VX:=hid (Cv.new SX.out);have CW:=hid (CW.out.trans (Cw.below SX.out (zag _ czO)));refine ho 14 VX.out.st ?_
  generalize wb.heap.size=bx at VX ⊢;generalize wb.alloc czO=wn at VX CW ⊢;refine hs 15 (zhd c2 VX.out.bx rfl) fun wy hw=>?_
  have VY:=hid (VX.out.put (regC c2));rw [← hw] at VY;have CW:=hid (CW.out.trans VY.out.1);have VX:=hid VY.out.2;clear hw VY;refine ⟨VX.out.st,fun hS=>?_⟩
  refine tk 16 hS ?_
  refine wpAnyH_done (by kernel_rfl) ?_ _
  go_wp2_with (go_at_call 77;(with_reducible refine (ze3 B z k T v p g _ VX.out.st).mono ?_);rintro e wb ⟨rfl,kk⟩;have CW:=hid (CW.out.trans kk);clear kk);go_ret;exact ⟨rfl,CW.out⟩
 ·have VX:=hid (Cv.new SX.out)
  have CW:=hid (CW.out.trans (Cw.below SX.out (zag _ czO)));generalize wz.heap.size=bx at VX ⊢;generalize wz.alloc czO=wn at VX CW ⊢;have hS:=VX.out.st;refine hc 10 (zbL (CT.out _)) ?_
  rintro v' wb ⟨rfl,kk⟩
  have CW:=hid (CW.out.trans (Cw.below VX.out.st kk));have VX:=hid (VX.out.next kk);clear kk;refine ⟨VX.out.st,fun hS=>?_⟩
  simp only [puts];refine tk 11 hS ?_
  refine tk 12 hS ?_
  refine tk 13 hS ?_
  refine hs 15 (zhd c2 VX.out.bx rfl) fun wy hw=>?_
  have VY:=hid (VX.out.put (regC c2));rw [← hw] at VY;have CW:=hid (CW.out.trans VY.out.1);have VX:=hid VY.out.2;clear hw VY;refine ⟨VX.out.st,fun hS=>?_⟩
  refine tk 16 hS ?_
  refine wpAnyH_done (by kernel_rfl) ?_ _
  go_wp2_with (go_at_call 77;(with_reducible refine (ze3 B z k T v p g _ VX.out.st).mono ?_);rintro e wb ⟨rfl,kk⟩;have CW:=hid (CW.out.trans kk);clear kk);go_ret;exact ⟨rfl,CW.out⟩
theorem zpX (B z k:Nat) (T:Nat→Prop) (v:Mc) (p:Pt) (g:Wk) (W:World) (K:St W B z k T v p g) (hr:Rgs g) (hc:Cs.RU v.h.c) (hn:Cs.U64 v.cnt) (was:Int) (h1:Cs.rdV v.h.c v.h.mode g.i g.l v.cnt=(was,true)) (x:Int) (hxu:Cs.U64 x) (h2:wrV v g was=(x,true)) (c2:Reg) (h3:Cs.wtV v.h.c v.h.mode g.i x=(c2,true)):Calls Tryz.prog 85 #[.pointer (some ⟨k,0,none⟩)] W fun e W'=>e=.returned (.bool true)∧Cw W W' B z k T (turn v (putH { v.h with c:=c2 } g.r was)) p g:=by
 have SX:=hid K;have CW:=hid (Cw.below K (Below.refl _ _));have CR:=hid (fun w=>Cs.zgq v.h.c v.h.mode g.i g.l v.cnt hc hn w);rw [h1] at CR;have CV:=hid (fun w (h:St w B z k T v p g)=>zhK B z k T v p g was w h hr.2.1);rw [h2] at CV;have HR:=hid hr;have CT:=hid (fun w=>Cs.zjc v.h.c v.h.mode g.i x hc hxu w);rw [h3] at CT;clear K h1 h2 h3 hc hn hr hxu;go_enter Tryz.func85,Tryz.ntmps85;go_upto_region 1 with (fail);refine dr (fun w=>St w B z k T v p g) fun wz hzz=>?_
 have CW:=hid (CW.out.trans (Cw.below SX.out hzz));have SX:=hid CW.out.1;clear hzz;have hS:=SX.out;refine tk 0 hS ?_
 refine tk 1 hS ?_
 refine tk 2 hS ?_
 refine tk 3 hS ?_
 refine tl 4 hS (fun w hw=>KW.ptr hw.kw) ?_
 refine tk 5 hS ?_
 refine tk 6 hS ?_
 refine tk 7 hS ?_
 refine tk 8 hS ?_
 refine tk 9 hS ?_
 refine tk 10 hS ?_
 refine tl 11 hS (fun w hw=>KW.imm hw.kw) ?_
 refine tk 12 hS ?_
 refine tk 13 hS ?_
 refine wpAnyH_done (by kernel_rfl) ?_ _
 go_upto_region 2 with (fail);refine dr (fun w=>St w B z k T v p g) fun wz hzz=>?_
 have CW:=hid (CW.out.trans (Cw.below SX.out hzz));have SX:=hid CW.out.1;clear hzz;have hS:=SX.out;refine tk 0 hS ?_
 refine tk 1 hS ?_
 refine tk 2 hS ?_
 refine tl 3 hS (fun w hw=>St.l_reg hw) ?_
 refine tk 4 hS ?_
 refine tk 5 hS ?_
 refine tk 6 hS ?_
 refine tl 7 hS (fun w hw=>St.l_mode hw) ?_
 refine tk 8 hS ?_
 refine tk 9 hS ?_
 refine tk 10 hS ?_
 refine tk 11 hS ?_
 refine tl 12 hS (fun w hw=>KW.l hw.kw) ?_
 refine tk 13 hS ?_
 refine tk 14 hS ?_
 refine tk 15 hS ?_
 refine tk 16 hS ?_
 refine tl 17 hS (fun w hw=>KW.ptr hw.kw) ?_
 refine tk 18 hS ?_
 refine tk 19 hS ?_
 refine tl 20 hS (fun w hw=>St.l_cnt hw) ?_
 refine hc 21 (zbC (CR.out _)) ?_
 rintro v' wb ⟨rfl,kk⟩
 have CW:=hid (CW.out.trans (Cw.below SX.out kk));have SX:=hid CW.out.1;clear kk;refine ⟨SX.out,fun hS=>?_⟩
 simp only [puts];refine tk 22 hS ?_
 refine tk 23 hS ?_
 refine tk 24 hS ?_
 refine tk 25 hS ?_
 refine tk 26 hS ?_
 refine wpAnyH_done (by kernel_rfl) ?_ _
 go_upto_region 7 with (go_at_call 109;(with_reducible refine (CV.out _ SX.out).mono ?_);rintro e wb ⟨rfl,kk⟩;have CW:=hid (CW.out.trans (Cw.below SX.out kk));have SX:=hid CW.out.1;clear kk);refine dr (fun w=>St w B z k T v p g) fun wz hzz=>?_
 have CW:=hid (CW.out.trans (Cw.below SX.out hzz));have SX:=hid CW.out.1;clear hzz;have hS:=SX.out;refine tk 0 hS ?_
 refine tk 1 hS ?_
 refine tk 2 hS ?_
 refine tl 3 hS (fun w hw=>St.l_reg hw) ?_
 refine tk 4 hS ?_
 refine tk 5 hS ?_
 refine tk 6 hS ?_
 refine tl 7 hS (fun w hw=>St.l_mode hw) ?_
 refine tk 8 hS ?_
 refine tk 9 hS ?_
 refine two 10 14 (cc 10 (zbL (CT.out _)) ?_ (al 14 (Cv.new SX.out).st ?_ AllReadyH.nil))
 ·rintro v' wb ⟨rfl,kk⟩
  have CW:=hid (CW.out.trans (Cw.below SX.out kk));have SX:=hid CW.out.1;clear kk;refine ⟨SX.out,fun hS=>?_⟩
  simp only [puts];refine tk 11 hS ?_
  refine tk 12 hS ?_
  refine tk 13 hS ?_
  have VX:=hid (Cv.new SX.out);have CW:=hid (CW.out.trans (Cw.below SX.out (zag _ czO)));refine ho 14 VX.out.st ?_
  generalize wb.heap.size=bx at VX ⊢;generalize wb.alloc czO=wn at VX CW ⊢;refine hs 15 (zhd c2 VX.out.bx rfl) fun wy hw=>?_
  have VY:=hid (VX.out.put (regC c2));rw [← hw] at VY;have CW:=hid (CW.out.trans VY.out.1);have VX:=hid VY.out.2;clear hw VY;refine ⟨VX.out.st,fun hS=>?_⟩
  refine tk 16 hS ?_
  refine wpAnyH_done (by kernel_rfl) ?_ _
  obtain ⟨cs,hst,hcw⟩:=VX.out.st.setc c2;have HST:=hid hst;have CW:=hid (CW.out.trans hcw);have SX:=hid CW.out.1;clear hst hcw;go_wp2_with (first | (with_reducible first | refine zaa rfl rfl (zjT VX.out.bx) rfl ?_ | refine zan rfl rfl HST.out rfl rfl ?_) | (go_at_call 78;(with_reducible refine (zdb B z k T _ p g _ SX.out was HR.out.1).mono ?_);rintro e wb ⟨rfl,kk⟩;have CW:=hid (CW.out.trans kk);clear kk));go_ret;exact ⟨rfl,CW.out⟩
 ·have VX:=hid (Cv.new SX.out)
  have CW:=hid (CW.out.trans (Cw.below SX.out (zag _ czO)));generalize wz.heap.size=bx at VX ⊢;generalize wz.alloc czO=wn at VX CW ⊢;have hS:=VX.out.st;refine hc 10 (zbL (CT.out _)) ?_
  rintro v' wb ⟨rfl,kk⟩
  have CW:=hid (CW.out.trans (Cw.below VX.out.st kk));have VX:=hid (VX.out.next kk);clear kk;refine ⟨VX.out.st,fun hS=>?_⟩
  simp only [puts];refine tk 11 hS ?_
  refine tk 12 hS ?_
  refine tk 13 hS ?_
  refine hs 15 (zhd c2 VX.out.bx rfl) fun wy hw=>?_
  have VY:=hid (VX.out.put (regC c2));rw [← hw] at VY;have CW:=hid (CW.out.trans VY.out.1);have VX:=hid VY.out.2;clear hw VY;refine ⟨VX.out.st,fun hS=>?_⟩
  refine tk 16 hS ?_
  refine wpAnyH_done (by kernel_rfl) ?_ _
  obtain ⟨cs,hst,hcw⟩:=VX.out.st.setc c2;have HST:=hid hst;have CW:=hid (CW.out.trans hcw);have SX:=hid CW.out.1;clear hst hcw;go_wp2_with (first | (with_reducible first | refine zaa rfl rfl (zjT VX.out.bx) rfl ?_ | refine zan rfl rfl HST.out rfl rfl ?_) | (go_at_call 78;(with_reducible refine (zdb B z k T _ p g _ SX.out was HR.out.1).mono ?_);rintro e wb ⟨rfl,kk⟩;have CW:=hid (CW.out.trans kk);clear kk));go_ret;exact ⟨rfl,CW.out⟩
theorem zpr (B z k:Nat) (T:Nat→Prop) (v:Mc) (p:Pt) (g:Wk) (W:World) (K:St W B z k T v p g) (hr:Rgs g) (hc:Cs.RU v.h.c) (hn:Cs.U64 v.cnt) (hx:∀ was,Cs.U64 was→Cs.U64 (wrV v g was).1):Calls Tryz.prog 85 #[.pointer (some ⟨k,0,none⟩)] W fun e W'=>e=.returned (.bool (ctR v g).1)∧Cw W W' B z k T (turn v (ctR v g).2) p g:=by
 unfold ctR;have hu:=Cs.rd_u v.h.c v.h.mode g.i g.l v.cnt;rcases h1:Cs.rdV v.h.c v.h.mode g.i g.l v.cnt with ⟨was,b⟩
 rw [h1] at hu;simp only at hu ⊢;cases b with
 | false=>exact zuj B z k T v p g W K hc hn was h1
 | true =>
  have hu2:=hx was hu;rcases h2:wrV v g was with ⟨x,b2⟩
  rw [h2] at hu2;simp only at hu2 ⊢;cases b2 with
  | false=>exact ztM B z k T v p g W K hr hc hn was h1 x h2
  | true =>
   rcases h3:Cs.wtV v.h.c v.h.mode g.i x with ⟨c2,b3⟩
   cases b3 with
   | false=>exact zAP B z k T v p g W K hr hc hn was h1 x hu2 h2 c2 h3
   | true=>exact zpX B z k T v p g W K hr hc hn was h1 x hu2 h2 c2 h3
end Go.Proofs.YtplcfdnfeclpmaaGreatDoor
namespace Go.Proofs.YtplcfdnfeclpmaaGreatDoor
open Go.RowKit Go.Deep Go.Joins
def cdR (v:Mc) (p:Pt) (g:Wk) (pl s:Int):Mc × Pt :=
 if v.h.held=true∧v.h.rat=pl then
  let q:=stM v p pl s (xV v.h g.b)
  (turn q.1 (putH (relH q.1.h) g.r 0),q.2.1)
 else (turn v (putH (relH v.h) g.r 1),p)
theorem zm5 (B z k:Nat) (T:Nat→Prop) (v:Mc) (p:Pt) (g:Wk) (W:World) (K:St W B z k T v p g) (hr:Rgs g) (pl s:Int) (h1:v.h.held=false):Calls Tryz.prog 155 #[.pointer (some ⟨k,0,none⟩),.int .u64 pl,.int .i64 s] W fun e W'=>e=.returned (.bool true)∧Cw W W' B z k T (turn v (putH (relH v.h) g.r 1)) p g:=by
 have SX:=hid K;have CW:=hid (Cw.below K (Below.refl _ _));have HR:=hid hr;have HH:=hid (fun w (h:St w B z k T v p g)=>(St.l_held h).trans (by rw [h1]));clear K hr h1;go_enter Tryz.func155,Tryz.ntmps155;go_wp2_with (first | (with_reducible first | refine zaa rfl rfl (KW.ptr SX.out.kw) rfl ?_ | refine zaa rfl rfl (HH.out _ SX.out) rfl ?_ | refine zaa rfl rfl (KW.rg SX.out.kw) rfl ?_) | (go_at_call 107;(with_reducible refine (zf7 SX.out.ms).mono ?_);rintro e wb ⟨rfl,kk⟩;have CW:=hid (CW.out.ch kk);have SX:=hid CW.out.1;clear kk) | (go_at_call 78;(with_reducible refine (zdb B z k T _ _ g _ SX.out 1 HR.out.1).mono ?_);rintro e wb ⟨rfl,kk⟩;have CW:=hid (CW.out.trans kk);have SX:=hid CW.out.1;clear kk));go_ret;exact ⟨rfl,CW.out⟩
theorem zmK (B z k:Nat) (T:Nat→Prop) (v:Mc) (p:Pt) (g:Wk) (W:World) (K:St W B z k T v p g) (hr:Rgs g) (pl s:Int) (h1:v.h.held=true) (h2:v.h.rat≠pl):Calls Tryz.prog 155 #[.pointer (some ⟨k,0,none⟩),.int .u64 pl,.int .i64 s] W fun e W'=>e=.returned (.bool true)∧Cw W W' B z k T (turn v (putH (relH v.h) g.r 1)) p g:=by
 have SX:=hid K;have CW:=hid (Cw.below K (Below.refl _ _));have HR:=hid hr;have HH:=hid (fun w (h:St w B z k T v p g)=>(St.l_held h).trans (by rw [h1]));have g2:(v.h.rat==pl)=false:=by rw [beq_eq_false_iff_ne];exact h2
 have HA:=hid (fun w (h:St w B z k T v p g)=>St.l_rat h);generalize v.h.rat=rt at g2 HA;clear h2;clear K hr h1;go_enter Tryz.func155,Tryz.ntmps155;go_wp2_with (first | (with_reducible first | refine zaa rfl rfl (KW.ptr SX.out.kw) rfl ?_ | refine zaa rfl rfl (HH.out _ SX.out) rfl ?_) | ((with_reducible show wpList _ _ _ (⟨some 22,Op.load 48 _,_,_,_,_⟩ :: _) _ _);refine zaU (by kernel_rfl) rfl (KW.ptr SX.out.kw) rfl ?_;simp only [Act.put,List.setIfInBounds_toArray,List.set_cons_zero,List.set_cons_succ]) | ((with_reducible show wpList _ _ _ (⟨some 26,Op.load 22 _,_,_,_,_⟩ :: _) _ _);refine zaU (by kernel_rfl) rfl (HA.out _ SX.out) rfl ?_;simp only [Act.put,List.setIfInBounds_toArray,List.set_cons_zero,List.set_cons_succ]) | (with_reducible refine zaa rfl rfl (KW.rg SX.out.kw) rfl ?_) | (go_at_call 107;(with_reducible refine (zf7 SX.out.ms).mono ?_);rintro e wb ⟨rfl,kk⟩;have CW:=hid (CW.out.ch kk);have SX:=hid CW.out.1;clear kk) | (go_at_call 78;(with_reducible refine (zdb B z k T _ _ g _ SX.out 1 HR.out.1).mono ?_);rintro e wb ⟨rfl,kk⟩;have CW:=hid (CW.out.trans kk);have SX:=hid CW.out.1;clear kk));go_ret;exact ⟨rfl,CW.out⟩
theorem ztK (B z k:Nat) (T:Nat→Prop) (v:Mc) (p:Pt) (g:Wk) (W:World) (K:St W B z k T v p g) (hr:Rgs g) (s:Int) (ok:POk v p) (hO:(p.O.length+1)*32≤140737488355328) (hp:Al.U64 v.h.rat) (hx:Al.U64 (xV v.h g.b)) (h1:v.h.held=true):Calls Tryz.prog 155 #[.pointer (some ⟨k,0,none⟩),.int .u64 v.h.rat,.int .i64 s] W fun e W'=>e=.returned (.bool true)∧Cw W W' B z k T (turn (stM v p v.h.rat s (xV v.h g.b)).1 (putH (relH (stM v p v.h.rat s (xV v.h g.b)).1.h) g.r 0)) (stM v p v.h.rat s (xV v.h g.b)).2.1 g:=by
 have SX:=hid K;have CW:=hid (Cw.below K (Below.refl _ _));have HR:=hid hr;have HH:=hid (fun w (h:St w B z k T v p g)=>(St.l_held h).trans (by rw [h1]));have HA:=hid (fun w (h:St w B z k T v p g)=>St.l_rat h);have CL:=hid (fun w (h:St w B z k T v p g)=>st_s v.h.rat s (xV v.h g.b) h.ms h.hB h.up ok hO (U64.le hp) (U64.le hx));generalize v.h.rat=rt at HA CL hp ⊢;have g2:(rt==rt)=true:=by rw [beq_iff_eq]
 generalize stM v p rt s (xV v.h g.b)=q at CL ⊢;obtain ⟨m1,p1,b1⟩:=q;simp only;clear K hr h1 ok hO hp hx;go_enter Tryz.func155,Tryz.ntmps155;go_upto_region 3 with (first | (with_reducible first | refine zaa rfl rfl (KW.ptr SX.out.kw) rfl ?_ | refine zaa rfl rfl (HH.out _ SX.out) rfl ?_) | ((with_reducible show wpList _ _ _ (⟨some 22,Op.load 48 _,_,_,_,_⟩ :: _) _ _);refine zaU (by kernel_rfl) rfl (KW.ptr SX.out.kw) rfl ?_;simp only [Act.put,List.setIfInBounds_toArray,List.set_cons_zero,List.set_cons_succ]) | ((with_reducible show wpList _ _ _ (⟨some 26,Op.load 22 _,_,_,_,_⟩ :: _) _ _);refine zaU (by kernel_rfl) rfl (HA.out _ SX.out) rfl ?_;simp only [Act.put,List.setIfInBounds_toArray,List.set_cons_zero,List.set_cons_succ]));refine dr (fun w=>KW w k z g) fun wz hzz=>?_
 have CW:=hid (CW.out.trans (Cw.below SX.out hzz));have SX:=hid CW.out.1;clear hzz;have hS:=SX.out.kw;refine tk 0 hS ?_
 refine tk 1 hS ?_
 refine tk 2 hS ?_
 refine tk 3 hS ?_
 refine tl 4 hS (fun w hw=>KW.ptr hw) ?_
 refine tk 5 hS ?_
 refine tk 6 hS ?_
 refine tk 7 hS ?_
 refine hc 8 (zbC (zeZ B z k T v p g _ SX.out HR.out.2.2)) ?_
 rintro v' wb ⟨rfl,kk⟩
 have CW:=hid (CW.out.trans (Cw.below SX.out kk));have SX:=hid CW.out.1;clear kk;refine ⟨SX.out.kw,fun hS=>?_⟩
 simp only [puts];refine hc 9 (zbC (CL.out _ SX.out)) ?_
 rintro v' wb ⟨rfl,kk⟩
 have CW:=hid (CW.out.ch kk);have SX:=hid CW.out.1;clear kk;refine ⟨SX.out.kw,fun hS=>?_⟩
 simp only [puts];refine wpAnyH_done (by kernel_rfl) ?_ _
 go_wp2_with (first | (with_reducible refine zaa rfl rfl (KW.rg SX.out.kw) rfl ?_) | (go_at_call 107;(with_reducible refine (zf7 SX.out.ms).mono ?_);rintro e wb ⟨rfl,kk⟩;have CW:=hid (CW.out.ch kk);have SX:=hid CW.out.1;clear kk) | (go_at_call 78;(with_reducible refine (zdb B z k T _ _ g _ SX.out 0 HR.out.1).mono ?_);rintro e wb ⟨rfl,kk⟩;have CW:=hid (CW.out.trans kk);have SX:=hid CW.out.1;clear kk));go_ret;exact ⟨rfl,CW.out⟩
theorem zsY (B z k:Nat) (T:Nat→Prop) (v:Mc) (p:Pt) (g:Wk) (W:World) (K:St W B z k T v p g) (hr:Rgs g) (pl s:Int) (ok:POk v p) (hO:(p.O.length+1)*32≤140737488355328) (hp:Al.U64 pl) (hx:Al.U64 (xV v.h g.b)):Calls Tryz.prog 155 #[.pointer (some ⟨k,0,none⟩),.int .u64 pl,.int .i64 s] W fun e W'=>e=.returned (.bool true)∧Cw W W' B z k T (cdR v p g pl s).1 (cdR v p g pl s).2 g:=by
 unfold cdR;rcases Bool.eq_false_or_eq_true v.h.held with h1 | h1
 ·by_cases h2:v.h.rat=pl
  ·rw [if_pos ⟨h1,h2⟩]
   subst h2;exact ztK B z k T v p g W K hr s ok hO hp hx h1
  ·rw [if_neg (fun h=>h2 h.2)]
   exact zmK B z k T v p g W K hr pl s h1 h2
 ·rw [if_neg (fun h=>by rw [h1] at h;exact absurd h.1 (by decide))]
  exact zm5 B z k T v p g W K hr pl s h1
noncomputable def chR (v:Mc) (p:Pt) (g:Wk) (pl s was:Int):Mc × Pt :=
 if resB g.o=true then (turn v (putH { v.h with held:=true,rat:=pl } g.r was),p) else
 if g.o=74∨g.o=85 then cdR v p g pl s else
  let q:=stM v p pl s (Al.amV g.o was (xV v.h g.b))
  (turn q.1 (putH (relH q.1.h) g.r was),q.2.1)
theorem St.setx {w:World} {B z k:Nat} {T:Nat→Prop} {v:Mc} {p:Pt} {g:Wk} (K:St w B z k T v p g) (h:Hart) (ty j:Nat) (x:Value) (hu:(Tryz.prog.info? ty).map (·.size)=some 1) (hc:x.cells=#[x]) (h1:x.oneCell'=true) (hj:j<20) (hx:h.x=v.h.x) (he:zbA h=(zbA v.h).set j x):∃ cs,(Instr.storeAt ty (.pointer (some ⟨z,32+j,none⟩)) x).run Tryz.prog w=.ok () (w.setRow z cs)∧Cw w (w.setRow z cs) B z k T (turn v h) p g:=by
 obtain ⟨m,s1,s2,s3⟩:=K.ms;exact ⟨_,MBox.store_h (m':=turn m h) s2.box ty j x hu hc h1 hj rfl rfl (hx.trans (by rw [s1.h])) (he.trans (by rw [s1.h])),Cw.of K (Chg.ch s1 s2 s3 ⟨w,Below.refl _ _,rfl⟩)⟩
theorem zuG (B z k:Nat) (T:Nat→Prop) (v:Mc) (p:Pt) (g:Wk) (W:World) (K:St W B z k T v p g) (hr:Rgs g) (pl s was:Int) (ho:g.o=73∨g.o=84):Calls Tryz.prog 113 #[.pointer (some ⟨k,0,none⟩),.int .u64 pl,.int .i64 s,.int .u64 was] W fun e W'=>e=.returned (.bool true)∧Cw W W' B z k T (turn v (putH { v.h with held:=true,rat:=pl } g.r was)) p g:=by
 have SX:=hid K;have CW:=hid (Cw.below K (Below.refl _ _));have HR:=hid hr;rcases ho with ho | ho
 all_goals
  have HOP:=hid ((KW.op K.kw).trans (by rw [ho]));clear K hr ho;go_enter Tryz.func113,Tryz.ntmps113;go_upto_region 4 with (with_reducible refine zaa rfl rfl HOP.out rfl ?_);refine dr (fun w=>KW w k z g) fun wz hzz=>?_
  have CW:=hid (CW.out.trans (Cw.below SX.out hzz));have SX:=hid CW.out.1;clear hzz;obtain ⟨cs,hst,hcw⟩:=SX.out.setx { v.h with held:=true } 4 18 (.bool true) zev rfl rfl (by decide) rfl rfl;have HST:=hid hst;have HCW:=hid hcw;clear hst hcw;have hS:=SX.out.kw;refine tk 0 hS ?_
  refine tk 1 hS ?_
  refine tk 2 hS ?_
  refine tk 3 hS ?_
  refine tl 4 hS (fun w hw=>KW.ptr hw) ?_
  refine tk 5 hS ?_
  refine tk 6 hS ?_
  refine tk 7 hS ?_
  refine tk 8 hS ?_
  refine tl 9 hS (fun w hw=>KW.ptr hw) ?_
  refine tk 10 hS ?_
  refine tk 11 hS ?_
  refine tk 12 hS ?_
  refine tk 13 hS ?_
  refine hs 14 (HST.out) fun wy hw=>?_
  have CW:=hid (show Cw W wy B z k T (turn v { v.h with held:=true }) p g by rw [hw];exact CW.out.trans HCW.out);have SX:=hid CW.out.1;clear hw;obtain ⟨cs2,hst2,hcw2⟩:=SX.out.setx { v.h with held:=true,rat:=pl } 22 19 (.int .u64 pl) zbX rfl rfl (by decide) rfl rfl;have HST2:=hid hst2;have HCW2:=hid hcw2;clear hst2 hcw2;refine ⟨SX.out.kw,fun hS=>?_⟩
  refine tk 15 hS ?_
  refine tk 16 hS ?_
  refine tk 17 hS ?_
  refine hs 18 (HST2.out) fun wy hw=>?_
  have CW:=hid (show Cw W wy B z k T (turn v { v.h with held:=true,rat:=pl }) p g by rw [hw];exact CW.out.trans HCW2.out);have SX:=hid CW.out.1;clear hw;refine ⟨SX.out.kw,fun hS=>?_⟩
  refine wpAnyH_done (by kernel_rfl) ?_ _
  go_wp2_with (go_at_call 78;(with_reducible refine (zdb B z k T _ _ g _ SX.out was HR.out.1).mono ?_);rintro e wb ⟨rfl,kk⟩;have CW:=hid (CW.out.trans kk);have SX:=hid CW.out.1;clear kk);go_ret;exact ⟨rfl,CW.out⟩
theorem zn0 (B z k:Nat) (T:Nat→Prop) (v:Mc) (p:Pt) (g:Wk) (W:World) (K:St W B z k T v p g) (hr:Rgs g) (pl s was:Int) (ok:POk v p) (hO:(p.O.length+1)*32≤140737488355328) (hp:Al.U64 pl) (hx:Al.U64 (xV v.h g.b)) (ho:g.o=74∨g.o=85):Calls Tryz.prog 113 #[.pointer (some ⟨k,0,none⟩),.int .u64 pl,.int .i64 s,.int .u64 was] W fun e W'=>e=.returned (.bool true)∧Cw W W' B z k T (cdR v p g pl s).1 (cdR v p g pl s).2 g:=by
 have SX:=hid K;have CW:=hid (Cw.below K (Below.refl _ _));have CC:=hid (zsY B z k T v p g W K hr pl s ok hO hp hx);generalize cdR v p g pl s=q at CC ⊢;rcases ho with ho | ho
 all_goals
  have HOP:=hid ((KW.op K.kw).trans (by rw [ho]));clear K hr ho ok hO hp hx;go_enter Tryz.func113,Tryz.ntmps113;go_wp2_with (first | (with_reducible refine zaa rfl rfl HOP.out rfl ?_) | (go_at_call 155;(with_reducible refine CC.out.mono ?_);rintro e wb ⟨rfl,kk⟩;have CW:=hid kk;clear kk));go_ret;exact ⟨rfl,CW.out⟩
theorem zp4 (B z k:Nat) (T:Nat→Prop) (v:Mc) (p:Pt) (g:Wk) (W:World) (K:St W B z k T v p g) (hr:Rgs g) (pl s was:Int) (ok:POk v p) (hO:(p.O.length+1)*32≤140737488355328) (hp:Al.U64 pl) (hw:Al.U64 was) (hx:Al.U64 (xV v.h g.b)) (ho:g.o ∉ ([73,84,74,85]:List Int)):Calls Tryz.prog 113 #[.pointer (some ⟨k,0,none⟩),.int .u64 pl,.int .i64 s,.int .u64 was] W fun e W'=>e=.returned (.bool true)∧Cw W W' B z k T (turn (stM v p pl s (Al.amV g.o was (xV v.h g.b))).1 (putH (relH (stM v p pl s (Al.amV g.o was (xV v.h g.b))).1.h) g.r was)) (stM v p pl s (Al.amV g.o was (xV v.h g.b))).2.1 g:=by
 have SX:=hid K;have CW:=hid (Cw.below K (Below.refl _ _));have HR:=hid hr;obtain ⟨ob,hcd⟩:=Al.zvl g.o was (xV v.h g.b) hw hx;have CD:=hid hcd;have CL:=hid (fun w (h:St w B z k T v p g)=>st_s pl s (Al.amV g.o was (xV v.h g.b)) h.ms h.hB h.up ok hO (U64.le hp) (U64.le (Al.am_u _ _ _)));generalize Al.amV g.o was (xV v.h g.b)=av at CD CL ⊢;generalize stM v p pl s av=q at CL ⊢;obtain ⟨m1,p1,b1⟩:=q;simp only;have m1_:(g.o==(73:Int))=false:=by rw [beq_eq_false_iff_ne];exact fun e=>ho (by rw [e];decide)
 have m2_:(g.o==(84:Int))=false:=by rw [beq_eq_false_iff_ne];exact fun e=>ho (by rw [e];decide)
 have m3_:(g.o==(74:Int))=false:=by rw [beq_eq_false_iff_ne];exact fun e=>ho (by rw [e];decide)
 have m4_:(g.o==(85:Int))=false:=by rw [beq_eq_false_iff_ne];exact fun e=>ho (by rw [e];decide)
 clear K hr ok hO hp hx hw hcd ho;go_enter Tryz.func113,Tryz.ntmps113;go_upto_region 9 with (with_reducible refine zaa rfl rfl (KW.op SX.out.kw) rfl ?_);refine dr (fun w=>St w B z k T v p g) fun wz hzz=>?_
 have CW:=hid (CW.out.trans (Cw.below SX.out hzz));have SX:=hid CW.out.1;clear hzz;have hS:=SX.out;refine tk 0 hS ?_
 refine tk 1 hS ?_
 refine tk 2 hS ?_
 refine tk 3 hS ?_
 refine tl 4 hS (fun w hw=>KW.op hw.kw) ?_
 refine tk 5 hS ?_
 refine tk 6 hS ?_
 refine hc 7 (zbC (zeZ B z k T v p g _ SX.out HR.out.2.2)) ?_
 rintro v' wb ⟨rfl,kk⟩
 have CW:=hid (CW.out.trans (Cw.below SX.out kk));have SX:=hid CW.out.1;clear kk;refine ⟨SX.out,fun hS=>?_⟩
 simp only [puts];refine hc 8 (zdn (CD.out _)) ?_
 rintro v' wb ⟨rfl,rfl⟩
 refine ⟨hS,fun hS=>?_⟩
 simp only [puts];refine tk 9 hS ?_
 refine tk 10 hS ?_
 refine tk 11 hS ?_
 refine tk 12 hS ?_
 refine tk 13 hS ?_
 refine wpAnyH_done (by kernel_rfl) ?_ _
 go_wp2_with (first | (with_reducible first | refine zaa rfl rfl (KW.ptr SX.out.kw) rfl ?_ | refine zaa rfl rfl (KW.rg SX.out.kw) rfl ?_) | ((first | (go_at_call 106;with_reducible refine (CL.out _ SX.out).mono ?_) | (go_at_call 107;with_reducible refine (zf7 SX.out.ms).mono ?_));rintro e wb ⟨rfl,kk⟩;have CW:=hid (CW.out.ch kk);have SX:=hid CW.out.1;clear kk) | (go_at_call 78;(with_reducible refine (zdb B z k T _ _ g _ SX.out was HR.out.1).mono ?_);rintro e wb ⟨rfl,kk⟩;have CW:=hid (CW.out.trans kk);have SX:=hid CW.out.1;clear kk));go_ret;exact ⟨rfl,CW.out⟩
theorem zqR (B z k:Nat) (T:Nat→Prop) (v:Mc) (p:Pt) (g:Wk) (W:World) (K:St W B z k T v p g) (hr:Rgs g) (pl s was:Int) (ok:POk v p) (hO:(p.O.length+1)*32≤140737488355328) (hp:Al.U64 pl) (hw:Al.U64 was) (hx:Al.U64 (xV v.h g.b)):Calls Tryz.prog 113 #[.pointer (some ⟨k,0,none⟩),.int .u64 pl,.int .i64 s,.int .u64 was] W fun e W'=>e=.returned (.bool true)∧Cw W W' B z k T (chR v p g pl s was).1 (chR v p g pl s was).2 g:=by
 unfold chR
 by_cases h1:g.o=73∨g.o=84
 ·rw [if_pos (by unfold resB;rcases h1 with h | h <;> (rw [h];rfl))]
  exact zuG B z k T v p g W K hr pl s was h1
 ·have e1:resB g.o=false:=by
   unfold resB;rw [Bool.or_eq_false_iff];exact ⟨by rw [beq_eq_false_iff_ne];exact fun e=>h1 (.inl e),by rw [beq_eq_false_iff_ne];exact fun e=>h1 (.inr e)⟩
  rw [if_neg (by rw [e1];decide)]
  by_cases h2:g.o=74∨g.o=85
  ·rw [if_pos h2]
   exact zn0 B z k T v p g W K hr pl s was ok hO hp hx h2
  ·rw [if_neg h2]
   exact zp4 B z k T v p g W K hr pl s was ok hO hp hw hx (by simp only [List.mem_cons,List.not_mem_nil,or_false];omega)
end Go.Proofs.YtplcfdnfeclpmaaGreatDoor
