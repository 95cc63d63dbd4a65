/- MachineAhead,part 45. -/
import Derived.SliceStrings
import Derived.SizedLaws
import Derived.Carry
import Derived.Test.YtplcfdnfeclpmaaGreatDoorY23
import Derived.Test.YtplcfdnfeclpmaaGreatDoorY41
import Derived.Test.YtplcfdnfeclpmaaGreatDoorY43
import Derived.Test.YtplcfdnfeclpmaaGreatDoorY44
set_option maxHeartbeats 4000000
set_option maxRecDepth 100000
open Go.Lib (hid)
namespace Go.Proofs.YtplcfdnfeclpmaaGreatDoor
open Go.RowKit Go.Deep Go.Joins
set_option maxRecDepth 100000
theorem zon:(Tryz.prog.fieldsOf 65).toList.map (fun f=>(f.type,f.offset))=[(22,0),(3,1),(9,2)]:=by kernel_rfl
theorem zxl (d:Nat) (t:TypeId) (s:ByteArray) (w:World) (h:Tryz.prog.underlying t=some .string):(Op.equalIn (d+1) t (.string s) (.string s)).run Tryz.prog w=.ok true w:=by
 rw [run_equalIn_string w d t s s h]
 simp
theorem zrq (r:Rec) (w:World):(Op.equalIn 10000 65 (rcV r) (rcV r)).run Tryz.prog w=.ok true w:=by
 rw [run_equalIn_struct w 9999 65 (rcC r) (rcC r) (by kernel_rfl) (by kernel_rfl)]
 refine zic _ _ _ _ fun f hf=>?_
 have hm:(f.type,f.offset)∈(Tryz.prog.fieldsOf 65).toList.map (fun f=>(f.type,f.offset)):=List.mem_map_of_mem hf
 rw [zon] at hm
 simp only [List.mem_cons,List.not_mem_nil,or_false,Prod.mk.injEq] at hm
 rcases hm with ⟨e1,e2⟩ | ⟨e1,e2⟩ | ⟨e1,e2⟩
 all_goals rw [e1,e2]
 ·exact ⟨_,zhk 22 _ _ 0 _ w Tryz.underlying22 rfl rfl,zjh 9998 22 .u64 _ w Tryz.underlying22⟩
 ·exact ⟨_,zhk 3 _ _ 1 _ w Tryz.underlying3 rfl rfl,zjh 9998 3 .i64 _ w Tryz.underlying3⟩
 ·exact ⟨_,zhk 9 _ _ 2 _ w Tryz.underlying9 rfl rfl,zxl 9998 9 _ w Tryz.underlying9⟩
theorem zyh {ρ:Operand→Value} {o:Oper} {x y:Operand} {t2:TypeId} (r:Rec) (w:World) (ho:o.op=.binOp .neq 65 x y t2) (hx:ρ x=rcV r) (hy:ρ y=rcV r):(execOp ρ o).run Tryz.prog w=.ok (.value (.bool false)) w:=by
 unfold execOp
 simp [ho,hx,hy,Sem.run_bind,run_eqGuard_agg,run_neq_struct,zrq,Result.andThen]
theorem zjg (w:World) (g off n c j:Nat) (hj:j<n):(Instr.indexAt 40 (.slice (some ⟨g,off,none⟩) n c) (.int .i64 (j:Int))).run Tryz.prog w=.ok (.pointer (some ⟨g,off+j*3,none⟩)) w:=by
 have hs:=zhb 65 3 w zgy
 simp [Instr.indexAt,run_underlying Tryz.underlying40,asIntOf,hs,hj,Sem.run_bind,Result.andThen,zdh]
theorem zj4 {P:Program} {ρ:Operand→Value} {o:Oper} {t:TypeId} {x i:Operand} {v u r:Value} {w:World} (ho:o.op=.indexAddr t x i) (hx:ρ x=v) (hi:ρ i=u) (hrun:(Instr.indexAt t v u).run P w=.ok r w):(execOp ρ o).run P w=.ok (.value r) w:=by
 simp [execOp,ho,hx,hi,hrun,Result.andThen]
theorem zjK {W:World} {q:Option Addr} {c:Nat} {O:List Rec} (h:zaY W (.slice q O.length c) 3 O.length (oC O)) (h0:0<O.length):∃ g off,q=some ⟨g,off,none⟩∧∀ j (hj:j<O.length),∀ w,Below W.heap.size W w→(Instr.loadAt 65 (.pointer (some ⟨g,off+j*3,none⟩))).run Tryz.prog w=.ok (rcV O[j]) w:=by
 obtain ⟨g,off,cap,e,_,_,hg,hc⟩:=zaY.at h (by omega)
 simp only [Value.slice.injEq] at e
 refine ⟨g,off,e.1,fun j hj w hb=>zhx w g (off+j*3) 65 (rcL O[j]) _ Tryz.underlying65 rfl zgy fun i v hv=>?_⟩
 have hi:i<3:=by have:=(List.getElem?_eq_some_iff.1 hv).1;simpa [rcL] using this
 have k:=hc (3*j+i) v (by rw [zvn O j hj i hi];exact hv)
 rw [show off+j*3+i=off+(3*j+i) by omega]
 exact (hb.cell (p:=⟨g,off+(3*j+i),none⟩) hg).trans k
theorem zl5 (q1 q2:Option Addr) (c1 c2:Nat) (O:List Rec) (W:World) (h1:zaY W (.slice q1 O.length c1) 3 O.length (oC O)) (h2:zaY W (.slice q2 O.length c2) 3 O.length (oC O)):TB 18 #[.slice q1 O.length c1,.slice q2 O.length c2] W (.bool true):=by
 have R1:=hid h1
 have R2:=hid h2
 have hOl:=h1.le
 clear h1 h2
 go_enter Tryz.func18,Tryz.ntmps18
 go_wp2_with fail
 go_loopw [5] (fun i wr=>∃ j:Nat,j≤O.length∧i=.int .i64 j∧Hid (Below W.heap.size W wr)) (fun i _=>O.length - (intOf i).toNat)
 case atStart=>exact ⟨0,Nat.zero_le _,rfl,hid (Below.refl _ _)⟩
 case round =>
  obtain ⟨j,hj,rfl,X⟩:=hrel
  by_cases hlt:j<O.length
  ·obtain ⟨g,off,hq,hld⟩:=zjK R1.out (by omega)
   obtain ⟨g2,off2,hq2,hld2⟩:=zjK R2.out (by omega)
   subst hq
   subst hq2
   go_upto_region 6 with (fail)
   have D1:=hid (hld j hlt)
   have D2:=hid (hld2 j hlt)
   clear hld hld2
   generalize O[j]=rr at D1 D2
   refine dr (fun w=>Below W.heap.size W w) fun wz hzz=>?_
   have X:=hid (zac X.out hzz)
   clear hzz
   have hS:=X.out
   refine tk 0 hS ?_
   refine tk 1 hS ?_
   refine tk 2 hS ?_ (hy:=.inl ⟨by kernel_rfl,fun w _=>zj4 rfl rfl rfl (zjg w g off _ c1 j hlt)⟩)
   refine tl 3 hS (fun w hw=>D1.out w hw) ?_
   refine tk 4 hS ?_
   refine tk 5 hS ?_
   refine tk 6 hS ?_ (hy:=.inl ⟨by kernel_rfl,fun w _=>zj4 rfl rfl rfl (zjg w g2 off2 _ c2 j hlt)⟩)
   refine tl 7 hS (fun w hw=>D2.out w hw) ?_
   refine tk 8 hS ?_ (hy:=.inl ⟨by kernel_rfl,fun w _=>zyh rr w rfl rfl rfl⟩)
   refine wpAnyH_done (by kernel_rfl) ?_ _
   clear D1 D2 hS
   go_wp2_with fail
   exact ⟨⟨j+1,by omega,by go_num,X⟩,by simp [intOf];omega⟩
  ·go_wp2_with fail
   go_ret
   exact ⟨rfl,X.out⟩
end Go.Proofs.YtplcfdnfeclpmaaGreatDoor
namespace Go.Proofs.YtplcfdnfeclpmaaGreatDoor
open Go.RowKit Go.Deep Go.Joins
set_option maxRecDepth 100000
theorem znL (n:Nat) (s:ByteArray) (dv mv:Value) (h2:n≤256) (hs:s.size≤n*256):VOk (za3 dv mv) (newP n s):=by
 have k:=(zi2 n s h2 hs).ok
 exact ⟨k.h,k.b,⟨⟨k.ok.bd.addr,k.ok.bd.nicA,k.ok.bd.sector⟩,k.ok.c,k.ok.fz,k.ok.fl,k.ok.dl,k.ok.ml⟩,k.cnt⟩
theorem zt6 (dv mv:Value):(rnM 1 (za3 dv mv) (newP 1 zcP)).1={ za3 dv mv with h:={ putH awH 10 5 with pc:=2147483652 },cnt:=1 }:=zuX (za3 dv mv) rfl rfl awD zve
theorem zxw (W:World) (hL:De.Laid W):TB 12 #[] W (.bool true):=by
 have HL:=hid hL
 have C31:=hid (show Calls Tryz.prog 31 #[.string ⟨#[19,5,80,0]⟩,.int .i64 1] W (NewM W (newP 1 zcP).D (newP 1 zcP).M) from zit 1 zcP W (by decide) (by decide) (by decide))
 clear hL
 go_enter Tryz.func12,Tryz.ntmps12
 go_upto_region 2 with (first | (go_at_call 31;(with_reducible refine C31.out.mono ?_);rintro e wb ⟨dv,mv,rfl,hd,hm,kk⟩;have ZR:=hid (show (wb.alloc (.cells Tryz.zeroCells42 42)).heap[wb.heap.size]?=some (.cells Tryz.zeroCells42 42 (0,0)) from heap_alloc_last wb _);have M1:=hid (show Mc1 (za3 dv mv) from ⟨zc9 hd,zc9 hm,rfl⟩);have Z:=hid (show MS ((wb.alloc (.cells Tryz.zeroCells42 42)).setRow wb.heap.size (mcC (za3 dv mv))) W.heap.size wb.heap.size (za3 dv mv) (newP 1 zcP)∧Below W.heap.size W ((wb.alloc (.cells Tryz.zeroCells42 42)).setRow wb.heap.size (mcC (za3 dv mv))) from by
  have b:=zaf wb (.cells Tryz.zeroCells42 42)
  have hx:MBox ((wb.alloc (.cells Tryz.zeroCells42 42)).setRow wb.heap.size (mcC (za3 dv mv))) wb.heap.size (za3 dv mv):=setRow_heap _ _ _ _ 42 (0,0) ZR.out
  exact ⟨⟨hx,kk.size,FT.of (World.ownsRow_nil _ _ _ _),zbc (zbH hd b) ZR.out (by decide) _,zbc (zbH hm b) ZR.out (by decide) _,World.ownsRow_nil _ _ _ _⟩,below_setRow (zac kk b) kk.size _⟩);clear hd hm kk) | (with_reducible refine zam rfl rfl (MBox.store (za3 dv mv) M1.out ZR.out (by kernel_rfl)) rfl rfl ?_) | fail)
 clear C31 ZR M1
 generalize wb.heap.size=z at Z ⊢
 generalize (wb.alloc (.cells Tryz.zeroCells42 42)).setRow z (mcC (za3 dv mv))=wc at Z ⊢
 have C13:=hid (show Calls Tryz.prog 13 #[mcV (za3 dv mv),.int .i64 1] wc (fun e W'=>∃ x,e=.returned (.tuple #[mcV x,.int .i64 0])∧Mc1 x∧Same (rnM 1 (za3 dv mv) (newP 1 zcP)).1 x∧MR W' x (rnM 1 (za3 dv mv) (newP 1 zcP)).2∧Below wc.heap.size wc W') from zo7 (za3 dv mv) (newP 1 zcP) 1 wc Z.out.1.rd (znL 1 zcP dv mv (by decide) (by decide)) (zrB 1 zcP dv mv (by decide) (by decide) (by decide)) (fun w hb=>ck_t (za3 dv mv) (newP 1 zcP) w (Z.out.1.rd.next hb) rfl rfl (Nat.zero_le _) (show hasB bdN=true by decide +kernel) (zh6 1 zcP (by decide) (by decide) (by decide)) zj5 zj8 zkf) (by decide) (show (0+1+1)*32≤140737488355328 by decide) (HL.out.below Z.out.2))
 rw [zt6] at C13
 have BX:=hid Z.out.1.box
 go_upto_region 3 with (first | (with_reducible refine zaa rfl rfl (MBox.load BX.out) rfl ?_) | (go_at_call 13;(with_reducible refine C13.out.mono ?_);rintro e wd ⟨x,rfl,x1,xs,_,kk⟩;have X1:=hid x1;have XS:=hid xs;have GX:=hid (show wd.heap[z]?=some (.cells (mcC (za3 dv mv)) 42 (0,0)) from BX.out.next kk);have BD:=hid (zac Z.out.2 kk);clear x1 xs kk) | (with_reducible refine zam rfl rfl (MBox.store x X1.out GX.out (zcm _)) rfl rfl ?_) | fail)
 have KX:MBox (wd.setRow z (mcC x)) z x:=setRow_heap wd z _ _ 42 (0,0) GX.out
 have HB:=hid (below_setRow BD.out Z.out.1.big (mcC x))
 have m_x:(wd.setRow z (mcC x)).cell? ⟨z,10,none⟩=some (.int .u64 5):=by
  have h:=(cell_of_row (wd.setRow z (mcC x)) z 10 (mcC x) 42 (0,0) KX).trans (zfj x 10 (by decide))
  rw [XS.out.h] at h
  exact h.trans rfl
 have m_cnt:(wd.setRow z (mcC x)).cell? ⟨z,76,none⟩=some (.int .u64 1):=by
  have h:=(cell_of_row (wd.setRow z (mcC x)) z 76 (mcC x) 42 (0,0) KX).trans (zd1 x 3)
  unfold mcT at h
  rw [XS.out.cnt] at h
  exact h
 clear KX C13 BX GX BD X1 XS Z
 generalize wd.setRow z (mcC x)=we at m_x m_cnt HB ⊢
 go_wp2_with fail
 go_ret
 exact ⟨rfl,HB.out⟩
end Go.Proofs.YtplcfdnfeclpmaaGreatDoor
namespace Go.Proofs.YtplcfdnfeclpmaaGreatDoor
open Go.RowKit Go.Deep Go.Joins
set_option maxRecDepth 100000
theorem znc (p:Addr):p.add 0=p:=by unfold Addr.add;split <;> simp_all
theorem zjO (a:Option Addr) (k c s:Nat):sliced a 0 k c s=.slice a k c:=by
 unfold sliced
 have e:a.map (fun x=>x.add (0*s))=a:=by cases a <;> simp [znc]
 rw [e]
 simp
theorem zgP {P:Program} {ρ:Operand→Value} {o:Oper} {t:TypeId} {x i:Operand} {v u r:Value} {w:World} (ho:o.op=.slice t x none (some i) none) (hx:ρ x=v) (hi:ρ i=u) (hrun:(Instr.sliceAt t v none (some u) none).run P w=.ok r w):(execOp ρ o).run P w=.ok (.value r) w:=by
 simp [execOp,ho,hx,hi,hrun,Result.andThen]
theorem zjy (w:World) (q:Option Addr) (n c k:Nat) (hk:k≤c):(Instr.sliceAt 57 (.slice q n c) none (some (.int .i64 (k:Int))) none).run Tryz.prog w=.ok (.slice q k c) w:=by
 have hu:Tryz.prog.underlying 57=some (.slice (Tryz.prog.elem 57)):=by kernel_rfl
 have hs:(sizeOf (Tryz.prog.elem 57)).run Tryz.prog w=.ok 4 w:=zhb 63 4 w ziU
 rw [run_sliceAt_slice w 57 _ _ _ _ hu,run_slice_h w 57 q n c hu .i64 k (by omega) (by omega),hs]
 simp only [Result.andThen]
 rw [zjO,Int.toNat_natCast]
theorem zs9 (w:World) (q:Option Addr) (n c k:Nat) (hk:k≤c):(Instr.sliceAt 40 (.slice q n c) none (some (.int .i64 (k:Int))) none).run Tryz.prog w=.ok (.slice q k c) w:=by
 have hu:Tryz.prog.underlying 40=some (.slice (Tryz.prog.elem 40)):=by kernel_rfl
 have hs:(sizeOf (Tryz.prog.elem 40)).run Tryz.prog w=.ok 3 w:=zhb 65 3 w (by kernel_rfl)
 rw [run_sliceAt_slice w 40 _ _ _ _ hu,run_slice_h w 40 q n c hu .i64 k (by omega) (by omega),hs]
 simp only [Result.andThen]
 rw [zjO,Int.toNat_natCast]
theorem ztl {w:World} {q:Option Addr} {n c k sz:Nat} {cells:List Value} (h:zaY w (.slice q n c) sz n cells) (hk:k≤n) :zaY w (.slice q k c) sz k (cells.take (k*sz)):=by
 have hl:=h.1
 have hm:k*sz≤n*sz:=Nat.mul_le_mul_right sz hk
 refine ⟨by rw [List.length_take];omega,?_⟩
 rcases h.2 with ⟨h1,h2⟩ | ⟨a,cap,hv,h1,h3,hc⟩
 ·simp only [Value.slice.injEq] at h1
  have:k=0:=by omega
  subst this
  exact .inl ⟨by rw [h1.1,h1.2.2],rfl⟩
 ·refine .inr ⟨a,cap,by simp only [Value.slice.injEq] at hv ⊢;exact ⟨hv.1,trivial,hv.2.2⟩,by omega,h3,fun j u hu=>hc j u ?_⟩
  rw [List.getElem?_take] at hu
  split at hu
  ·exact hu
  ·cases hu
theorem zwb (A B:List Rec):(oC (A ++ B)).take (A.length*3)=oC A:=by
 rw [zf6,← zdJ A]
 exact List.take_left
theorem zpn (q:Option Addr) (c:Nat) (L:List Inp) (W:World) (h:InAt W (.slice q L.length c) L):TW 16 #[.slice q L.length c] W (.slice q (L.take 12).length c):=by
 obtain ⟨_,_,e,hc,_⟩:=h.is
 simp only [Value.slice.injEq,true_and] at e
 obtain ⟨rfl,rfl⟩:=e
 have hb:L.length≤maxLen:=by
  rcases h.2 with ⟨_,h2⟩ | ⟨_,_,_,h1,h3,_⟩
  ·have:=h.1;rw [h2] at this;simp at this;omega
  ·omega
 unfold maxLen at hb
 by_cases h12:12<L.length
 ·have hl:(L.take 12).length=12:=by rw [List.length_take];omega
  rw [hl]
  have RS:=hid (fun w=>zjy w q L.length c 12 (by omega))
  clear h hl
  go_enter Tryz.func16,Tryz.ntmps16
  go_wp2_with (first | ((with_reducible show wpList _ _ _ (⟨some 7,Op.slice _ _ _ _ _,_,_,_,_⟩ :: _) _ _);refine zei (by kernel_rfl) (zgP rfl rfl rfl (RS.out _)) ?_;simp only [Act.put,List.setIfInBounds_toArray,List.set_cons_zero,List.set_cons_succ]) | fail)
  go_ret
  exact ⟨rfl,rfl⟩
 ·have hl:(L.take 12).length=L.length:=by rw [List.length_take];omega
  rw [hl]
  clear h hl
  go_enter Tryz.func16,Tryz.ntmps16
  go_wp2_with fail
  go_ret
  exact ⟨rfl,rfl⟩
structure AhI (W w:World) (z:Nat) (m:Mc) (p:Pt):Prop where
 bx:MBox w z m
 rd:MR w m p
 hb:Below W.heap.size W w
theorem AhI.next {W w w':World} {z:Nat} {m:Mc} {p:Pt} (k:AhI W w z m p) (h:Below w.heap.size w w'):AhI W w' z m p:=⟨k.bx.next h,k.rd.next h,zac k.hb h⟩
theorem AhI.new {W w:World} {m:Mc} {p:Pt} (hb:Below W.heap.size W w) (h:MR w m p):AhI W ((w.alloc (.cells Tryz.zeroCells42 42)).setRow w.heap.size (mcC m)) w.heap.size m p:=by
 have b:=zaf w (.cells Tryz.zeroCells42 42)
 have b2:Below w.heap.size w ((w.alloc (.cells Tryz.zeroCells42 42)).setRow w.heap.size (mcC m)):=below_setRow b (Nat.le_refl _) _
 exact ⟨setRow_heap _ _ _ _ 42 (0,0) (heap_alloc_last w (.cells Tryz.zeroCells42 42)),h.next b2,zac hb b2⟩
theorem zvV {n:Int} {s:ByteArray} {L:List Inp} (h:zeG n s L) (k:Nat):zeG n s (L.take k):=⟨h.1,fun i hi=>h.2 i (List.mem_of_mem_take hi)⟩
theorem zvM (s:ByteArray) (n:Int) (L:List Inp) (q:Option Addr) (c:Nat) (W:World) (hL:InAt W (.slice q L.length c) L) (hz:∀ i∈L,i.s.size≤maxLen) (hD:De.Laid W):TB 5 #[.string s,.int .i64 n,.slice q L.length c] W (.bool true):=by
 have C16:=hid (fun w (hb:Below W.heap.size W w)=>zpn q c L w (hL.next hb))
 have CA:=hid (zxw W hD)
 have hl12:(L.take 12).length≤12:=by rw [List.length_take];omega
 have hI:∀ w,Below W.heap.size W w→InAt w (.slice q (L.take 12).length c) (L.take 12):=fun w hb=>by
  have:=(hL.next hb).take (k:=(L.take 12).length) (by rw [List.length_take];omega)
  rwa [show L.take (L.take 12).length=L.take 12 by rw [List.length_take,← List.take_take,List.take_length]] at this
 have hz2:∀ i∈L.take 12,i.s.size≤maxLen:=fun i hi=>hz i (List.mem_of_mem_take hi)
 have hcc:(L.take 12).length≤c:=by
  obtain ⟨_,_,e,hc,_⟩:=(hI W (Below.refl _ _)).is
  simp only [Value.slice.injEq,true_and] at e
  rw [e.2];exact hc
 have H0:=hid (And.intro hI (And.intro hz2 (And.intro hD (And.intro hl12 hcc))))
 clear hL hz hD hI hz2
 generalize L.take 12=M at C16 H0 hl12 hcc
 go_enter Tryz.func5,Tryz.ntmps5
 go_upto_region 3 with (first | (go_at_call 12;(with_reducible refine CA.out.mono ?_);rintro e w1 ⟨rfl,kk⟩;have B1:=hid kk;clear kk) | fail)
 go_upto_region 4 with (first | (go_at_call 16;(with_reducible refine (C16.out w1 B1.out).mono ?_);rintro e w2 ⟨rfl,rfl⟩) | fail)
 have C17:=hid (zkb n s M q c w1 (H0.out.1 w1 B1.out) H0.out.2.2.2.1 H0.out.2.1 (H0.out.2.2.1.below B1.out))
 go_upto_region 5 with (first | (go_at_call 17;(with_reducible refine C17.out.mono ?_);rintro e wb ⟨m,k,rfl,m1,kk,hr⟩;have M1:=hid m1;have HR:=hid hr;have BB:=hid (zac B1.out kk);have ZR:=hid (show (wb.alloc (.cells Tryz.zeroCells42 42)).heap[wb.heap.size]?=some (.cells Tryz.zeroCells42 42 (0,0)) from heap_alloc_last wb _);clear m1 hr kk) | (with_reducible refine zam rfl rfl (MBox.store m M1.out ZR.out (by kernel_rfl)) rfl rfl ?_) | fail)
 rcases HR.out with ⟨rfl,ok,hs,hm⟩ | ⟨hk,_,rfl⟩
 ·have Q0:=hid (AhI.new BB.out hm)
  have OK:=hid ok
  have HS:=hid hs
  have HO1:=hid (zsz M)
  clear ok hs hm HR M1 ZR C16 C17 CA
  generalize wb.heap.size=z at Q0 ⊢
  generalize (wb.alloc (.cells Tryz.zeroCells42 42)).setRow z (mcC m)=wc at Q0 ⊢
  go_wp2_with fail
  go_loopw [10] (fun i wr=>∃ j:Nat,j≤M.length∧i=.int .i64 j∧Hid (AhI W wr z m (spM M newV (newP n.toNat s)).2)) (fun i _=>M.length - (intOf i).toNat)
  case atStart=>exact ⟨0,Nat.zero_le _,rfl,Q0⟩
  case round =>
   obtain ⟨j,hj,rfl,QQ⟩:=hrel
   by_cases hlt:j<M.length
   ·have IN:=(H0.out.1 wr QQ.out.hb).take (Nat.le_of_lt hlt)
    have hlj:(M.take j).length=j:=by rw [List.length_take];omega
    have C17:=hid (show Calls Tryz.prog 17 #[.string s,.int .i64 n,.slice q j c] wr (zej n s (M.take j) wr) from by
     have:=zkb n s (M.take j) q c wr (by rw [hlj];exact IN) (by rw [hlj];omega) (fun i hi=>H0.out.2.1 i (List.mem_of_mem_take hi)) (H0.out.2.2.1.below QQ.out.hb)
     rwa [hlj] at this)
    have RS:=hid (fun w=>zjy w q M.length c j (by omega))
    have OKJ:=hid (zvV OK.out j)
    obtain ⟨X,hX⟩:=HO1.out j newV (newP n.toNat s)
    have HX:=hid hX
    clear IN hlj hX
    go_upto_region 11 with (first | ((with_reducible show wpList _ _ _ (⟨some 41,Op.slice _ _ _ _ _,_,_,_,_⟩ :: _) _ _);refine zei (by kernel_rfl) (zgP rfl rfl rfl (RS.out _)) ?_;simp only [Act.put,List.setIfInBounds_toArray,List.set_cons_zero,List.set_cons_succ]) | (go_at_call 17;(with_reducible refine C17.out.mono ?_);rintro e wd ⟨m2,k2,rfl,m1,kk,hr⟩;have M1:=hid m1;have HR:=hid hr;have BB2:=hid kk;have ZR:=hid (show (wd.alloc (.cells Tryz.zeroCells42 42)).heap[wd.heap.size]?=some (.cells Tryz.zeroCells42 42 (0,0)) from heap_alloc_last wd _);clear m1 hr kk) | (with_reducible refine zam rfl rfl (MBox.store m2 M1.out ZR.out (by kernel_rfl)) rfl rfl ?_) | fail)
    rcases HR.out with ⟨rfl,_,_,hm⟩ | ⟨_,hno,_⟩
    rotate_left
    ·exact absurd OKJ.out hno
    have Q2:=hid (AhI.new BB2.out hm)
    have Q1:=hid ((QQ.out.next BB2.out).next (below_setRow (zaf wd (.cells Tryz.zeroCells42 42)) (Nat.le_refl _) (mcC m2)))
    clear hm HR M1 ZR C17 RS OKJ QQ Q0
    generalize wd.heap.size=z2 at Q1 Q2 ⊢
    generalize (wd.alloc (.cells Tryz.zeroCells42 42)).setRow z2 (mcC m2)=we at Q1 Q2 ⊢
    obtain ⟨q1,c1,e1⟩:=Q1.out.rd.o.is
    obtain ⟨q2,c2,e2⟩:=Q2.out.rd.o.is
    have R1:=e1 ▸ Q1.out.rd.o
    have R2:=hid (e2 ▸ Q2.out.rd.o)
    have hc1:(spM M newV (newP n.toNat s)).2.O.length≤c1:=by
     rcases R1.2 with ⟨h1,h2⟩ | ⟨_,_,hv,h1,_,_⟩
     ·simp only [Value.slice.injEq] at h1;omega
     ·simp only [Value.slice.injEq] at hv;omega
    have hle1:=R1.le
    have hlen:(spM M newV (newP n.toNat s)).2.O.length=(spM (M.take j) newV (newP n.toNat s)).2.O.length+X.length:=by rw [HX.out,List.length_append]
    have R1:=hid (show zaY we (.slice q1 (spM (M.take j) newV (newP n.toNat s)).2.O.length c1) 3 (spM (M.take j) newV (newP n.toNat s)).2.O.length (oC (spM (M.take j) newV (newP n.toNat s)).2.O) from by
     have:=ztl R1 (k:=(spM (M.take j) newV (newP n.toNat s)).2.O.length) (by omega)
     rwa [HX.out,zwb] at this)
    have E1:=hid e1
    have E2:=hid e2
    clear e1 e2 HX
    generalize (spM (M.take j) newV (newP n.toNat s)).2.O=O2 at R1 R2 E2 hlen
    generalize (spM M newV (newP n.toNat s)).2.O.length=n1 at E1 hc1 hle1 hlen
    have HG:=hid (show O2.length≤n1 by omega)
    have HC:=hid (show O2.length≤c1 by omega)
    clear hc1 hle1 hlen
    refine dr (fun w=>MBox w z m∧MBox w z2 m2) fun wz hzz=>?_
    have hS:MBox wz z m∧MBox wz z2 m2:=⟨Q1.out.bx.next hzz,Q2.out.bx.next hzz⟩
    have Q3:=hid (Q1.out.next hzz)
    have R1:=hid (R1.out.below hzz)
    have R2:=hid (R2.out.below hzz)
    clear hzz Q1 Q2
    refine tk 0 hS ?_
    refine tk 1 hS ?_
    refine tk 2 hS ?_
    refine tk 3 hS ?_
    refine tl 4 hS (fun w hw=>MBox.load_o' hw.2 E2.out) ?_
    refine tk 5 hS ?_
    refine tk 6 hS ?_
    refine tl 7 hS (fun w hw=>MBox.load_o' hw.1 E1.out) ?_
    refine tk 8 hS ?_
    refine tk 9 (v:=.bool false) hS ?_ (hy:=.inl ⟨by kernel_rfl,fun w _=>by go_simp;exact HG.out⟩)
    refine tk 10 hS ?_
    refine tk 11 hS ?_
    refine tk 12 hS ?_
    refine tl 13 hS (fun w hw=>MBox.load_o' hw.2 E2.out) ?_
    refine tk 14 hS ?_
    refine tl 15 hS (fun w hw=>MBox.load_o' hw.1 E1.out) ?_
    refine tk 16 hS ?_
    refine tl 17 hS (fun w hw=>MBox.load_o' hw.2 E2.out) ?_
    refine tk 18 hS ?_
    refine tk 19 (v:=.slice q1 O2.length c1) hS ?_ (hy:=.inl ⟨by kernel_rfl,fun w _=>zgP rfl rfl rfl (zs9 w q1 n1 c1 O2.length HC.out)⟩)
    refine hc 20 (zbq (zl5 q2 q1 c2 c1 O2 wz R2.out R1.out)) ?_
    rintro v' wf ⟨rfl,kk⟩
    have Q4:=hid (Q3.out.next kk)
    refine ⟨⟨hS.1.next kk,hS.2.next kk⟩,fun hS2=>?_⟩
    clear kk hS
    simp only [puts]
    refine tk 21 hS2 ?_
    refine tk 22 hS2 ?_
    refine wpAnyH_done (by kernel_rfl) ?_ _
    clear hS2 R1 R2 E1 E2 HG HC Q3
    go_wp2_with fail
    exact ⟨⟨j+1,by omega,by go_num,Q4⟩,by simp [intOf];omega⟩
   ·go_wp2_with fail
    go_ret
    exact ⟨rfl,QQ.out.hb⟩
 ·have hb:(k != 0)=true:=by rw [bne_iff_ne];exact hk
  have HB:=hid (below_setRow (zac BB.out (zaf wb (.cells Tryz.zeroCells42 42))) BB.out.size (mcC mcZ))
  have KX:=hid (show MBox ((wb.alloc (.cells Tryz.zeroCells42 42)).setRow wb.heap.size (mcC mcZ)) wb.heap.size mcZ from setRow_heap _ _ _ _ 42 (0,0) ZR.out)
  clear hk HR M1 ZR C16 C17 CA
  generalize wb.heap.size=z at HB KX ⊢
  generalize (wb.alloc (.cells Tryz.zeroCells42 42)).setRow z (mcC mcZ)=wc at HB KX ⊢
  go_wp2_with (first | (with_reducible refine zaa rfl rfl (MBox.load_o' (v:=.slice none 0 0) KX.out rfl) rfl ?_) | fail)
  go_ret
  exact ⟨rfl,HB.out⟩
end Go.Proofs.YtplcfdnfeclpmaaGreatDoor
namespace Go.Proofs.YtplcfdnfeclpmaaGreatDoor
open Go.RowKit Go.Deep Go.Joins Go.WideShapes Go.ChangeShapes Go.ChangeAt
theorem own:ownKnob Tryz.prog.godebug=none:=by kernel_rfl
theorem zi3:laidOutB Tryz.prog=true:=by kernel_rfl
theorem zs5:Tryz.prog.cellsOf 22=1:=by kernel_rfl
end Go.Proofs.YtplcfdnfeclpmaaGreatDoor
namespace Go.Proofs.YtplcfdnfeclpmaaGreatDoor.Pc
set_option maxRecDepth 100000
open Go.RowKit Go.Deep Go.Joins
open Go.WideShapes Go.ChangeShapes Go.ChangeAt
theorem zi3:laidOutB Tryz.prog=true:=by kernel_rfl
end Go.Proofs.YtplcfdnfeclpmaaGreatDoor.Pc
namespace Go.Proofs.YtplcfdnfeclpmaaGreatDoor
set_option maxRecDepth 100000
open Go.RowKit Go.Deep Go.Joins
open Go.WideShapes Go.ChangeShapes Go.ChangeAt
theorem zqO:Tryz.prog.cellsOf 9=1:=by kernel_rfl
theorem zvZ:Tryz.prog.cellsOf 3=1:=by kernel_rfl
def U64 (x:Int):Prop:=0≤x∧x≤18446744073709551615
section
variable {H : Type} {enc : TypeId × Value → H} {w : World} {base : Nat} {spare : Nat → Bool} {held : Bool}
theorem zn9 {n:Nat} {cs:List Value} {y:DataW H × List MemPlace} (h:DataW.trod enc Tryz.prog w base spare held n 22 cs=some y):∃ k:Int,cs=[.int .u64 k]∧U64 k:=by
 obtain ⟨k,e,rfl,hk⟩:=DataW.trod_int Tryz.underlying22 h
 have b:=bounds_u64 hk
 exact ⟨k,e,b.1,b.2⟩
end
end Go.Proofs.YtplcfdnfeclpmaaGreatDoor
