/- MachineOn, part 47. -/
import Derived.Test.YtplcfdnfeclpmaaGreatDoorV04
import Derived.Test.YtplcfdnfeclpmaaGreatDoorV23
import Derived.Test.YtplcfdnfeclpmaaGreatDoorV42
import Derived.Test.YtplcfdnfeclpmaaGreatDoorV43
import Derived.Test.YtplcfdnfeclpmaaGreatDoorV44
import Derived.Test.YtplcfdnfeclpmaaGreatDoorV45
import Derived.Test.YtplcfdnfeclpmaaGreatDoorV46
set_option maxHeartbeats 4000000
set_option maxRecDepth 100000
open Go.Lib (hid)
open Go Go.RowKit Go.Deep Go.Joins Go.Proofs.Tryz
namespace Go.Proofs.YtplcfdnfeclpmaaGreatDoor
theorem zmm:(Tryz.prog.fieldsOf 33).toList.map (fun f=>(f.type,f.offset))=[(30,0),(31,4),(31,6),(29,8)]:=by kernel_rfl
theorem zhz:(Tryz.prog.info? 30).map (·.size)=some 4:=by kernel_rfl
theorem zg6:(Tryz.prog.info? 31).map (·.size)=some 2:=by kernel_rfl
theorem zn2:Tryz.prog.cellsOf 29=1:=by kernel_rfl
theorem zAm:∃ i,Tryz.prog.info? 29=some i:=by
 cases h:Tryz.prog.info? 29 with
 | none=>have:=(show (Tryz.prog.info? 29).map (·.size)=some 1 by kernel_rfl);rw [h] at this;cases this
 | some i=>exact ⟨i,rfl⟩
theorem zh8 (d t n:Nat) (hu:Tryz.prog.underlying t=some (.array n 29)) (cs:Array Value) (w:World) (h:∀ i,i<n→∃ a,cs[i]?=some (.int .u32 a)):(Op.equalIn (d+2) t (.agg cs) (.agg cs)).run Tryz.prog w=.ok true w:=by
 obtain ⟨i,hi⟩:=zAm;rw [run_equalIn_array w (d+1) cs cs hu hi];refine zhX _ _ _ _ _ _ fun j hj=>?_
 obtain ⟨a,ha⟩:=h j (by simpa using hj);rw [zn2,Nat.mul_one];exact ⟨_,zdu 29 _ cs j _ w underlying29 rfl ha,zd8 d 29 .u32 a w underlying29⟩
theorem zgw (p:Pl) (i:Nat) (hi:i<9):∃ a,(plC p)[i]?=some (.int .u32 a):=by
 match i,hi with
 | 0,_=>exact ⟨_,rfl⟩
 | 1,_=>exact ⟨_,rfl⟩
 | 2,_=>exact ⟨_,rfl⟩
 | 3,_=>exact ⟨_,rfl⟩
 | 4,_=>exact ⟨_,rfl⟩
 | 5,_=>exact ⟨_,rfl⟩
 | 6,_=>exact ⟨_,rfl⟩
 | 7,_=>exact ⟨_,rfl⟩
 | 8,_=>exact ⟨_,rfl⟩
 | i+9,hi=>omega
theorem zte (p:Pl) (w:World):(Op.equalIn 10000 33 (.agg (plC p)) (.agg (plC p))).run Tryz.prog w=.ok true w:=by
 rw [run_equalIn_struct w 9999 33 (plC p) (plC p) (by kernel_rfl) (by kernel_rfl)];refine zgc _ _ _ _ fun f hf=>?_
 have hm:(f.type,f.offset)∈(Tryz.prog.fieldsOf 33).toList.map (fun f=>(f.type,f.offset)):=List.mem_map_of_mem hf;rw [zmm] at hm;simp only [List.mem_cons,List.not_mem_nil,or_false,Prod.mk.injEq] at hm;rcases hm with ⟨e1,e2⟩ | ⟨e1,e2⟩ | ⟨e1,e2⟩ | ⟨e1,e2⟩
 all_goals rw [e1,e2]
 ·refine ⟨_,zfw 30 _ 4 (plC p) 0 w underlying30 rfl zhz,zh8 9997 30 4 underlying30 _ w fun i hi=>?_⟩
  rw [zfI _ 0 4 i hi (by show 0+4≤9;omega),Nat.zero_add];exact zgw p i (by omega)
 ·refine ⟨_,zfw 31 _ 2 (plC p) 4 w underlying31 rfl zg6,zh8 9997 31 2 underlying31 _ w fun i hi=>?_⟩
  rw [zfI _ 4 2 i hi (by show 4+2≤9;omega)];exact zgw p _ (by omega)
 ·refine ⟨_,zfw 31 _ 2 (plC p) 6 w underlying31 rfl zg6,zh8 9997 31 2 underlying31 _ w fun i hi=>?_⟩
  rw [zfI _ 6 2 i hi (by show 6+2≤9;omega)];exact zgw p _ (by omega)
 ·obtain ⟨a,ha⟩:=zgw p 8 (by omega)
  exact ⟨_,zdu 29 _ _ 8 _ w underlying29 rfl ha,zd8 9998 29 .u32 _ w underlying29⟩
theorem zr0 {ρ:Operand→Value} {o:Oper} {x y:Operand} {t2:TypeId} (p:Pl) (w:World) (ho:o.op=.binOp .eql 33 x y t2) (hx:ρ x=.agg (plC p)) (hy:ρ y=.agg (plC p)):(execOp ρ o).run Tryz.prog w=.ok (.value (.bool true)) w:=by
 unfold execOp
 simp [ho,hx,hy,Sem.run_bind,run_eqGuard_agg,run_eql_struct,zte,Result.andThen]
theorem zui {ρ:Operand→Value} {o:Oper} {x y:Operand} {t2:TypeId} (h:Hart) (w:World) (ho:o.op=.binOp .neq 27 x y t2) (hx:ρ x=zat h) (hy:ρ y=zat h):(execOp ρ o).run Tryz.prog w=.ok (.value (.bool false)) w:=by
 unfold execOp
 simp [ho,hx,hy,Sem.run_bind,run_eqGuard_agg,run_neq_struct,zuc,Result.andThen]
structure Bq (w:World) (g:Nat) (h:Hart) (dv mv:Value) (E cnt nxt:Int) (ov fv:Value) (b:Bd):Prop where
 hart:(Instr.loadAt 27 (.pointer (some ⟨g,0,none⟩))).run Tryz.prog w=.ok (zat h) w
 ram:(Instr.loadAt 39 (.pointer (some ⟨g,73,none⟩))).run Tryz.prog w=.ok (.agg #[dv,mv,.int .u64 E]) w
 cnt:w.cell? ⟨g,76,none⟩=some (.int .u64 cnt)
 nxt:w.cell? ⟨g,77,none⟩=some (.int .u64 nxt)
 o:w.cell? ⟨g,78,none⟩=some ov
 lo:(Instr.loadAt 40 (.pointer (some ⟨g,78,none⟩))).run Tryz.prog w=.ok ov w
 lf:(Instr.loadAt 28 (.pointer (some ⟨g,61,none⟩))).run Tryz.prog w=.ok fv w
 fr:w.cell? ⟨g,61,none⟩=some fv
 b:(Instr.loadAt 35 (.pointer (some ⟨g,52,none⟩))).run Tryz.prog w=.ok (bdV b) w
theorem MBox.bx {w:World} {g:Nat} {m r:Mc} (k:MBox w g r) (l:Like m r):Bq w g m.h r.dv r.mv m.E m.cnt m.nxt r.ov (.slice r.b.fp r.b.fn r.b.fc) (m.b.at r.b.fp r.b.fn r.b.fc) :=
 ⟨l.h ▸ k.load_hart,l.E ▸ k.load_ram,l.cnt ▸ k.cell_t 3,l.nxt ▸ k.cell_t 4,k.cell_t 5,k.load_o,k.load_fr,(cell_of_row w g 61 (mcC r) 42 (0,0) k).trans ((zg2 r 9 (by omega)).trans (zbc r.b 9 (by omega))),by have:=k.load_b;rwa [l.b] at this⟩
def Both (W w:World) (m r:Mc):Prop:=MBox w W.heap.size m∧MBox w (W.heap.size+1) r∧Below W.heap.size W w
theorem Both.new (W:World) (m r:Mc):Both W ((W.alloc (mcO m)).alloc (mcO r)) m r:=by
 have h:=Mem.two (W:=W) (mcC m) (mcC r);exact ⟨h.g1,h.g0,h.below⟩
theorem Both.next {W w w':World} {m r:Mc} (h:Both W w m r) (hb:Below w.heap.size w w'):Both W w' m r:=⟨h.1.next hb,h.2.1.next hb,zac h.2.2 hb⟩
theorem Box.cat_msip {w:World} {g n c:Nat} {p:Option Addr} {b:Bd} (k:Box w g (b.at p n c)):w.cell? ⟨g,0,none⟩=some (.bool b.msip):=k.cell_msip
theorem Box.cat_cmp {w:World} {g n c:Nat} {p:Option Addr} {b:Bd} (k:Box w g (b.at p n c)):w.cell? ⟨g,1,none⟩=some (.int .u64 b.cmp):=k.cell_cmp
theorem Box.cat_inn {w:World} {g n c:Nat} {p:Option Addr} {b:Bd} (k:Box w g (b.at p n c)):w.cell? ⟨g,2,none⟩=some (.string b.inn):=k.cell_inn
theorem Box.cat_ier {w:World} {g n c:Nat} {p:Option Addr} {b:Bd} (k:Box w g (b.at p n c)):w.cell? ⟨g,3,none⟩=some (.bool b.ier):=k.cell_ier
theorem Box.cat_sec {w:World} {g n c:Nat} {p:Option Addr} {b:Bd} (k:Box w g (b.at p n c)):w.cell? ⟨g,4,none⟩=some (.string b.sec):=k.cell_sec
theorem Box.cat_sector {w:World} {g n c:Nat} {p:Option Addr} {b:Bd} (k:Box w g (b.at p n c)):w.cell? ⟨g,5,none⟩=some (.int .u64 b.sector):=k.cell_sector
theorem Box.cat_addr {w:World} {g n c:Nat} {p:Option Addr} {b:Bd} (k:Box w g (b.at p n c)):w.cell? ⟨g,6,none⟩=some (.int .u64 b.addr):=k.cell_addr
theorem Box.cat_done {w:World} {g n c:Nat} {p:Option Addr} {b:Bd} (k:Box w g (b.at p n c)):w.cell? ⟨g,7,none⟩=some (.bool b.done):=k.cell_done
theorem Box.cat_bad {w:World} {g n c:Nat} {p:Option Addr} {b:Bd} (k:Box w g (b.at p n c)):w.cell? ⟨g,8,none⟩=some (.bool b.bad):=k.cell_bad
theorem Box.cat_nicA {w:World} {g n c:Nat} {p:Option Addr} {b:Bd} (k:Box w g (b.at p n c)):w.cell? ⟨g,10,none⟩=some (.int .u64 b.nicA):=k.cell_nicA
theorem Box.cat_nicL {w:World} {g n c:Nat} {p:Option Addr} {b:Bd} (k:Box w g (b.at p n c)):w.cell? ⟨g,11,none⟩=some (.int .u64 b.nicL):=k.cell_nicL
theorem Box.cat_pl {w:World} {g n c:Nat} {p:Option Addr} {b:Bd} (k:Box w g (b.at p n c)):(Instr.loadAt 33 (.pointer (some ⟨g,12,none⟩))).run Tryz.prog w=.ok (.agg (plC b.pl)) w:=k.load_pl
theorem zkW (w:World) (g off n c j:Nat) (hj:j<n):(Instr.indexAt 28 (.slice (some ⟨g,off,none⟩) n c) (.int .i64 (j:Int))).run Tryz.prog w=.ok (.pointer (some ⟨g,off+j,none⟩)) w:=by
 have hs:=zjd 9 1 w (by kernel_rfl)
 simp [Instr.indexAt,run_underlying underlying28,asIntOf,hs,hj,Sem.run_bind,Result.andThen,zdx]
theorem zkO {W:World} {q:Option Addr} {c:Nat} {F:List ByteArray} (h:FAt W (.slice q F.length c) F) (h0:0<F.length):∃ g off,q=some ⟨g,off,none⟩∧∀ j (hj:j<F.length),∀ w,Below W.heap.size W w→(Instr.loadAt 9 (.pointer (some ⟨g,off+j,none⟩))).run Tryz.prog w=.ok (.string F[j]) w:=by
 obtain ⟨g,off,cap,e,_,_,hg,hc⟩:=h.cell h0;simp only [Value.slice.injEq] at e;exact ⟨g,off,e.1,fun j hj w hb=>zga w g (off+j) 9 _ _ underlying9 rfl ((hb.cell (p:=⟨g,off+j,none⟩) hg).trans (hc j hj))⟩
theorem Same.alike {a b:Mc} (s:Same a b):Like a b:=by
 have h:=s.re;exact ⟨s.h,by rw [h];rfl,by rw [h],s.cnt,by rw [h]⟩
theorem zqp (m r:Mc) (p:Pt) (W:World) (h1:MR W m p) (h2:MR W r p) (l:Like m r):TB 15 #[mcV m,mcV r] W (.bool true):=by
 have HL:=hid l;have H1:=hid h1;have H2:=hid h2;obtain ⟨q1,c1,e1⟩:=h1.o.is;obtain ⟨q2,c2,e2⟩:=h2.o.is;have n1:=h1.fr.len;have n2:=h2.fr.len;have hOl:=zaW.le h1.o;have hFl:=zaW.le h1.fr;have R1:=hid (e1 ▸ h1.o);have R2:=hid (e2 ▸ h2.o);have S1:=hid (n1 ▸ h1.fr);have S2:=hid (n2 ▸ h2.fr);have L1:=hid (fun w (k:Both W w m r)=>e1 ▸ n1 ▸ k.1.bx (Like.refl m));have L2:=hid (fun w (k:Both W w m r)=>e2 ▸ n2 ▸ k.2.1.bx l);have CS:=hid (fun w (k:Both W w m r)=>ztz m.dv m.mv r.dv r.mv m.E p.D p.M w (h1.next k.2.2).d (h1.next k.2.2).mm (h2.next k.2.2).d (h2.next k.2.2).mm);have CR:=hid (fun w (k:Both W w m r)=>znT q1 q2 c1 c2 p.O w (e1 ▸ (h1.next k.2.2).o) (e2 ▸ (h2.next k.2.2).o));clear l h1 h2 e1 e2 n1 n2;go_enter func15,ntmps15;go_upto_region 1 with (fail);have X:=hid (Both.new W m r);generalize (W.alloc (mcO m)).alloc (mcO r)=wa at X ⊢;have m_cnt:=(L1.out wa X.out).cnt;have m_nxt:=(L1.out wa X.out).nxt;have n_cnt:=(L2.out wa X.out).cnt;have n_nxt:=(L2.out wa X.out).nxt
 go_upto_region 3 with (first | ((with_reducible show wpList _ _ _ (⟨some 9,Op.load 27 _,_,_,_,_⟩ :: _) _ _);refine zaU (by kernel_rfl) rfl (L1.out _ X.out).hart rfl ?_;simp only [Act.put,List.setIfInBounds_toArray,List.set_cons_zero,List.set_cons_succ]) | ((with_reducible show wpList _ _ _ (⟨some 11,Op.load 27 _,_,_,_,_⟩ :: _) _ _);refine zaU (by kernel_rfl) rfl (L2.out _ X.out).hart rfl ?_;simp only [Act.put,List.setIfInBounds_toArray,List.set_cons_zero,List.set_cons_succ]) | ((with_reducible show wpList _ _ _ (⟨some 12,Op.binOp .neq 27 _ _ _,_,_,_,_⟩ :: _) _ _);refine zf6 (by kernel_rfl) (zui m.h _ rfl rfl rfl) ?_;simp only [Act.put,List.setIfInBounds_toArray,List.set_cons_zero,List.set_cons_succ]) | ((with_reducible show wpList _ _ _ (⟨some 29,Op.load 39 _,_,_,_,_⟩ :: _) _ _);refine zaU (by kernel_rfl) rfl (L1.out _ X.out).ram rfl ?_;simp only [Act.put,List.setIfInBounds_toArray,List.set_cons_zero,List.set_cons_succ]) | ((with_reducible show wpList _ _ _ (⟨some 31,Op.load 39 _,_,_,_,_⟩ :: _) _ _);refine zaU (by kernel_rfl) rfl (L2.out _ X.out).ram rfl ?_;simp only [Act.put,List.setIfInBounds_toArray,List.set_cons_zero,List.set_cons_succ]) | (go_at_call 37;(with_reducible refine (CS.out _ X.out).mono ?_);rintro e wb ⟨rfl,kk⟩;clear m_cnt m_nxt n_cnt n_nxt;have X:=hid (X.out.next kk);clear kk) | ((with_reducible show wpList _ _ _ (⟨some 37,Op.load 40 _,_,_,_,_⟩ :: _) _ _);refine zaU (by kernel_rfl) rfl (L1.out _ X.out).lo rfl ?_;simp only [Act.put,List.setIfInBounds_toArray,List.set_cons_zero,List.set_cons_succ]) | ((with_reducible show wpList _ _ _ (⟨some 39,Op.load 40 _,_,_,_,_⟩ :: _) _ _);refine zaU (by kernel_rfl) rfl (L2.out _ X.out).lo rfl ?_;simp only [Act.put,List.setIfInBounds_toArray,List.set_cons_zero,List.set_cons_succ]) | (go_at_call 18;(with_reducible refine (CR.out _ X.out).mono ?_);rintro e wc ⟨rfl,kk⟩;have X:=hid (X.out.next kk);clear kk;have m_fr:=(L1.out _ X.out).fr;have n_fr:=(L2.out _ X.out).fr))
 clear CS CR H1 H2 HL m_fr n_fr R1 R2;go_wp2_with fail
 go_loopw [5] (fun i wr=>∃ j:Nat,j≤p.F.length∧i=.int .i64 j∧Hid (Both W wr m r)) (fun i _=>p.F.length - (intOf i).toNat)
 case atStart=>exact ⟨0,Nat.zero_le _,rfl,X⟩
 case round =>
  obtain ⟨k,hk,rfl,X⟩:=hrel
  by_cases hlt:k<p.F.length
  ·obtain ⟨g,off,hq,hld⟩:=zkO S1.out (by omega)
   obtain ⟨g2,off2,hq2,hld2⟩:=zkO S2.out (by omega);have m_fr:=(L1.out _ X.out).fr;have n_fr:=(L2.out _ X.out).fr;go_upto_region 6 with (fail);clear m_fr n_fr;have D1:=hid (hld k hlt);have D2:=hid (hld2 k hlt);clear hld hld2;generalize p.F[k]=ss at D1 D2;refine dr (fun w=>Both W w m r) fun wz hzz=>?_
   have X:=hid (X.out.next hzz);clear hzz;have hS:=X.out;refine tk 0 hS ?_
   refine tk 1 hS ?_
   refine tl 2 hS (fun w hw=>hq ▸ (L1.out w hw).lf) ?_
   refine tk 3 hS ?_
   refine tk 4 hS ?_ (hy:=.inl ⟨by kernel_rfl,fun w _=>zgC rfl rfl rfl (zkW w g off _ m.b.fc k hlt)⟩)
   refine tl 5 hS (fun w hw=>D1.out w hw.2.2) ?_
   refine tk 6 hS ?_
   refine tk 7 hS ?_
   refine tl 8 hS (fun w hw=>hq2 ▸ (L2.out w hw).lf) ?_
   refine tk 9 hS ?_
   refine tk 10 hS ?_ (hy:=.inl ⟨by kernel_rfl,fun w _=>zgC rfl rfl rfl (zkW w g2 off2 _ r.b.fc k hlt)⟩)
   refine tl 11 hS (fun w hw=>D2.out w hw.2.2) ?_
   refine tk 12 hS ?_
   refine wpAnyH_done (by kernel_rfl) ?_ _
   clear D1 D2 hS;go_wp2_with fail;exact ⟨⟨k+1,by omega,by go_num,X⟩,by simp [intOf];omega⟩
  ·have m_fr:=(L1.out _ X.out).fr
   have n_fr:=(L2.out _ X.out).fr;go_upto_region 8 with (fail);clear m_fr n_fr hlt hk;refine dr (fun w=>Both W w m r) fun wz hzz=>?_
   have Y:=hid (X.out.next hzz);have X:=hid (Mem.start wz);clear hzz;have hS:=Y.out;refine tk 0 hS ?_
   refine tl 1 hS (fun w hw=>(L1.out w hw).b) ?_
   refine tk 2 hS ?_
   refine tl 3 hS (fun w hw=>(L2.out w hw).b) ?_
   refine two 4 5 (al 4 (Y.out.next X.out.newZ.below) ?_ (al 5 (Y.out.next X.out.newZ.below) ?_ AllReadyH.nil))
   have X:=hid X.out.newZ;generalize wz.heap.size=x at X ⊢;generalize wz.alloc zaj=wn at X ⊢;refine ho 5 (Y.out.next X.out.newZ.below) ?_
   have X:=hid X.out.newZ;generalize wn.heap.size=y at X ⊢;generalize wn.alloc zaj=wn at X ⊢
   rotate_left
   have X:=hid X.out.newZ;generalize wz.heap.size=y at X ⊢;generalize wz.alloc zaj=wn at X ⊢;refine ho 4 (Y.out.next X.out.newZ.below) ?_
   have X:=hid X.out.newZ.swap;generalize wn.heap.size=x at X ⊢;generalize wn.alloc zaj=wn at X ⊢
   rotate_left
   all_goals
    have hS:=Y.out.next X.out.below;refine hs 6 (zaY _ _ _ _ X.out.b1 (zaN _)) fun wy hw=>?_
    have X:=hid (X.out.p1 hw);refine ⟨Y.out.next X.out.below,fun hS=>?_⟩
    clear hw;refine hs 7 (zaY _ _ _ _ X.out.b0 (zaN _)) fun wy hw=>?_
    have X:=hid (X.out.p0 hw);refine ⟨Y.out.next X.out.below,fun hS=>?_⟩
    clear hw hS;refine wpAnyH_done (by kernel_rfl) ?_ _
    have m_msip:=X.out.b1.cat_msip;have n_msip:=X.out.b0.cat_msip;have m_cmp:=X.out.b1.cat_cmp;have n_cmp:=X.out.b0.cat_cmp;have m_inn:=X.out.b1.cat_inn;have n_inn:=X.out.b0.cat_inn;have m_ier:=X.out.b1.cat_ier;have n_ier:=X.out.b0.cat_ier;have m_sec:=X.out.b1.cat_sec;have n_sec:=X.out.b0.cat_sec;have m_sector:=X.out.b1.cat_sector;have n_sector:=X.out.b0.cat_sector;have m_addr:=X.out.b1.cat_addr;have n_addr:=X.out.b0.cat_addr;have m_done:=X.out.b1.cat_done;have n_done:=X.out.b0.cat_done;have m_bad:=X.out.b1.cat_bad;have n_bad:=X.out.b0.cat_bad;have m_nicA:=X.out.b1.cat_nicA;have n_nicA:=X.out.b0.cat_nicA;have m_nicL:=X.out.b1.cat_nicL;have n_nicL:=X.out.b0.cat_nicL;go_wp2_with (first | ((with_reducible show wpList _ _ _ (⟨some _,Op.load 33 _,_,_,_,_⟩ :: _) _ _);refine zaU (by kernel_rfl) rfl (Box.cat_pl X.out.b1) rfl ?_;simp only [Act.put,List.setIfInBounds_toArray,List.set_cons_zero,List.set_cons_succ]) | ((with_reducible show wpList _ _ _ (⟨some _,Op.load 33 _,_,_,_,_⟩ :: _) _ _);refine zaU (by kernel_rfl) rfl (Box.cat_pl X.out.b0) rfl ?_;simp only [Act.put,List.setIfInBounds_toArray,List.set_cons_zero,List.set_cons_succ]) | ((with_reducible show wpList _ _ _ (⟨some _,Op.binOp .eql 33 _ _ _,_,_,_,_⟩ :: _) _ _);refine zf6 (by kernel_rfl) (zr0 m.b.pl _ rfl rfl rfl) ?_;simp only [Act.put,List.setIfInBounds_toArray,List.set_cons_zero,List.set_cons_succ]));go_ret;exact ⟨rfl,(Y.out.next X.out.below).2.2⟩
end Go.Proofs.YtplcfdnfeclpmaaGreatDoor
namespace Go.Proofs.YtplcfdnfeclpmaaGreatDoor
structure HR (h:Hart):Prop where
 x0:x0V h=0
 pc:h.pc % 2=0
 mode:h.mode=0∨h.mode=1∨h.mode=3
 c:Cs.zao h.c=true
 res:h.held=true∨h.rat=0
theorem zpz:∀ i,i<64→i≠0→Tr.bitT 1 i=false:=by decide +kernel
theorem zkz (x:Int) (hx:Tr.U64 x):(bits .and .u64 x 1==0)=true ↔ x % 2=0:=by
 have hb:=Tr.zee x hx 0 (by omega);have e1:Tr.bitT 1 0=true:=by decide +kernel
 rw [beq_iff_eq]
 constructor
 ·intro h
  have k:=congrArg (fun y=>Tr.bitT y 0) h;simp only [Tr.zbd,Tr.zcv,e1,Bool.and_true] at k;rw [hb] at k;have:=of_decide_eq_false k
  simp at this
  omega
 ·intro h
  refine Tr.zci _ _ (Tr.zad _ _ _) Tr.zap fun i hi=>?_
  rw [Tr.zbd,Tr.zcv]
  by_cases h0:i=0
  ·subst h0
   rw [hb,decide_eq_false (by simp;omega)];rfl
  ·rw [zpz i hi h0,Bool.and_false]
theorem zjw (m:Int):zdc m=true ↔ (m=0∨m=1∨m=3):=by
 unfold zdc;simp only [Bool.or_eq_true,beq_iff_eq]
 constructor
 ·rintro ((h | h) | h)
  ·exact .inl h
  ·exact .inr (.inl h)
  ·exact .inr (.inr h)
 ·rintro (h | h | h)
  ·exact .inl (.inl h)
  ·exact .inl (.inr h)
  ·exact .inr h
theorem zk1 {h:Hart} (hp:Tr.U64 h.pc):za4 h=true ↔ HR h:=by
 unfold za4;simp only [Bool.and_eq_true,Bool.or_eq_true,beq_iff_eq]
 constructor
 ·rintro ⟨⟨⟨⟨h1,h2⟩,h3⟩,h4⟩,h5⟩
  exact ⟨h1,(zkz _ hp).1 (by rw [beq_iff_eq];exact h2),(zjw _).1 h3,h4,h5⟩
 ·rintro ⟨h1,h2,h3,h4,h5⟩
  exact ⟨⟨⟨⟨h1,by have:=(zkz _ hp).2 h2;rwa [beq_iff_eq] at this⟩,(zjw _).2 h3⟩,h4⟩,h5⟩
def Sub (x m:Int):Prop:=∀ i,i<64→Tr.bitT x i=true→Tr.bitT m i=true
theorem zeL {x m:Int} (h:Sub x m) (y:Int):Sub (bits .andNot .u64 x y) m:=fun i hi hb=>by
 rw [Tr.zcd _ _ i hi,Bool.and_eq_true] at hb;exact h i hi hb.1
theorem zgv {x y m:Int} (h:Sub x m) (k:Sub y m):Sub (bits .or .u64 x y) m:=fun i hi hb=>by
 rw [Tr.zep,Bool.or_eq_true] at hb;rcases hb with hb | hb
 ·exact h i hi hb
 ·exact k i hi hb
theorem zpY {y m:Int} (x:Int) (k:Sub y m):Sub (bits .and .u64 x y) m:=fun i hi hb=>by
 rw [Tr.zbd,Bool.and_eq_true] at hb;exact k i hi hb.2
theorem zfR {x y m:Int} (h:Sub x m) (k:Sub y m) (o:Bool):Sub (Tr.wV x y o) m:=by
 unfold Tr.wV
 split
 ·exact zgv h k
 ·exact zeL h y
theorem s256:Sub 256 924074:=by unfold Sub;decide +kernel
theorem s32:Sub 32 924074:=by unfold Sub;decide +kernel
theorem s128:Sub 128 924074:=by unfold Sub;decide +kernel
theorem s8:Sub 8 924074:=by unfold Sub;decide +kernel
theorem s2:Sub 2 924074:=by unfold Sub;decide +kernel
theorem zpx:Sub 6144 924074:=by unfold Sub;decide +kernel
theorem zes {x y:Int} {i:Nat} (hi:i<64) (hy:Tr.bitT y i=false):Tr.bitT (bits .andNot .u64 x y) i=Tr.bitT x i:=by rw [Tr.zcd _ _ i hi,hy];simp
theorem k_or {x y:Int} {i:Nat} (hy:Tr.bitT y i=false):Tr.bitT (bits .or .u64 x y) i=Tr.bitT x i:=by rw [Tr.zep,hy,Bool.or_false]
theorem k_wV {x y:Int} {i:Nat} (hi:i<64) (hy:Tr.bitT y i=false) (o:Bool):Tr.bitT (Tr.wV x y o) i=Tr.bitT x i:=by
 unfold Tr.wV
 split
 ·exact k_or hy
 ·exact zes hi hy
theorem zdL {s:Int} (hs:Tr.U64 s):(Cs.stV s==s)=true ↔ Sub s 924074∧Tr.twoB s=false:=by
 have e:(Cs.stV s==s)=true ↔ bits .and .u64 s 924074=s∧Tr.twoB s=false:=Tr.zgE s hs;rw [e]
 constructor
 ·rintro ⟨h1,h2⟩
  refine ⟨fun i hi hb=>?_,h2⟩
  rw [← h1,Tr.zbd,Bool.and_eq_true] at hb;exact hb.2
 ·rintro ⟨h1,h2⟩
  refine ⟨Tr.zci _ _ (Tr.zad _ _ _) hs fun i hi=>?_,h2⟩
  rw [Tr.zbd];have:=h1 i hi
  revert this
  cases Tr.bitT s i <;> cases Tr.bitT 924074 i <;> simp
theorem b256:Tr.bitT 256 11=false∧Tr.bitT 256 12=false:=by decide +kernel
theorem b32:Tr.bitT 32 11=false∧Tr.bitT 32 12=false:=by decide +kernel
theorem b128:Tr.bitT 128 11=false∧Tr.bitT 128 12=false:=by decide +kernel
theorem b8:Tr.bitT 8 11=false∧Tr.bitT 8 12=false:=by decide +kernel
theorem b2:Tr.bitT 2 11=false∧Tr.bitT 2 12=false:=by decide +kernel
theorem zi5:Tr.bitT 131328 11=false∧Tr.bitT 131328 12=false:=by decide +kernel
theorem zwW:Tr.bitT 131072 11=false∧Tr.bitT 131072 12=false:=by decide +kernel
theorem zhw {x y:Int} (h:Tr.bitT x 11=Tr.bitT y 11∧Tr.bitT x 12=Tr.bitT y 12):Tr.twoB x=Tr.twoB y:=by unfold Tr.twoB;rw [h.1,h.2]
theorem zwh {s:Int} (hs:Tr.U64 s) (h:(Cs.stV s==s)=true) (a b:Bool):(Cs.stV (bits .andNot .u64 (Tr.wV (Tr.wV s 256 a) 32 b) 2)==bits .andNot .u64 (Tr.wV (Tr.wV s 256 a) 32 b) 2)=true:=by
 obtain ⟨h1,h2⟩:=(zdL hs).1 h;refine (zdL (Tr.zad _ _ _)).2 ⟨zeL (zfR (zfR h1 s256 a) s32 b) 2,?_⟩
 rw [← h2];exact zhw ⟨by rw [zes (by omega) b2.1,k_wV (by omega) b32.1,k_wV (by omega) b256.1],by rw [zes (by omega) b2.2,k_wV (by omega) b32.2,k_wV (by omega) b256.2]⟩
theorem zzh {s m:Int} (hs:Tr.U64 s) (h:(Cs.stV s==s)=true) (hm:m=0∨m=1∨m=3) (b:Bool):(Cs.stV (bits .andNot .u64 (Tr.wV (bits .or .u64 (bits .andNot .u64 s 6144) (bits .and .u64 (IntKind.u64.wrap (IntKind.u64.wrap m*2048)) 6144)) 128 b) 8)==bits .andNot .u64 (Tr.wV (bits .or .u64 (bits .andNot .u64 s 6144) (bits .and .u64 (IntKind.u64.wrap (IntKind.u64.wrap m*2048)) 6144)) 128 b) 8)=true:=by
 obtain ⟨h1,h2⟩:=(zdL hs).1 h;refine (zdL (Tr.zad _ _ _)).2 ⟨zeL (zfR (zgv (zeL h1 _) (zpY _ zpx)) s128 b) 8,?_⟩
 have e:Tr.twoB (bits .or .u64 (bits .andNot .u64 s 6144) (bits .and .u64 (IntKind.u64.wrap (IntKind.u64.wrap m*2048)) 6144))=false:=by
  unfold Tr.twoB;rw [Tr.zep,Tr.zep,Tr.zcd _ _ 11 (by omega),Tr.zcd _ _ 12 (by omega),Tr.K11,Tr.K12];rcases hm with rfl | rfl | rfl
  ·rw [show Tr.bitT (bits .and .u64 (IntKind.u64.wrap (IntKind.u64.wrap 0*2048)) 6144) 12=false by decide +kernel];simp
  ·rw [show Tr.bitT (bits .and .u64 (IntKind.u64.wrap (IntKind.u64.wrap 1*2048)) 6144) 12=false by decide +kernel];simp
  ·rw [show Tr.bitT (bits .and .u64 (IntKind.u64.wrap (IntKind.u64.wrap 3*2048)) 6144) 11=true by decide +kernel];simp
 rw [← e];exact zhw ⟨by rw [zes (by omega) b8.1,k_wV (by omega) b128.1],by rw [zes (by omega) b8.2,k_wV (by omega) b128.2]⟩
theorem zx1 {s:Int} (hs:Tr.U64 s) (h:(Cs.stV s==s)=true) (q:Int):(Cs.stV (Tr.zdK s q)==Tr.zdK s q)=true:=by
 obtain ⟨h1,h2⟩:=(zdL hs).1 h;have k:Sub (bits .andNot .u64 (bits .or .u64 (Tr.wV s 8 (Tr.nzV s 128)) 128) 6144) 924074:=zeL (zgv (zfR h1 s8 _) s128) _;have t:Tr.bitT (bits .andNot .u64 (bits .or .u64 (Tr.wV s 8 (Tr.nzV s 128)) 128) 6144) 12=false:=by rw [Tr.zcd _ _ 12 (by omega),Tr.K12];simp
 unfold Tr.zdK
 split
 ·refine (zdL (Tr.zad _ _ _)).2 ⟨zeL k _,?_⟩
  unfold Tr.twoB;rw [zes (by omega) zwW.2,t];rfl
 ·refine (zdL (Tr.zad _ _ _)).2 ⟨k,?_⟩
  unfold Tr.twoB;rw [t];rfl
theorem zy7 {s:Int} (hs:Tr.U64 s) (h:(Cs.stV s==s)=true):(Cs.stV (Tr.zeq s)==Tr.zeq s)=true:=by
 obtain ⟨h1,h2⟩:=(zdL hs).1 h;unfold Tr.zeq;refine (zdL (Tr.zad _ _ _)).2 ⟨zeL (zgv (zfR h1 s2 _) s32) _,?_⟩
 rw [← h2];exact zhw ⟨by rw [zes (by omega) zi5.1,k_or b32.1,k_wV (by omega) b2.1],by rw [zes (by omega) zi5.2,k_or b32.2,k_wV (by omega) b2.2]⟩
theorem zji:∀ i,i<64→i≠11→i≠12→Tr.bitT 6144 i=false:=by decide +kernel
theorem zkY:∀ i,i<64→i≠11→Tr.bitT 2048 i=false:=by decide +kernel
theorem zpd:Tr.bitT 2048 11=true:=by decide +kernel
theorem zp1 {s:Int} (hs:Tr.U64 s) (h:(Cs.stV s==s)=true):Tr.mppV s=0∨Tr.mppV s=1∨Tr.mppV s=3:=by
 obtain ⟨_,h2⟩:=(zdL hs).1 h;unfold Tr.twoB at h2;unfold Tr.mppV
 have g:∀ c:Int,Tr.U64 c→Tr.bitT c 11=Tr.bitT s 11→Tr.bitT c 12=Tr.bitT s 12→(∀ i,i<64→i≠11→i≠12→Tr.bitT c i=false)→bits .and .u64 s 6144=c:=fun c hc c1 c2 c3=>by
  refine Tr.zci _ _ (Tr.zad _ _ _) hc fun i hi=>?_
  rw [Tr.zbd]
  by_cases e1:i=11
  ·subst e1;rw [Tr.K11,Bool.and_true,c1]
  by_cases e2:i=12
  ·subst e2;rw [Tr.K12,Bool.and_true,c2]
  rw [zji i hi e1 e2,c3 i hi e1 e2,Bool.and_false]
 cases t11:Tr.bitT s 11 with
 | false =>
  have t12:Tr.bitT s 12=false:=by rw [t11] at h2;simpa using h2
  rw [g 0 Tr.zap (by rw [Tr.zcv,t11]) (by rw [Tr.zcv,t12]) fun i _ _ _=>Tr.zcv i];exact .inl rfl
 | true =>
  cases t12:Tr.bitT s 12 with
  | false =>
   rw [g 2048 ⟨by omega,by omega⟩ (by rw [zpd,t11]) (by rw [t12];exact zkY 12 (by omega) (by omega)) fun i hi h1 _=>zkY i hi h1];exact .inr (.inl rfl)
  | true =>
   rw [g 6144 ⟨by omega,by omega⟩ (by rw [Tr.K11,t11]) (by rw [Tr.K12,t12]) zji];exact .inr (.inr rfl)
theorem zhZ {x:Int} (hx:Tr.U64 x) (h:Tr.bitT x 0=false):x % 2=0:=by
 rw [Tr.zee x hx 0 (by omega)] at h;have:=of_decide_eq_false h
 simp at this
 omega
theorem zxx (x:Int):(bits .andNot .u64 x 1) % 2=0:=zhZ (Tr.zad _ _ _) (by rw [Tr.zcd _ _ 0 (by omega),show Tr.bitT 1 0=true by decide +kernel];simp)
theorem zwR (x:Int):(bits .andNot .u64 x 3) % 2=0:=zhZ (Tr.zad _ _ _) (by rw [Tr.zcd _ _ 0 (by omega),show Tr.bitT 3 0=true by decide +kernel];simp)
theorem zkP (v t:Int):Tr.zez v t % 2=0:=by
 have h:=zwR v;unfold Tr.zez
 split
 ·rw [IntKind.wrap_u64,IntKind.wrap_u64]
  generalize bits .andNot .u64 v 3=a at *;generalize bits .andNot .u64 t 9223372036854775808=b;omega
 ·exact h
theorem zld {x:Int} (hx:Tr.U64 x) (h:((bits .andNot .u64 x 18446744073709551614)==0)=true):x % 2=0:=by
 refine zhZ hx ?_
 cases hb:Tr.bitT x 0 with
 | false=>rfl
 | true =>
  have:=Tr.zgT x _ hx h 0 hb;rw [show Tr.bitT 18446744073709551614 0=false by decide +kernel] at this;cases this
theorem zlf (x:Int):((bits .andNot .u64 (bits .andNot .u64 x 1) 18446744073709551614)==0)=true :=
 Tr.zh0 _ _ (Tr.zad _ _ _) fun i hi hb=>by
  rw [Tr.zcd _ _ i hi,Bool.and_eq_true] at hb;rw [Tr.c1 i hi];exact hb.2
end Go.Proofs.YtplcfdnfeclpmaaGreatDoor
namespace Go.Proofs.YtplcfdnfeclpmaaGreatDoor
theorem zkZ {h:Hart} (H:HOk h) (R:HR h) (k:Nat) (it:Bool) (v:Int):HR (Tr.zdY h k it v):=by
 obtain ⟨h0,h1,h2,h3,h4,h5,h6,h7,h8,h9,h10⟩:=Cs.zgf h.c R.c;unfold Tr.zdY
 split
 ·exact ⟨R.x0,zkP _ _,.inr (.inl rfl),Cs.zbD _ (zwh H.c.s0 h0 _ _) h1 h2 h3 h4 h5 h6 h7 (zlf _) h9 h10,.inr rfl⟩
 ·exact ⟨R.x0,zkP _ _,.inr (.inr rfl),Cs.zbD _ (zzh H.c.s0 h0 R.mode _) h1 h2 h3 h4 h5 h6 (zlf _) h8 h9 h10,.inr rfl⟩
theorem zd1 {h:Hart} (H:HOk h) (R:HR h) (c v:Int):HR (tkH h c v):=by
 unfold tkH
 split
 ·exact zkZ H R _ _ _
 ·exact R
theorem zds {h:Hart} (R:HR h) (n v:Int) (hn:0≤n):HR (putH h n v):=by
 unfold putH
 split
 ·exact R
 ·rename_i hz
  refine ⟨?_,R.pc,R.mode,R.c,R.res⟩
  have hx:=R.x0;unfold x0V at hx ⊢;show (h.x.set n.toNat v).headD 0=0
  obtain ⟨k,hk⟩:∃ k,n.toNat=k+1:=⟨n.toNat - 1,by omega⟩;rw [hk];generalize h.x=l at hx;cases l with
  | nil=>exact hx
  | cons a l=>exact hx
theorem zgO {h:Hart} (R:HR h):HR (relH h):=⟨R.x0,R.pc,R.mode,R.c,.inr rfl⟩
theorem zpa {h:Hart} (R:HR h) (t:Int):HR { h with held:=true,rat:=t }:=⟨R.x0,R.pc,R.mode,R.c,.inl rfl⟩
theorem ze6 {h:Hart} (H:HOk h) (R:HR h) (D:List UInt8) (t kind:Int):HR (fnH h D t kind).2.2:=by
 unfold fnH
 split
 ·exact R
 ·exact zd1 H R _ _
theorem zfj {h:Hart} (H:HOk h) (R:HR h) (g:Wk):HR (noH h g):=zd1 H R _ _
theorem zAD {h:Hart} (H:HOk h) (R:HR h):HR (Tr.zd6 h):=by
 obtain ⟨h0,h1,h2,h3,h4,h5,h6,h7,h8,h9,h10⟩:=Cs.zgf h.c R.c;exact ⟨R.x0,zld H.c.s7 h7,zp1 H.c.s0 h0,Cs.zbD _ (zx1 H.c.s0 h0 _) h1 h2 h3 h4 h5 h6 h7 h8 h9 h10,R.res⟩
theorem zph {h:Hart} (H:HOk h) (R:HR h):HR (Tr.zeb h):=by
 obtain ⟨h0,h1,h2,h3,h4,h5,h6,h7,h8,h9,h10⟩:=Cs.zgf h.c R.c;refine ⟨R.x0,zld H.c.s12 h8,?_,Cs.zbD _ (zy7 H.c.s0 h0) h1 h2 h3 h4 h5 h6 h7 h8 h9 h10,R.res⟩
 show (if Tr.nzV h.c.s0 256=true then (1:Int) else 0)=0∨(if Tr.nzV h.c.s0 256=true then (1:Int) else 0)=1∨(if Tr.nzV h.c.s0 256=true then (1:Int) else 0)=3
 split
 ·exact .inr (.inl rfl)
 ·exact .inl rfl
theorem znU {v:Mc} (H:HOk v.h) (R:HR v.h) (g:Wk) (hg:0≤g.r):HR (ctR v g).2:=by
 unfold ctR;simp only
 split
 ·exact zfj H R g
 ·split
  ·split
   ·exact zfj H R g
   ·have R2:HR { v.h with c:=(Cs.wtV v.h.c v.h.mode g.i (wrV v g (Cs.rdV v.h.c v.h.mode g.i g.l v.cnt).1).1).1 }:=⟨R.x0,R.pc,R.mode,Cs.wt_r _ _ _ _ R.c,R.res⟩
    exact zds R2 _ _ hg
  ·exact zds R _ _ hg
theorem ztk {h:Hart} (H:HOk h) (R:HR h) (g:Wk):HR (dcR h g).2.1:=by
 unfold dcR
 split
 ·exact zfj H R g
 ·exact R
theorem zip {h:Hart} (H:HOk h) (R:HR h) (p:Pt) (t:Int) (ht:Al.U64 t):HR (hfH h p t).2.2:=by
 unfold hfH
 split
 ·exact ze6 H R _ _ _
 ·split
  ·exact ze6 H R _ _ _
  ·show HR (tkH _ 1 t)
   exact zd1 (zc8 H _ _ _ ht) (ze6 H R _ _ _) _ _
theorem zw7 {v:Mc} (H:HOk v.h) (R:HR v.h) (p:Pt) (g:Wk):HR (ftR v p g).2.1:=by
 have h1:=zhq H p v.h.pc H.pc;have r1:=zip H R p v.h.pc H.pc;have r2:=zip h1 r1 p (pcV v.h 2) (zaX _);unfold ftR
 split
 ·exact r1
 ·split
  ·split
   ·exact zd1 h1 r1 2 _
   ·exact r1
  ·split
   ·exact r2
   ·exact r2
theorem zil {h:Hart} (R:HR h) (n:Int) (hn:n % 2=0):pcV h n % 2=0:=by
 have:=R.pc;unfold pcV;rw [IntKind.wrap_u64];omega
theorem zoA {v:Mc} (R:HR v.h) (p:Pt) (g:Wk) (hk:(ftR v p g).1=true):(ftR v p g).2.2.np % 2=0:=by
 unfold ftR at hk ⊢
 by_cases a:(hfH v.h p v.h.pc).2.1=false
 ·rw [if_pos a] at hk;cases hk
 rw [if_neg a] at hk ⊢
 by_cases b:Br.zdB (hfH v.h p v.h.pc).1.toNat=true
 ·rw [if_pos b] at hk ⊢
  by_cases c:Br.zbw (hfH v.h p v.h.pc).1.toNat=0
  ·rw [if_pos c] at hk;cases hk
  ·rw [if_neg c]
   exact zil R 2 (by decide)
 ·rw [if_neg b] at hk ⊢
  by_cases c:(hfH (hfH v.h p v.h.pc).2.2 p (pcV v.h 2)).2.1=false
  ·rw [if_pos c] at hk;cases hk
  ·rw [if_neg c]
   exact zil R 4 (by decide)
def EvI (i:De.In):Prop:=(i.op=3∨i.op∈([5,6,7,8,9,10]:List Int))→i.imm % 2=0
theorem zbm {c:Prop} [Decidable c] {a b:De.In} (ha:EvI a) (hb:EvI b):EvI (if c then a else b):=by split <;> assumption
theorem ev_z {o a b c:Int}:EvI ⟨o,a,b,c,0⟩:=fun _=>rfl
theorem zdz {o a b c i:Int} (h:¬ (o=3∨o∈([5,6,7,8,9,10]:List Int))):EvI ⟨o,a,b,c,i⟩:=fun e=>absurd e h
theorem zgh (g:Nat) (hg:∀ j<8,¬ (De.row g j=3∨De.row g j∈([5,6,7,8,9,10]:List Int))) (w:Nat) {a b c i:Int}:EvI ⟨De.row g (De.cutN w 12 3),a,b,c,i⟩:=zdz (hg _ (De.zbk w 12 3))
theorem ev_B (w:Nat) {o a b c:Int}:EvI ⟨o,a,b,c,De.immB w⟩:=fun _=>by
 show De.immB w % 2=0
 unfold De.immB;omega
theorem ev_J (w:Nat) {o a b c:Int}:EvI ⟨o,a,b,c,De.immJ w⟩:=fun _=>by
 show De.immJ w % 2=0
 unfold De.immJ;omega
theorem ztd (w:Nat):EvI (De.pOwn w):=by
 unfold De.pOwn;exact zbm (zdz (by decide)) (zbm (zdz (by decide)) (zbm (zdz (by decide)) (zgh 4 (by decide) w)))
theorem zqE (w:Nat):EvI (De.za5 w):=by
 unfold De.za5;exact zbm (zbm ev_z ev_z) ev_z
theorem zo2 (w:Nat):EvI (De.pSys w):=by
 unfold De.pSys;exact zbm (zgh 11 (by decide) w) (zbm ev_z (zbm ev_z (zbm ev_z (zbm ev_z (zbm ev_z (zbm ev_z ev_z))))))
theorem zqN (w:Nat):EvI (De.zbt w):=by
 unfold De.zbt;exact zbm (zdz (by decide)) (zbm (zdz (by decide)) (zbm (zdz (by decide)) (zbm (zdz (by decide)) ev_z)))
theorem zqk (w:Nat):EvI (De.pIns w):=by
 unfold De.pIns;refine zbm (zdz (by decide)) ?_
 refine zbm (zdz (by decide)) ?_
 refine zbm (ev_J w) ?_
 refine zbm (zbm (zdz (by decide)) ev_z) ?_
 refine zbm (ev_B w) ?_
 refine zbm (zgh 1 (by decide) w) ?_
 refine zbm (zgh 2 (by decide) w) ?_
 refine zbm (ztd w) ?_
 refine zbm (zqN w) ?_
 refine zbm ev_z ?_
 refine zbm ev_z ?_
 refine zbm ev_z ?_
 refine zbm (zqE w) ?_
 exact zbm (zo2 w) ev_z
theorem zmf {v:Mc} {p:Pt} (k:VOk v p) (R:HR v.h) (g:Wk) (hg:0≤g.r):HR (ldR v p g).2.1.h:=by
 have hf:=zc8 k.h p.D (adV v g) 1 (zaX _);have rf:=ze6 k.h R p.D (adV v g) 1;unfold ldR
 split
 ·exact rf
 ·have e:=(zkS (turn v (fnH v.h p.D (adV v g) 1).2.2) p (fnH v.h p.D (adV v g) 1).1 (zaZ g.o)).1
  simp only
  split
  ·show HR (putH (ldM (turn v (fnH v.h p.D (adV v g) 1).2.2) p (fnH v.h p.D (adV v g) 1).1 (zaZ g.o)).1.h g.r _)
   rw [e];exact zds rf _ _ hg
  ·show HR (tkH (ldM (turn v (fnH v.h p.D (adV v g) 1).2.2) p (fnH v.h p.D (adV v g) 1).1 (zaZ g.o)).1.h 5 (adV v g))
   rw [e];exact zd1 hf rf _ _
theorem zvG {v:Mc} {p:Pt} (k:VOk v p) (R:HR v.h) (g:Wk):HR (stR v p g).2.1.h:=by
 have hf:=zc8 k.h p.D (adV v g) 2 (zaX _);have rf:=ze6 k.h R p.D (adV v g) 2;unfold stR
 split
 ·exact rf
 ·have e:=(zg8 (v:=turn v (fnH v.h p.D (adV v g) 2).2.2) (p:=p) (fnH v.h p.D (adV v g) 2).1 (zaZ g.o) (xV (fnH v.h p.D (adV v g) 2).2.2 g.b)).1
  simp only
  split
  ·show HR (relH (stM (turn v (fnH v.h p.D (adV v g) 2).2.2) p (fnH v.h p.D (adV v g) 2).1 (zaZ g.o) (xV (fnH v.h p.D (adV v g) 2).2.2 g.b)).1.h)
   rw [e];exact zgO rf
  ·show HR (tkH (stM (turn v (fnH v.h p.D (adV v g) 2).2.2) p (fnH v.h p.D (adV v g) 2).1 (zaZ g.o) (xV (fnH v.h p.D (adV v g) 2).2.2 g.b)).1.h 7 (adV v g))
   rw [e];exact zd1 hf rf _ _
theorem zqB {v:Mc} {p:Pt} (R:HR v.h) (g:Wk) (hg:0≤g.r) (pl s:Int):HR (cdR v p g pl s).1.h:=by
 unfold cdR
 split
 ·have e:=(zg8 (v:=v) (p:=p) pl s (xV v.h g.b)).1
  show HR (putH (relH (stM v p pl s (xV v.h g.b)).1.h) g.r 0)
  rw [e];exact zds (zgO R) _ _ hg
 ·exact zds (zgO R) _ _ hg
theorem zrh {v:Mc} {p:Pt} (R:HR v.h) (g:Wk) (hg:0≤g.r) (pl s was:Int):HR (chR v p g pl s was).1.h:=by
 unfold chR
 split
 ·exact zds (zpa R pl) _ _ hg
 ·split
  ·exact zqB R g hg pl s
  ·have e:=(zg8 (v:=v) (p:=p) pl s (Al.amV g.o was (xV v.h g.b))).1
   show HR (putH (relH (stM v p pl s (Al.amV g.o was (xV v.h g.b))).1.h) g.r was)
   rw [e];exact zds (zgO R) _ _ hg
theorem zvw {v:Mc} {p:Pt} (k:VOk v p) (R:HR v.h) (g:Wk) (hg:0≤g.r) (s:Int):HR (atR v p g s).2.1.h:=by
 have ha:=k.h.x g.a;have hf:=zc8 k.h p.D (xV v.h g.a) (kdV g.o) ha;have rf:=ze6 k.h R p.D (xV v.h g.a) (kdV g.o);unfold atR
 split
 ·exact zd1 k.h R _ _
 split
 ·exact rf
 split
 ·exact zd1 hf rf _ _
 ·exact zrh (v:=turn v _) rf g hg _ _ _
theorem zm7 {v:Mc} {p:Pt} (k:VOk v p) (R:HR v.h) (g:Wk) (hg:0≤g.r) (hnp:g.np % 2=0) (hi:(g.o=3∨g.o∈([5,6,7,8,9,10]:List Int))→g.i % 2=0):HR (doR v p g).2.1.h∧(doR v p g).2.2.2.np % 2=0:=by
 have hu:(g.o=3∨g.o∈([5,6,7,8,9,10]:List Int))→pcV v.h (uImm g.i) % 2=0:=fun h=>by
  have:=hi h;refine zil R _ ?_
  unfold uImm;rw [IntKind.wrap_u64];omega
 have hmr:HR (if (zc6 v.h).2=true then (zc6 v.h).1 else noH v.h g):=by
  unfold zc6
  by_cases h3:v.h.mode=3
  ·rw [if_pos h3,if_pos rfl];exact zAD k.h R
  ·rw [if_neg h3,if_neg (by simp)];exact zfj k.h R g
 have hsr:HR (if (zc0 v.h).2=true then (zc0 v.h).1 else noH v.h g):=by
  unfold zc0
  by_cases h3:v.h.mode<1
  ·rw [if_pos h3,if_neg (by simp)];exact zfj k.h R g
  ·rw [if_neg h3,if_pos rfl];exact zph k.h R
 show (fun R:Bool × Mc × Pt × Wk=>HR R.2.1.h∧R.2.2.2.np % 2=0) (doR v p g)
 unfold doR;refine zaf (fun R:Bool × Mc × Pt × Wk=>HR R.2.1.h∧R.2.2.2.np % 2=0) _ _ _ ⟨zds R _ _ hg,hnp⟩ ?_
 refine zaf (fun R:Bool × Mc × Pt × Wk=>HR R.2.1.h∧R.2.2.2.np % 2=0) _ _ _ ⟨zds R _ _ hg,hnp⟩ ?_
 by_cases h3:g.o=3
 ·rw [if_pos h3]
  exact ⟨zds R _ _ hg,hu (.inl h3)⟩
 rw [if_neg h3];refine zaf (fun R:Bool × Mc × Pt × Wk=>HR R.2.1.h∧R.2.2.2.np % 2=0) _ _ _ ⟨zds R _ _ hg,zxx _⟩ ?_
 by_cases h5:g.o∈([5,6,7,8,9,10]:List Int)
 ·rw [if_pos h5]
  refine ⟨R,?_⟩
  show (brG v g).np % 2=0
  unfold brG
  split
  ·exact hu (.inr h5)
  ·exact hnp
 rw [if_neg h5];refine zaf (fun R:Bool × Mc × Pt × Wk=>HR R.2.1.h∧R.2.2.2.np % 2=0) _ _ _ ⟨zmf k R g hg,hnp⟩ ?_
 refine zaf (fun R:Bool × Mc × Pt × Wk=>HR R.2.1.h∧R.2.2.2.np % 2=0) _ _ _ ⟨zvG k R g,hnp⟩ ?_
 refine zaf (fun R:Bool × Mc × Pt × Wk=>HR R.2.1.h∧R.2.2.2.np % 2=0) _ _ _ ⟨R,hnp⟩ ?_
 refine zaf (fun R:Bool × Mc × Pt × Wk=>HR R.2.1.h∧R.2.2.2.np % 2=0) _ _ _ (zaf (fun R:Bool × Mc × Pt × Wk=>HR R.2.1.h∧R.2.2.2.np % 2=0) _ _ _ ⟨zfj k.h R g,hnp⟩ ⟨R,hnp⟩) ?_
 refine zaf (fun R:Bool × Mc × Pt × Wk=>HR R.2.1.h∧R.2.2.2.np % 2=0) _ _ _ ⟨znU k.h R g hg,hnp⟩ ?_
 refine zaf (fun R:Bool × Mc × Pt × Wk=>HR R.2.1.h∧R.2.2.2.np % 2=0) _ _ _ ⟨zd1 k.h R (IntKind.i64.wrap (8+v.h.mode)) 0,hnp⟩ ?_
 refine zaf (fun R:Bool × Mc × Pt × Wk=>HR R.2.1.h∧R.2.2.2.np % 2=0) _ _ _ ⟨zd1 k.h R 3 v.h.pc,hnp⟩ ?_
 refine zaf (fun R:Bool × Mc × Pt × Wk=>HR R.2.1.h∧R.2.2.2.np % 2=0) _ _ _ ⟨hmr,hnp⟩ ?_
 refine zaf (fun R:Bool × Mc × Pt × Wk=>HR R.2.1.h∧R.2.2.2.np % 2=0) _ _ _ ⟨hsr,hnp⟩ ?_
 refine zaf (fun R:Bool × Mc × Pt × Wk=>HR R.2.1.h∧R.2.2.2.np % 2=0) _ _ _ ⟨zvw k R g hg _,hnp⟩ ?_
 exact ⟨zds R _ _ hg,hnp⟩
theorem zAT {v:Mc} {p:Pt} (k:VOk v p) (R:HR v.h) (g:Wk):HR (spR v p g).1.h:=by
 have h1:=zgJ k.h p g;have h2:=zgU h1 (ftR v p g).2.2;have r1:=zw7 k.h R p g;have r2:=ztk h1 r1 (ftR v p g).2.2;unfold spR
 split
 ·exact zkZ k.h R _ _ _
 split
 ·exact r1
 rename_i hft
 split
 ·exact r2
 rename_i hdc
 have hft':(ftR v p g).1=true:=by revert hft;cases (ftR v p g).1 <;> simp
 have hdc':(dcR (ftR v p g).2.1 (ftR v p g).2.2).1=true:=by revert hdc;cases (dcR (ftR v p g).2.1 (ftR v p g).2.2).1 <;> simp
 have hnp:(dcR (ftR v p g).2.1 (ftR v p g).2.2).2.2.np % 2=0:=by
  have h:=zoA R p g hft';unfold dcR
  split <;> exact h
 have hev:((dcR (ftR v p g).2.1 (ftR v p g).2.2).2.2.o=3∨(dcR (ftR v p g).2.1 (ftR v p g).2.2).2.2.o∈([5,6,7,8,9,10]:List Int))→(dcR (ftR v p g).2.1 (ftR v p g).2.2).2.2.i % 2=0:=by
  have h:=zqk (ftR v p g).2.2.wd.toNat;unfold dcR at hdc' ⊢
  split
  ·rename_i hz
   rw [if_pos hz] at hdc';cases hdc'
  ·exact h
 obtain ⟨r3,n3⟩:=zm7 (k.turn h2) r2 (dcR (ftR v p g).2.1 (ftR v p g).2.2).2.2 (zjK _ _ hdc').1.1 hnp hev;simp only
 split
 ·exact r3
 ·exact ⟨r3.x0,n3,r3.mode,r3.c,r3.res⟩
theorem zps {v:Mc} {p:Pt} (k:VOk v p) (R:HR v.h):HR (hsM v p).1.h:=zAT k R (wk0 (zcJ v p))
end Go.Proofs.YtplcfdnfeclpmaaGreatDoor
