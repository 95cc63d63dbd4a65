/- MachineOn, part 30. -/
import Derived.Test.YtplcfdnfeclpmaaGreatDoorV23
import Derived.Test.YtplcfdnfeclpmaaGreatDoorV29
set_option maxHeartbeats 4000000
set_option maxRecDepth 100000
open Go.Lib (hid)
open Go Go.RowKit Go.Deep Go.Joins Go.Proofs.Tryz
namespace Go.Proofs.YtplcfdnfeclpmaaGreatDoor
theorem zgX:(Tryz.prog.info? 65).map (·.size)=some 3:=by kernel_rfl
theorem Mem.newC {W w:World} {l:List (Nat × Array Value × Nat)} {r:List (Nat × Value × Nat × List Value)} (h:Mem W w l r):Mem W (w.alloc rcO) ((w.heap.size,rcZ,65) :: l) r:=h.new _ 65 (by decide)
theorem zuU {w:World} {g:Nat} {old:Array Value} (r:Rec) (h:w.heap[g]?=some (.cells old 65 (0,0))) (ho:old.size=3):(Instr.storeAt 65 (.pointer (some ⟨g,0,none⟩)) (rcV r)).run Tryz.prog w=.ok () (w.setRow g (rcC r)):=by
 simp only [Instr.storeAt,Instr.sureAddr,Sem.run_bind,Sem.run_pure,Result.andThen];exact run_storeVar_row w g 65 65 old (rcC r) h (by rw [zgX];rfl) (by rw [ho];rfl) (by simp [Value.oneCell'])
theorem zkG {w:World} {g:Nat} {r:Rec} (h:w.heap[g]?=some (.cells (rcC r) 65 (0,0))):(Instr.loadAt 65 (.pointer (some ⟨g,0,none⟩))).run Tryz.prog w=.ok (rcV r) w:=by
 simp only [Instr.loadAt,Instr.sureAddr,Sem.run_bind,Sem.run_pure,Result.andThen];exact run_loadVar_row w g 65 65 (rcC r) (0,0) _ h underlying65 rfl (by rw [zgX];rfl)
theorem zwL {w:World} {g:Nat} {r:Rec} (h:w.heap[g]?=some (.cells (rcC r) 65 (0,0))) (d:Int):(Instr.storeAt 3 (.pointer (some ⟨g,1,none⟩)) (.int .i64 d)).run Tryz.prog w=.ok () (w.setRow g (rcC (r.1,d,r.2.2))) :=
 zbQ w g 1 3 65 (rcC r) _ h (by kernel_rfl) (by show 1<3;omega) rfl rfl
theorem ziS (w:World) (ty:TypeId) {B:Nat} {q:Option Addr} {c:Nat} {O:List Rec} {r:Rec} {g:Nat} (ho:w.ownsRow B 65 3 (.slice q O.length c) O.length (oC O)) (hr:w.heap[g]?=some (.cells (rcC r) 65 (0,0))) (hO:(O.length+1)*32≤140737488355328) :
  ∃ q' c' w',(Builtin.append_ #[40,40] ty #[.slice q O.length O.length,.slice (some ⟨g,0,none⟩) 1 1]).run Tryz.prog w=.ok (.slice q' (O.length+1) c') w'∧w'.ownsRow w.heap.size 65 3 (.slice q' (O.length+1) c') (O.length+1) (oC (O ++ [r]))∧Below w.heap.size w w':=by
 obtain ⟨i,hi,hz,hs,hby⟩:=zfZ;have hl1:([.int .u64 r.1,.int .i64 r.2.1,.string r.2.2]:List Value).length=1*i.size:=by rw [hs];rfl
 have hnews:∀ j v,([.int .u64 r.1,.int .i64 r.2.1,.string r.2.2]:List Value)[j]?=some v→w.cell? ((⟨g,0,none⟩:Addr).add j)=some v:=fun j v hv=>by
  rw [zdx,Nat.zero_add,cell_of_row w g j _ 65 (0,0) hr,← hv,← List.getElem?_toArray]
 have e:oC (O ++ [r])=oC O ++ [.int .u64 r.1,.int .i64 r.2.1,.string r.2.2]:=by rw [zif];rfl
 have el:(O ++ [r]).length=O.length+1:=by simp
 have hm:O.length+1≤maxLen:=by unfold maxLen;omega
 have hlen:(oC (O ++ [r])).length=(O.length+1)*3:=by rw [zdP,el]
 have own:∀ old,old<O.length+1→(w.drew.alloc (.cells ((oC O).toArray ++ [.int .u64 r.1,.int .i64 r.2.1,.string r.2.2].toArray ++ Builtin.zeroCells (Value.agg rcZ).cells (grownCap w (O.length+1) old 65 - (O.length+1))) 65)).ownsRow w.heap.size 65 3 (.slice (some ⟨w.heap.size,0,none⟩) (O.length+1) (grownCap w (O.length+1) old 65)) (O.length+1) (oC (O ++ [r])):=by
  intro old _;have hge:=grownCap_ge w (O.length+1) old 65;have hcm:grownCap w (O.length+1) old 65≤maxLen:=grownCap_le_maxLen w (O.length+1) old 65 hm;refine ⟨hlen,.inr ⟨w.heap.size,_,_,rfl,Nat.le_refl _,zdI w.drew _,hge,hcm,?_,?_⟩⟩
  ·simp only [Array.size_append,List.size_toArray,size_zeroCells,zdP]
   show O.length*3+3+(grownCap w (O.length+1) old 65 - (O.length+1))*3=_
   omega
  ·simp only [Array.toList_append,List.append_assoc]
   rw [← List.append_assoc,← hlen,e];exact List.take_left
 rcases ho.2 with ⟨e1,e2⟩ | ⟨g2,cap,cur,e1,_,hg2,_⟩
 ·simp only [Value.slice.injEq] at e1
  obtain ⟨rfl,_,rfl⟩:=e1;obtain rfl:O=[]:=List.eq_nil_of_length_eq_zero e2;have hrun:=run_append_nil (P:=Tryz.prog) w 40 ty 65 i (.agg rcZ) underlying40 hi hz ⟨g,0,none⟩ 1 1 _ hl1 hnews (by omega) (by omega) (by rw [hby];omega);have h:=own 0 (by simp);refine ⟨_,_,_,hrun,?_,?_⟩
  ·simpa [oC] using h
  ·exact (Below.refl _ _).drew.alloc (Nat.le_refl _) _
 ·simp only [Value.slice.injEq,true_and] at e1
  obtain ⟨rfl,rfl⟩:=e1;have holds:∀ j v,(oC O)[j]?=some v→w.cell? ((⟨g2,0,none⟩:Addr).add j)=some v:=ho.cells (g:=g2) rfl
  have hrun:=run_append_grow (P:=Tryz.prog) w 40 ty 65 i (.agg rcZ) underlying40 hi hz ⟨g2,0,none⟩ O.length O.length (oC O) (by rw [hs,zdP]) holds ⟨g,0,none⟩ 1 1 _ hl1 hnews (by omega) (by omega) (by
   rw [hby];exact growslice_fits_succ (by omega) (by omega))
  exact ⟨_,_,_,hrun,own O.length (by omega),(Below.refl _ _).drew.alloc (Nat.le_refl _) _⟩
def acM (m:Mc) (p:Pt) (k:Int) (es:ByteArray):Mc × Pt :=
 if (actF m.b p.F m.E p.D p.M k es).ok=true then
  ({ m with b:=(actF m.b p.F m.E p.D p.M k es).b,nxt:=IntKind.u64.wrap (m.nxt+1) },⟨(actF m.b p.F m.E p.D p.M k es).F,(actF m.b p.F m.E p.D p.M k es).D,(actF m.b p.F m.E p.D p.M k es).M,p.O ++ [(m.nxt,if k=1 then 1 else 2,(actF m.b p.F m.E p.D p.M k es).s)]⟩)
 else ({ m with b:=(actF m.b p.F m.E p.D p.M k es).b },⟨(actF m.b p.F m.E p.D p.M k es).F,(actF m.b p.F m.E p.D p.M k es).D,(actF m.b p.F m.E p.D p.M k es).M,p.O⟩)
theorem zfA {f:FuncId} {args:Array Value} {w:World} {E:Int} {r:Acts} (h:Calls Tryz.prog f args w (zkd w E r)):Calls Tryz.prog f args w fun e w'=>∃ u,e=.returned u∧(∃ p c p2 c2 q2 d2,u=.tuple #[bdV (r.b.at p r.F.length c),.agg (ramC (.slice p2 r.D.length c2) (.slice q2 r.M.length d2) E),.string r.s,.bool r.ok]∧FT w' w.heap.size (.slice p r.F.length c) r.F∧OwnD w' w.heap.size (.slice p2 r.D.length c2) r.D∧OwnM w' w.heap.size (.slice q2 r.M.length d2) r.M∧Below w.heap.size w w') :=
 h.mono fun _ _ ⟨p,c,dv,mv,he,hf,hd,hm,hb⟩=>by
  obtain ⟨p2,c2,rfl⟩:=zch hd;obtain ⟨q2,d2,rfl⟩:=zch hm;exact ⟨_,he,p,c,p2,c2,q2,d2,rfl,hf,hd,hm,hb⟩
theorem zo7:Array.range 3=#[0,1,2]:=by decide
theorem ziR (w:World) (r:Int × Int × ByteArray):(Instr.buildSlice 40 1 #[(0,.agg #[.int .u64 r.1,.int .i64 r.2.1,.string r.2.2])]).run Tryz.prog w=.ok (.slice (some ⟨w.heap.size,0,none⟩) 1 1) (w.alloc (.cells #[.int .u64 r.1,.int .i64 r.2.1,.string r.2.2] 65)):=by
 obtain ⟨i,h1,h2,h3,h4⟩:=info_parts (show (Tryz.prog.info? 65).map (fun i=>(i.zero,i.size,i.bytes))=some (some (.agg #[.int .u64 0,.int .i64 0,.string ⟨#[]⟩]),3,32) by kernel_rfl)
 simp [Instr.buildSlice,run_underlying underlying40,sizeOf,typeInfo,zeroValue,h1,h2,h3,Sem.run_bind,Result.andThen,newRow,Instr.fill,Value.cells,zo7]
theorem zjJ (w:World) (q:Option Addr) (n c:Nat) (hq:q=none∨∃ g,q=some ⟨g,0,none⟩) (hn:n≤c):(Instr.sliceAt 40 (.slice q n c) none (some (.int .i64 n)) (some (.int .i64 n))).run Tryz.prog w=.ok (.slice q n n) w:=by
 have e:¬n=0→Option.map (fun x=>x.add 0) q=q:=fun _=>by
  rcases hq with rfl | ⟨g,rfl⟩
  ·rfl
  ·show some ((⟨g,0,none⟩:Addr).add 0)=_
   rw [zdx]
 have hs:(sizeOf 65).run Tryz.prog w=.ok 3 w:=by
  have k:=(show (Tryz.prog.info? 65).map (·.size)=some 3 by kernel_rfl);cases hq:Tryz.prog.info? 65 with
  | none=>rw [hq] at k;cases k
  | some i=>rw [hq] at k;simp at k;simp [sizeOf,typeInfo,hq,k]
 simp [Instr.sliceAt,Instr.slice,Instr.sliceBounds,Instr.sliceBound,run_underlying underlying40,asIntOf,hs,hn,Sem.run_bind,Result.andThen]
 exact e
theorem zk3 {P:Program} {ρ:Operand→Value} {o:Oper} {t:TypeId} {x h l:Operand} {v u u' r:Value} {w:World} (ho:o.op=.slice t x none (some h) (some l)) (hx:ρ x=v) (hh:ρ h=u) (hl:ρ l=u') (hrun:(Instr.sliceAt t v none (some u) (some u')).run P w=.ok r w):(execOp ρ o).run P w=.ok (.value r) w:=by
 simp [execOp,ho,hx,hh,hl,hrun,Result.andThen]
theorem zki {P:Program} {ρ:Operand→Value} {o:Oper} {t:TypeId} {x:Operand} {v r:Value} {w w':World} (ho:o.op=.buildSlice t 1 #[(0,x)]) (hx:ρ x=v) (hrun:(Instr.buildSlice t 1 #[(0,v)]).run P w=.ok r w'):(execOp ρ o).run P w=.ok (.value r) w':=by
 simp [execOp,ho,hx,hrun,Result.andThen]
theorem zhG {W w:World} {B z:Nat} {m r:Mc} {p:Pt} {q:Option Addr} {c:Nat} {dv mv ov:Value} {F:List ByteArray} {D:List UInt8} {M:List Int} {O:List Rec} (K:MS W B z m p) (hB:B≤W.heap.size) (hb:MBox w z { r with b:=r.b.at q F.length c,dv:=dv,mv:=mv,ov:=ov }) (f:FT w W.heap.size (.slice q F.length c) F) (d:OwnD w W.heap.size dv D) (mm:OwnM w W.heap.size mv M) (o:w.ownsRow B 65 3 ov O.length (oC O)) (ho:∀ g,ov.ownBlock=some g→Ow m z g∨W.heap.size≤g) (t:zau W w (fun k=>k=z)):Did W w B z m r ⟨F,D,M,O⟩:=by
 refine ⟨q,c,dv,mv,ov,⟨hb,K.big,f.base hB,zdD d hB,zdD mm hB,o⟩,t.mono fun k _ hk=>.inl hk,fun k hk=>?_⟩
 rcases hk with hk | hk | hk | hk | hk
 ·exact .inl (.inl hk)
 ·exact .inr (zcy d hk.symm).1
 ·exact .inr (zcy mm hk.symm).1
 ·exact ho k hk.symm
 ·cases q with
  | none=>cases hk
  | some a =>
   obtain rfl:k=a.block:=Option.some.inj hk;exact .inr (f.blk a _ _ rfl).1
theorem znO (z B:Nat) (m:Mc) (p:Pt) (k:Int) (es:ByteArray) (W:World) (K:MS W B z m p) (hB:B≤W.heap.size) (ok:POk m p) (hO:(p.O.length+1)*32≤140737488355328):Calls Tryz.prog 147 #[.pointer (some ⟨z,0,none⟩),effV k es] W fun e W' =>
  e=.returned (.tuple #[])∧Did W W' B z m (acM m p k es).1 (acM m p k es).2:=by
 obtain ⟨p1,c1,hdv⟩:=zch K.d;obtain ⟨q1,d1,hmv⟩:=zch K.mm;obtain ⟨qo,co,hov⟩:=zch K.o;have C0:=hid (fun W' (h:Below W.heap.size W W')=>zmb m.b p.F p1 q1 c1 d1 m.E k es p.D p.M W' ((K.next h).fr.rd) ok.fl ok.fz (hdv ▸ (K.next h).d.at) (hmv ▸ (K.next h).mm.at) ok.dl ok.ml ok.bd);have HK:=hid K;have HB:=hid (And.intro hB hO);have HV:=hid (And.intro hdv (And.intro hmv hov));unfold acM;generalize hR:actF m.b p.F m.E p.D p.M k es=R at C0 ⊢;clear hR K hB ok hO hdv hmv hov;obtain ⟨b',F',D',M',s',g⟩:=R;dsimp only at C0 ⊢;go_enter func147,ntmps147;have X:=hid ((Mem.start W).new #[.int .i64 k,.string es] 162 (by decide));go_upto_region 1 with (fail);generalize hwe:W.alloc (.cells #[.int .i64 k,.string es] 162)=we at X ⊢;clear hwe
 go_cut [4,5,6,7] (fun s4 s5 s6 s7 wx=>∃ x y q c p2 c2 q2 d2,s4=.pointer (some ⟨x,0,none⟩)∧s5=.pointer (some ⟨y,0,none⟩)∧s6=.string s'∧s7=.bool g∧Hid (Mem W wx [(y,ramC (.slice p2 D'.length c2) (.slice q2 M'.length d2) m.E,39),(x,bdC (b'.at q F'.length c),35),(W.heap.size,#[.int .i64 k,.string es],162)] [(22,.slice q2 M'.length d2,M'.length,mC M'),(5,.slice p2 D'.length c2,D'.length,dC D')])∧Hid (FT wx W.heap.size (.slice q F'.length c) F'))
 case first =>
  refine dr (fun w=>MBox w z m∧w.heap[W.heap.size]?=some (.cells #[.int .i64 k,.string es] 162 (0,0))) fun wn hzz=>?_
  have X:=hid (X.out.next hzz);clear hzz;have hS:=And.intro (HK.out.box.next X.out.below) X.out.g0;refine tk 0 hS ?_
  refine tk 1 hS ?_
  refine tk 2 hS ?_
  refine tl 3 hS (fun w hw=>MBox.load_b hw.1) ?_
  refine tk 4 hS ?_
  refine tk 5 hS ?_
  refine tk 6 hS ?_
  refine tl 7 hS (fun w hw=>MBox.load_ram hw.1) ?_
  refine tl 8 hS (fun w hw=>EBox.load hw.2) ?_
  rw [HV.out.1,HV.out.2.1];refine zuR 9 15 16 (cc 9 (zfA (C0.out _ X.out.below)) ?_ (al 15 (And.intro (HK.out.box.next X.out.newZ.below) X.out.newZ.g1) ?_ (al 16 (And.intro (HK.out.box.next X.out.newR.below) X.out.newR.g1) ?_ AllReadyH.nil)))
  rintro v' wn ⟨q,c,p2,c2,q2,d2,rfl,hf,hd,hm,kk⟩
  have XB:=X.out.below.size;have X:=hid (((X.out.next kk).addrow hd XB (by decide)).addrow hm XB (by decide));have Y:=hid (hf.base XB);refine ⟨And.intro (HK.out.box.next X.out.below) X.out.g0,fun hS=>?_⟩
  clear kk hf hd hm XB;simp only [puts];refine tk 10 hS ?_
  refine tk 11 hS ?_
  refine tk 12 hS ?_
  refine tk 13 hS ?_
  refine tk 14 hS ?_
  refine two 15 16 (al 15 (And.intro (HK.out.box.next X.out.newZ.below) X.out.newZ.g1) ?_ (al 16 (And.intro (HK.out.box.next X.out.newR.below) X.out.newR.g1) ?_ AllReadyH.nil))
  have X:=hid X.out.newZ;have Y:=hid (Y.out.below (zag wn zaj));generalize wn.heap.size=x at X ⊢;generalize wn.alloc zaj=wn at X Y ⊢;have hS:=And.intro (HK.out.box.next X.out.below) X.out.g1;refine ho 16 (And.intro (HK.out.box.next X.out.newR.below) X.out.newR.g2) ?_
  have X:=hid X.out.newR;have Y:=hid (Y.out.below (zag wn zb3));generalize wn.heap.size=y at X ⊢;generalize wn.alloc zb3=wn at X Y ⊢;have hS:=And.intro (HK.out.box.next X.out.below) X.out.g2
  rotate_left
  have X:=hid X.out.newR;have Y:=hid (Y.out.below (zag wn zb3));generalize wn.heap.size=y at X ⊢;generalize wn.alloc zb3=wn at X Y ⊢;have hS:=And.intro (HK.out.box.next X.out.below) X.out.g1;refine ho 15 (And.intro (HK.out.box.next X.out.newZ.below) X.out.newZ.g2) ?_
  have X:=hid X.out.newZ;have Y:=hid (Y.out.below (zag wn zaj));generalize wn.heap.size=x at X ⊢;generalize wn.alloc zaj=wn at X Y ⊢;have X:=hid X.out.swap;have hS:=And.intro (HK.out.box.next X.out.below) X.out.g2
  rotate_left
  have X:=hid X.out.newZ;generalize wn.heap.size=x at X ⊢;generalize wn.alloc zaj=wn at X ⊢;have hS:=And.intro (HK.out.box.next X.out.below) X.out.g1;refine two 9 16 (cc 9 (zfA (C0.out _ X.out.below)) ?_ (al 16 (And.intro (HK.out.box.next X.out.newR.below) X.out.newR.g2) ?_ AllReadyH.nil))
  rintro v' wn ⟨q,c,p2,c2,q2,d2,rfl,hf,hd,hm,kk⟩
  have XB:=X.out.below.size;have X:=hid (((X.out.next kk).addrow hd XB (by decide)).addrow hm XB (by decide));have Y:=hid (hf.base XB);refine ⟨And.intro (HK.out.box.next X.out.below) X.out.g1,fun hS=>?_⟩
  clear kk hf hd hm XB;simp only [puts];refine tk 10 hS ?_
  refine tk 11 hS ?_
  refine tk 12 hS ?_
  refine tk 13 hS ?_
  refine tk 14 hS ?_
  refine ho 16 (And.intro (HK.out.box.next X.out.newR.below) X.out.newR.g2) ?_
  have X:=hid X.out.newR;have Y:=hid (Y.out.below (zag wn zb3));generalize wn.heap.size=y at X ⊢;generalize wn.alloc zb3=wn at X Y ⊢;have hS:=And.intro (HK.out.box.next X.out.below) X.out.g2
  rotate_left
  have X:=hid X.out.newR;generalize wn.heap.size=y at X ⊢;generalize wn.alloc zb3=wn at X ⊢;have hS:=And.intro (HK.out.box.next X.out.below) X.out.g2;refine hc 9 (zfA (C0.out _ X.out.below)) ?_
  rintro v' wn ⟨q,c,p2,c2,q2,d2,rfl,hf,hd,hm,kk⟩
  have XB:=X.out.below.size;have X:=hid (((X.out.next kk).addrow hd XB (by decide)).addrow hm XB (by decide));have Y:=hid (hf.base XB);refine ⟨And.intro (HK.out.box.next X.out.below) X.out.g2,fun hS=>?_⟩
  clear kk hf hd hm XB;simp only [puts];refine tk 10 hS ?_
  refine tk 11 hS ?_
  refine tk 12 hS ?_
  refine tk 13 hS ?_
  refine tk 14 hS ?_
  rotate_left
  have X:=hid X.out.newR;generalize wn.heap.size=y at X ⊢;generalize wn.alloc zb3=wn at X ⊢;have hS:=And.intro (HK.out.box.next X.out.below) X.out.g1;refine two 9 15 (cc 9 (zfA (C0.out _ X.out.below)) ?_ (al 15 (And.intro (HK.out.box.next X.out.newZ.below) X.out.newZ.g2) ?_ AllReadyH.nil))
  rintro v' wn ⟨q,c,p2,c2,q2,d2,rfl,hf,hd,hm,kk⟩
  have XB:=X.out.below.size;have X:=hid (((X.out.next kk).addrow hd XB (by decide)).addrow hm XB (by decide));have Y:=hid (hf.base XB);refine ⟨And.intro (HK.out.box.next X.out.below) X.out.g1,fun hS=>?_⟩
  clear kk hf hd hm XB;simp only [puts];refine tk 10 hS ?_
  refine tk 11 hS ?_
  refine tk 12 hS ?_
  refine tk 13 hS ?_
  refine tk 14 hS ?_
  refine ho 15 (And.intro (HK.out.box.next X.out.newZ.below) X.out.newZ.g2) ?_
  have X:=hid X.out.newZ;have Y:=hid (Y.out.below (zag wn zaj));generalize wn.heap.size=x at X ⊢;generalize wn.alloc zaj=wn at X Y ⊢;have X:=hid X.out.swap;have hS:=And.intro (HK.out.box.next X.out.below) X.out.g2
  rotate_left
  have X:=hid X.out.newZ;generalize wn.heap.size=x at X ⊢;generalize wn.alloc zaj=wn at X ⊢;have X:=hid X.out.swap;have hS:=And.intro (HK.out.box.next X.out.below) X.out.g2;refine hc 9 (zfA (C0.out _ X.out.below)) ?_
  rintro v' wn ⟨q,c,p2,c2,q2,d2,rfl,hf,hd,hm,kk⟩
  have XB:=X.out.below.size;have X:=hid (((X.out.next kk).addrow hd XB (by decide)).addrow hm XB (by decide));have Y:=hid (hf.base XB);refine ⟨And.intro (HK.out.box.next X.out.below) X.out.g2,fun hS=>?_⟩
  clear kk hf hd hm XB;simp only [puts];refine tk 10 hS ?_
  refine tk 11 hS ?_
  refine tk 12 hS ?_
  refine tk 13 hS ?_
  refine tk 14 hS ?_
  rotate_left
  all_goals
   refine hs 17 (zaY _ _ _ _ X.out.b1 (zaN _)) fun wy hw=>?_
   have Y:=hid (Y.out.over X.out.b1 (by decide) (bdC (b'.at q F'.length c)));rw [← hw] at Y;have X:=hid (X.out.p1 hw);refine ⟨And.intro (HK.out.box.next X.out.below) X.out.g2,fun hS=>?_⟩
   clear hw;refine hs 18 (zcu X.out.g0 rfl) fun wv hw=>?_
   have Y:=hid (Y.out.over X.out.g0 (by decide) (ramC (.slice p2 D'.length c2) (.slice q2 M'.length d2) m.E));rw [← hw] at Y;have X:=hid (X.out.p0 hw);refine ⟨And.intro (HK.out.box.next X.out.below) X.out.g2,fun hS=>?_⟩
   clear hw;refine tk 19 hS ?_
   refine tk 20 hS ?_
   refine wpAnyH_done (by kernel_rfl) ?_ _
   go_wp2_with fail
   go_meet
   exact ⟨x,y,q,c,p2,c2,q2,d2,rfl,rfl,rfl,rfl,X,Y⟩
 case rest =>
  obtain ⟨x,y,q,c,p2,c2,q2,d2,rfl,rfl,rfl,rfl,X,Y⟩:=hcut;have zx:x≠z:=by have h1:=X.out.big (x,bdC (b'.at q F'.length c),35) (by simp);have h2:=HK.out.box.lt;have h3:W.heap.size≤x:=h1;omega
  have zy:y≠z:=by have h1:=X.out.big (y,ramC (.slice p2 D'.length c2) (.slice q2 M'.length d2) m.E,39) (by simp);have h2:=HK.out.box.lt;have h3:W.heap.size≤y:=h1;omega
  have ze:W.heap.size≠z:=by have h2:=HK.out.box.lt;omega
  go_upto_region 2 with (fail)
  go_cut [8] (fun _ wx=>Hid (MBox wx z { m with b:=b'.at q F'.length c,dv:=.slice p2 D'.length c2,mv:=.slice q2 M'.length d2 })∧Hid (wx.heap[W.heap.size]?=some (.cells #[.int .i64 k,.string es] 162 (0,0)))∧Hid (FT wx W.heap.size (.slice q F'.length c) F')∧Hid (OwnD wx W.heap.size (.slice p2 D'.length c2) D')∧Hid (OwnM wx W.heap.size (.slice q2 M'.length d2) M')∧Hid (wx.ownsRow B 65 3 (.slice qo p.O.length co) p.O.length (oC p.O))∧Hid (zau W wx (fun k=>k=z)))
  case first =>
   refine dr (fun w=>Box w x (b'.at q F'.length c)∧w.heap[y]?=some (.cells (ramC (.slice p2 D'.length c2) (.slice q2 M'.length d2) m.E) 39 (0,0))) fun wz hzz=>?_
   have X:=hid (X.out.next hzz);have Y:=hid (Y.out.below hzz);clear hzz;have hS:Box wz x (b'.at q F'.length c)∧wz.heap[y]?=some (.cells (ramC (.slice p2 D'.length c2) (.slice q2 M'.length d2) m.E) 39 (0,0)):=⟨X.out.b1,X.out.g0⟩;have K0:=HK.out.next X.out.below;refine tk 0 hS ?_
   refine tk 1 hS ?_
   refine tl 2 hS (fun w hw=>Box.load hw.1) ?_
   refine tl 3 hS (fun w hw=>zck hw.2) ?_
   refine tk 4 hS ?_
   refine tk 5 hS ?_
   refine hs 6 (MBox.store_b K0.box (b'.at q F'.length c)) fun wy hw=>?_
   have hS2:Box wy x (b'.at q F'.length c)∧wy.heap[y]?=some (.cells (ramC (.slice p2 D'.length c2) (.slice q2 M'.length d2) m.E) 39 (0,0)):=by subst hw;exact ⟨hS.1.over zx _,(setRow_other _ _ _ _ zy).trans hS.2⟩
   have K2:=K0.box.put hw;refine ⟨hS2,fun hS=>?_⟩
   refine tk 7 hS ?_
   refine tk 8 hS ?_
   refine hs 9 (MBox.store_ram K2 p2 q2 D'.length c2 M'.length d2 m.E) fun wv hv=>?_
   have hS3:Box wv x (b'.at q F'.length c)∧wv.heap[y]?=some (.cells (ramC (.slice p2 D'.length c2) (.slice q2 M'.length d2) m.E) 39 (0,0)):=by subst hv;exact ⟨hS2.1.over zx _,(setRow_other _ _ _ _ zy).trans hS2.2⟩
   have K3:=K2.put hv;refine ⟨hS3,fun hS=>wpAnyH_done (by kernel_rfl) ?_ _⟩
   go_wp2_with fail
   go_meet
   subst hw;have ho:=HV.out.2.2 ▸ K0.o;subst hv;refine ⟨hid K3,hid ?_,hid ?_,hid ?_,hid ?_,hid ?_,hid ?_⟩
   ·exact (setRow_other _ _ _ _ ze).trans ((setRow_other _ _ _ _ ze).trans X.out.g2)
   ·exact (Y.out.over K0.box (by decide) _).over K2 (by decide) _
   ·exact zbl (zbl X.out.r1 K0.box (by decide) _) K2 (by decide) _
   ·exact zbl (zbl X.out.r0 K0.box (by decide) _) K2 (by decide) _
   ·exact zbl (zbl ho K0.box (by decide) _) K2 (by decide) _
   ·exact ((zcr X.out.below (fun k=>k=z)).setRow (.inl rfl) _).setRow (.inl rfl) _
  case rest =>
   obtain ⟨K2,E2,F2,D2,M2,O2,T2⟩:=hcut;clear X Y zx zy ze C0;cases g
   ·go_wp2_with fail
    exact bodyPost_ret (v:=.tuple #[]) (results_none rfl _ _ _) rfl ⟨rfl,show Did W wc B z m { m with b:=b' } ⟨F',D',M',p.O⟩ from zhG HK.out HB.out.1 K2.out F2.out D2.out M2.out (HV.out.2.2 ▸ O2.out) (fun g hg=>.inl (.inr (.inr (.inr (.inl hg.symm))))) T2.out⟩
   ·have Z:=hid (Mem.start wc)
    have m_k:wc.cell? ⟨W.heap.size,0,none⟩=some (.int .i64 k):=cell_of_row _ _ 0 _ 162 (0,0) E2.out;go_upto_region 5 with (with_reducible first | refine zaa rfl rfl (MBox.load_nxt K2.out) rfl ?_ | refine zan rfl rfl (zuU (m.nxt,2,s') Z.out.newC.g0 rfl) rfl rfl ?_);have Z:=hid (Z.out.newC.p0 (cs':=rcC (m.nxt,2,s')) rfl);generalize wc.heap.size=gr at Z ⊢;generalize (wc.alloc rcO).setRow gr (rcC (m.nxt,2,s'))=wd at Z ⊢;clear m_k;have m_k:wd.cell? ⟨W.heap.size,0,none⟩=some (.int .i64 k):=cell_of_row _ _ 0 _ 162 (0,0) (EBox.next (k:=k) (s:=es) E2.out Z.out.below);obtain ⟨d,HD⟩:∃ d:Int,Hid ((if k=1 then 1 else 2)=d):=⟨_,hid rfl⟩;obtain ⟨HQ,HN⟩:=zuV O2.out;have hN:(0:Int)≤p.O.length:=by omega
    have HQ:=hid (And.intro HQ HN);clear HN;rcases Classical.em (k=1) with hk | hk
    ·subst hk
     obtain rfl:(1:Int)=d:=HD.out;go_upto_region 7 with (with_reducible refine zan rfl rfl (zwL Z.out.g0 1) rfl rfl ?_);have Z:=hid (Z.out.p0 (cs':=rcC (m.nxt,1,s')) rfl);generalize wd.setRow gr (rcC (m.nxt,1,s'))=wd at Z ⊢;clear m_k;have K3:=hid (K2.out.next Z.out.below);have G3:=hid Z.out.g0;generalize hm2:({ m with b:=b'.at q F'.length c,dv:=.slice p2 D'.length c2,mv:=.slice q2 M'.length d2 }:Mc)=m2 at K3;have L4:=hid (fun w (hw:MBox w z m2)=>(show (Instr.loadAt 40 (.pointer (some ⟨z,78,none⟩))).run Tryz.prog w=.ok (.slice qo p.O.length co) w by rw [← HV.out.2.2,show m.ov=m2.ov by rw [← hm2]];exact hw.load_o));refine drK (fun w=>MBox w z m2∧w.heap[gr]?=some (.cells (rcC (m.nxt,1,s')) 65 (0,0))) 21 fun wz hzz=>?_
     have Z:=hid (Z.out.next hzz);have hS:MBox wz z m2∧wz.heap[gr]?=some (.cells (rcC (m.nxt,1,s')) 65 (0,0)):=⟨K3.out.next hzz,Z.out.g0⟩;clear hzz;refine tkK 0 hS ?_
     refine tkK 1 hS ?_
     refine tkK 2 hS ?_
     refine tkK 3 hS ?_
     refine tlK 4 hS (fun w hw=>L4.out w hw.1) ?_
     refine tkK 5 hS ?_
     refine tkK 6 hS ?_
     refine tkK 7 hS ?_
     refine tlK 8 hS (fun w hw=>L4.out w hw.1) ?_
     refine tkK 9 hS ?_
     refine tkK 10 hS ?_
     refine tkK 11 hS ?_
     refine tkK 12 hS ?_
     refine tlK 13 hS (fun w hw=>L4.out w hw.1) ?_
     refine tkK 14 hS ?_
     refine tkK 15 hS ?_ (hy:=.inl ⟨by kernel_rfl,fun w _=>zk3 rfl rfl rfl rfl (zjJ w qo p.O.length co HQ.out.1 HQ.out.2)⟩)
     refine tlK 16 hS (fun w hw=>zkG hw.2) ?_
     have Z1:=hid (Z.out.next (zag wz (.cells (rcC (m.nxt,1,s')) 65)));have hS1:MBox (wz.alloc (.cells (rcC (m.nxt,1,s')) 65)) z m2∧(wz.alloc (.cells (rcC (m.nxt,1,s')) 65)).heap[gr]?=some (.cells (rcC (m.nxt,1,s')) 65 (0,0)):=⟨hS.1.next (zag _ _),Z1.out.g0⟩;refine hoK 17 (w':=wz.alloc (.cells (rcC (m.nxt,1,s')) 65)) (v:=.slice (some ⟨wz.heap.size,0,none⟩) 1 1) ?_ hS1 ?_
     ·exact zki rfl rfl (ziR wz (m.nxt,1,s'))
     have R1:(wz.alloc (.cells (rcC (m.nxt,1,s')) 65)).heap[wz.heap.size]?=some (.cells (rcC (m.nxt,1,s')) 65 (0,0)):=heap_alloc_last wz _;generalize wz.heap.size=gs at R1 ⊢;generalize wz.alloc (.cells (rcC (m.nxt,1,s')) 65)=wy at Z1 hS1 R1 ⊢;obtain ⟨q9,c9,w9,hrun,ho9,hb9⟩:=ziS wy 40 (B:=B) (O:=p.O) (r:=(m.nxt,1,s')) (q:=qo) (c:=co) (zcf O2.out Z1.out.below) R1 HB.out.2;have hS9:MBox w9 z m2∧w9.heap[gr]?=some (.cells (rcC (m.nxt,1,s')) 65 (0,0)):=⟨hS1.1.next hb9,(hb9.block gr (Array.getElem?_eq_some_iff.1 hS1.2).1).trans hS1.2⟩;refine hoK 18 (w':=w9) (v:=.slice q9 (p.O.length+1) c9) ?_ hS9 ?_
     ·exact zkT rfl rfl rfl hrun
     have Z9:=hid (Z1.out.next hb9);refine hoK 19 (w':=w9) (v:=.pointer (some ⟨z,0,none⟩)) ?_ hS9 ?_
     ·go_simp
     refine tkK 20 hS9 ?_
     refine hsK (MBox.store_o hS9.1 q9 (p.O.length+1) c9) fun wv hw=>?_
     refine zko ?_ (by kernel_rfl) _
     have K4:=hid (hS9.1.put hw);have HW:=hid hw;have HM:=hid hm2;clear hw hm2;go_wp2_with (with_reducible first | refine zaa rfl rfl (MBox.load_nxt K4.out) rfl ?_ | refine zan rfl rfl (MBox.store_nxt K4.out _) rfl rfl ?_);have K5:=K4.out.put (m':={ m2 with ov:=.slice q9 (p.O.length+1) c9,nxt:=IntKind.u64.wrap (m2.nxt+1) }) rfl;refine bodyPost_end (results_none rfl _ _ _) rfl ⟨rfl,?_⟩
     show Did W _ B z m { m with b:=b',nxt:=IntKind.u64.wrap (m.nxt+1) } ⟨F',D',M',p.O ++ [(m.nxt,1,s')]⟩
     have b9:=Z9.out.below;have s9:W.heap.size≤wy.heap.size:=Nat.le_trans T2.out.size Z1.out.below.size;have hw:=HW.out;have hm2:=HM.out;subst hw;subst hm2;exact zhG (ov:=.slice q9 (p.O.length+1) c9) HK.out HB.out.1 K5 (((F2.out.below b9).over hS9.1 (by decide) _).over K4.out (by decide) _) (zbl (zbl (zcf D2.out b9) hS9.1 (by decide) _) K4.out (by decide) _) (zbl (zbl (zcf M2.out b9) hS9.1 (by decide) _) K4.out (by decide) _) (by rw [List.length_append];exact zbl (zbl (zdD ho9 (Nat.le_trans HB.out.1 s9)) hS9.1 (by decide) _) K4.out (by decide) _) (fun g hg=>.inr (Nat.le_trans s9 (zcy ho9 hg).1)) (((T2.out.trans (zcr b9 _)).setRow (.inl rfl) _).setRow (.inl rfl) _)
    ·have e1:(k==1)=false:=beq_eq_false_iff_ne.2 hk
     obtain rfl:(2:Int)=d:=by have h:=HD.out;rwa [if_neg hk] at h
     have HKN:=hid hk;clear hk;go_upto_region 7 with (fail);clear m_k e1;have K3:=hid (K2.out.next Z.out.below);have G3:=hid Z.out.g0;generalize hm2:({ m with b:=b'.at q F'.length c,dv:=.slice p2 D'.length c2,mv:=.slice q2 M'.length d2 }:Mc)=m2 at K3;have L4:=hid (fun w (hw:MBox w z m2)=>(show (Instr.loadAt 40 (.pointer (some ⟨z,78,none⟩))).run Tryz.prog w=.ok (.slice qo p.O.length co) w by rw [← HV.out.2.2,show m.ov=m2.ov by rw [← hm2]];exact hw.load_o));refine drK (fun w=>MBox w z m2∧w.heap[gr]?=some (.cells (rcC (m.nxt,2,s')) 65 (0,0))) 21 fun wz hzz=>?_
     have Z:=hid (Z.out.next hzz);have hS:MBox wz z m2∧wz.heap[gr]?=some (.cells (rcC (m.nxt,2,s')) 65 (0,0)):=⟨K3.out.next hzz,Z.out.g0⟩;clear hzz;refine tkK 0 hS ?_
     refine tkK 1 hS ?_
     refine tkK 2 hS ?_
     refine tkK 3 hS ?_
     refine tlK 4 hS (fun w hw=>L4.out w hw.1) ?_
     refine tkK 5 hS ?_
     refine tkK 6 hS ?_
     refine tkK 7 hS ?_
     refine tlK 8 hS (fun w hw=>L4.out w hw.1) ?_
     refine tkK 9 hS ?_
     refine tkK 10 hS ?_
     refine tkK 11 hS ?_
     refine tkK 12 hS ?_
     refine tlK 13 hS (fun w hw=>L4.out w hw.1) ?_
     refine tkK 14 hS ?_
     refine tkK 15 hS ?_ (hy:=.inl ⟨by kernel_rfl,fun w _=>zk3 rfl rfl rfl rfl (zjJ w qo p.O.length co HQ.out.1 HQ.out.2)⟩)
     refine tlK 16 hS (fun w hw=>zkG hw.2) ?_
     have Z1:=hid (Z.out.next (zag wz (.cells (rcC (m.nxt,2,s')) 65)));have hS1:MBox (wz.alloc (.cells (rcC (m.nxt,2,s')) 65)) z m2∧(wz.alloc (.cells (rcC (m.nxt,2,s')) 65)).heap[gr]?=some (.cells (rcC (m.nxt,2,s')) 65 (0,0)):=⟨hS.1.next (zag _ _),Z1.out.g0⟩;refine hoK 17 (w':=wz.alloc (.cells (rcC (m.nxt,2,s')) 65)) (v:=.slice (some ⟨wz.heap.size,0,none⟩) 1 1) ?_ hS1 ?_
     ·exact zki rfl rfl (ziR wz (m.nxt,2,s'))
     have R1:(wz.alloc (.cells (rcC (m.nxt,2,s')) 65)).heap[wz.heap.size]?=some (.cells (rcC (m.nxt,2,s')) 65 (0,0)):=heap_alloc_last wz _;generalize wz.heap.size=gs at R1 ⊢;generalize wz.alloc (.cells (rcC (m.nxt,2,s')) 65)=wy at Z1 hS1 R1 ⊢;obtain ⟨q9,c9,w9,hrun,ho9,hb9⟩:=ziS wy 40 (B:=B) (O:=p.O) (r:=(m.nxt,2,s')) (q:=qo) (c:=co) (zcf O2.out Z1.out.below) R1 HB.out.2;have hS9:MBox w9 z m2∧w9.heap[gr]?=some (.cells (rcC (m.nxt,2,s')) 65 (0,0)):=⟨hS1.1.next hb9,(hb9.block gr (Array.getElem?_eq_some_iff.1 hS1.2).1).trans hS1.2⟩;refine hoK 18 (w':=w9) (v:=.slice q9 (p.O.length+1) c9) ?_ hS9 ?_
     ·exact zkT rfl rfl rfl hrun
     have Z9:=hid (Z1.out.next hb9);refine hoK 19 (w':=w9) (v:=.pointer (some ⟨z,0,none⟩)) ?_ hS9 ?_
     ·go_simp
     refine tkK 20 hS9 ?_
     refine hsK (MBox.store_o hS9.1 q9 (p.O.length+1) c9) fun wv hw=>?_
     refine zko ?_ (by kernel_rfl) _
     have K4:=hid (hS9.1.put hw);have HW:=hid hw;have HM:=hid hm2;clear hw hm2;go_wp2_with (with_reducible first | refine zaa rfl rfl (MBox.load_nxt K4.out) rfl ?_ | refine zan rfl rfl (MBox.store_nxt K4.out _) rfl rfl ?_);have K5:=K4.out.put (m':={ m2 with ov:=.slice q9 (p.O.length+1) c9,nxt:=IntKind.u64.wrap (m2.nxt+1) }) rfl;refine bodyPost_end (results_none rfl _ _ _) rfl ⟨rfl,?_⟩
     first | (show Did W _ B z m { m with b:=b',nxt:=IntKind.u64.wrap (m.nxt+1) } ⟨F',D',M',p.O ++ [(m.nxt,2,s')]⟩) | (rw [if_neg HKN.out];show Did W _ B z m { m with b:=b',nxt:=IntKind.u64.wrap (m.nxt+1) } ⟨F',D',M',p.O ++ [(m.nxt,2,s')]⟩)
     have b9:=Z9.out.below;have s9:W.heap.size≤wy.heap.size:=Nat.le_trans T2.out.size Z1.out.below.size;have hw:=HW.out;have hm2:=HM.out;subst hw;subst hm2;exact zhG (ov:=.slice q9 (p.O.length+1) c9) HK.out HB.out.1 K5 (((F2.out.below b9).over hS9.1 (by decide) _).over K4.out (by decide) _) (zbl (zbl (zcf D2.out b9) hS9.1 (by decide) _) K4.out (by decide) _) (zbl (zbl (zcf M2.out b9) hS9.1 (by decide) _) K4.out (by decide) _) (by rw [List.length_append];exact zbl (zbl (zdD ho9 (Nat.le_trans HB.out.1 s9)) hS9.1 (by decide) _) K4.out (by decide) _) (fun g hg=>.inr (Nat.le_trans s9 (zcy ho9 hg).1)) (((T2.out.trans (zcr b9 _)).setRow (.inl rfl) _).setRow (.inl rfl) _)
end Go.Proofs.YtplcfdnfeclpmaaGreatDoor
