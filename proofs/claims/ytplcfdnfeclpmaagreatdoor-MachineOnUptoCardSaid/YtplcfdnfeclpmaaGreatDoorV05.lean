/- MachineOn, part 5. -/
import Derived.Below
import Derived.Deep.Draws
import Derived.Deep.Slices
import Derived.BigQuiet
import Derived.Carry
import Derived.ChangeMaps
import Derived.ChangeKeysEq
import Derived.Deep.DeepCutAuto
import Derived.Deep.RegionHeld3
import Derived.Deep.RegionWith
import Derived.Deep.WholeRow
import Derived.IntWalk
import Derived.Laws.BitsAllLaws
import Derived.Laws.Bits64b
import Derived.Laws.Closers25b
import Derived.Laws.ResultCell
import Derived.Laws.CopyOwn
import Derived.Laws.StructEq
import Derived.Lib.Hide
import Derived.Lib.SmallJoins
import Derived.OpenShut
import Derived.ProofKit
import Derived.SizedLaws
import Derived.WalkKit
import Derived.WalkLawsBesides
import Derived.Test.YtplcfdnfeclpmaaGreatDoorV02
import Derived.Test.YtplcfdnfeclpmaaGreatDoorV04
set_option maxHeartbeats 4000000
set_option maxRecDepth 100000
open Go.Lib (hid)
open Go Go.RowKit Go.Deep Go.Joins Go.Proofs.Tryz
namespace Go.Proofs.YtplcfdnfeclpmaaGreatDoor
abbrev ramC (dv mv:Value) (E:Int):Array Value:=#[dv,mv,.int .u64 E]
abbrev zgB:Array Value:=#[.slice none 0 0,.slice none 0 0,.int .u64 0]
abbrev zb3:Obj:=.cells zgB 39
theorem zfJ:(Tryz.prog.info? 39).map (·.size)=some 3:=by kernel_rfl
theorem zck {w:World} {g:Nat} {dv mv:Value} {E:Int} (h:w.heap[g]?=some (.cells (ramC dv mv E) 39 (0,0))):(Instr.loadAt 39 (.pointer (some ⟨g,0,none⟩))).run Tryz.prog w=.ok (.agg (ramC dv mv E)) w:=by
 simp only [Instr.loadAt,Instr.sureAddr,Sem.run_bind,Sem.run_pure,Result.andThen];exact run_loadVar_row w g 39 39 _ (0,0) _ h underlying39 rfl (by rw [zfJ];rfl)
theorem zqt {w:World} {g:Nat} {dv mv:Value} {E:Int} (h:w.heap[g]?=some (.cells (ramC dv mv E) 39 (0,0))):(loadVar 39 ⟨g,0,none⟩).run Tryz.prog w=.ok (.agg (ramC dv mv E)) w :=
 run_loadVar_row w g 39 39 _ (0,0) _ h underlying39 rfl (by rw [zfJ];rfl)
theorem zcu {w:World} {g:Nat} {old:Array Value} {p q:Option Addr} {n m c d:Nat} {E:Int} (h:w.heap[g]?=some (.cells old 39 (0,0))) (ho:old.size=3):(Instr.storeAt 39 (.pointer (some ⟨g,0,none⟩)) (.agg (ramC (.slice p n c) (.slice q m d) E))).run Tryz.prog w=.ok () (w.setRow g (ramC (.slice p n c) (.slice q m d) E)):=by
 simp only [Instr.storeAt,Instr.sureAddr,Sem.run_bind,Sem.run_pure,Result.andThen];exact run_storeVar_row w g 39 39 _ _ h (by rw [zfJ];rfl) (by rw [ho];rfl) (by simp [Value.oneCell'])
theorem Mem.newR {W w:World} {l:List (Nat × Array Value × Nat)} {r:List (Nat × Value × Nat × List Value)} (h:Mem W w l r):Mem W (w.alloc zb3) ((w.heap.size,zgB,39) :: l) r:=h.new _ 39 (by decide)
theorem zgN {f:FuncId} {args:Array Value} {w:World} {D:List UInt8} {M:List Int} {E:Int} (h:Calls Tryz.prog f args w (zig w D M E)):Calls Tryz.prog f args w fun e w'=>∃ u,e=.returned u∧(∃ p c q d,u=.agg (ramC (.slice p D.length c) (.slice q M.length d) E)∧w'.ownsRow w.heap.size 5 1 (.slice p D.length c) D.length (dC D)∧w'.ownsRow w.heap.size 22 1 (.slice q M.length d) M.length (mC M)∧Below w.heap.size w w') :=
 h.mono fun _ _ ⟨dv,mv,he,hd,hm,hb⟩=>by
  obtain ⟨p,c,rfl⟩:=zch hd;obtain ⟨q,d,rfl⟩:=zch hm;exact ⟨_,he,p,c,q,d,rfl,hd,hm,hb⟩
theorem zdk {fn:Func} {p u x y:Tmp} (h:fn.results=#[.cell p 35,.cell u 39,.tmp x,.tmp y]) (tmps:Array Value) (w:World) (g e:Nat) (k:Bd) (dv mv:Value) (E:Int) (s t:Value) (hp:tmps.getD p undef=.pointer (some ⟨g,0,none⟩)) (hg:Box w g k) (hu:tmps.getD u undef=.pointer (some ⟨e,0,none⟩)) (he:w.heap[e]?=some (.cells (ramC dv mv E) 39 (0,0))) (hx:tmps.getD x undef=s) (hy:tmps.getD y undef=t) :
  (results fn tmps).run Tryz.prog w=.ok (.tuple #[bdV k,.agg (ramC dv mv E),s,t]) w:=by
 have hp':tmps[p]?.getD undef=.pointer (some ⟨g,0,none⟩):=by simpa using hp
 have hu':tmps[u]?.getD undef=.pointer (some ⟨e,0,none⟩):=by simpa using hu
 have hx':tmps[x]?.getD undef=s:=by simpa using hx
 have hy':tmps[y]?.getD undef=t:=by simpa using hy
 simp [results,h,hp',hu',hx',hy',asAddr,Box.result hg,zqt he]
theorem zvr (W:World) (b:Bd) (p q:Option Addr) (n m c d:Nat) (E k:Int) (s:ByteArray):Mem W (((((W.alloc (bdO b)).alloc (.cells (ramC (.slice p n c) (.slice q m d) E) 39)).alloc (.cells #[.int .i64 k,.string s] 162)).alloc zaj).alloc zb3)
  [(W.heap.size+1+1+1+1,zgB,39),(W.heap.size+1+1+1,bdC bdZ,35),(W.heap.size+1+1,#[.int .i64 k,.string s],162),(W.heap.size+1,ramC (.slice p n c) (.slice q m d) E,39),(W.heap.size,bdC b,35)] []:=by
 have h:=(((((Mem.start W).new (bdC b) 35 (by decide)).new (ramC (.slice p n c) (.slice q m d) E) 39 (by decide)).new #[.int .i64 k,.string s] 162 (by decide)).newZ).newR;simp only [World.size_alloc] at h;exact h
theorem DAt.of {w:World} {B:Nat} {v:Value} {D:List UInt8} (h:w.ownsRow B 5 1 v D.length (dC D)):DAt w v D:=ze2 h
theorem zht {W w:World} {z:Nat} {dv mv:Value} {E:Int} {D:List UInt8} {M:List Int} {l:List (Nat × Array Value × Nat)} {r:List (Nat × Value × Nat × List Value)} (X:Mem W w ((z,ramC dv mv E,39) :: l) ((22,mv,M.length,mC M) :: (5,dv,D.length,dC D) :: r)) (hr:∀ y∈r,y.1=9) (t:Int) (s:ByteArray) (ht0:0≤t) (ht1:t≤18446744073709551615) (hs:s.size≤9223372036854775807) :
  Calls Tryz.prog 143 #[.pointer (some ⟨z,0,none⟩),.int .u64 t,.string s] w fun e w'=>∃ u,e=.returned u∧(u=.bool (putB D.length t s)∧Mem W w' ((z,ramC dv mv E,39) :: l) ((22,mv,(putM D.length M E t s).length,mC (putM D.length M E t s)) :: (5,dv,(putD D t s).length,dC (putD D t s)) :: r)):=by
 have od:OwnD w W.heap.size dv D:=X.r1;have om:OwnM w W.heap.size mv M:=X.r0;refine (ziK z 0 W.heap.size dv mv E t D M s w (zca.at X.g0) od om ht0 ht1 hs).mono ?_
 rintro e w' ⟨he,hp⟩
 refine ⟨_,he,rfl,?_⟩
 have nb:∀ x∈(z,ramC dv mv E,39) :: l,¬ PutS dv mv x.1:=fun x hx hS=>by
  have ht:=X.typ x hx;rcases hS with h | h
  ·exact zb8 od (X.cel x hx) (fun e=>absurd ht (by rw [← e];decide)) h.symm
  ·exact zb8 om (X.cel x hx) (fun e=>absurd ht (by rw [← e];decide)) h.symm
 refine ⟨fun x hx=>(hp.t.block _ ((Array.getElem?_eq_some_iff.1 (X.cel x hx)).1) (nb x hx)).trans (X.cel x hx),X.nod,X.typ,X.big,fun y hy=>?_,fun y hy=>?_,zau.below X.below hp.t (fun k hk=>?_) X.below.size⟩
 ·rcases List.mem_cons.1 hy with rfl | hy
  ·exact hp.m
  ·rcases List.mem_cons.1 hy with rfl | hy
   ·exact hp.d
   ·have hy9:=hr y hy
    have oy:=X.own y (List.mem_cons_of_mem _ (List.mem_cons_of_mem _ hy))
    exact zc1 oy hp.t fun g hg hS=>by
     rcases hS with h | h
     ·exact ze4 oy od (by rw [hy9];decide) hg h.symm
     ·exact ze4 oy om (by rw [hy9];decide) hg h.symm
 ·rcases List.mem_cons.1 hy with rfl | hy
  ·exact (by decide:(22:Nat)<33)
  ·rcases List.mem_cons.1 hy with rfl | hy
   ·exact (by decide:(5:Nat)<33)
   ·exact X.row y (List.mem_cons_of_mem _ (List.mem_cons_of_mem _ hy))
 ·rcases hk with h | h
  ·exact (zcy od h.symm).1
  ·exact (zcy om h.symm).1
def secS (b:Bd) (n:Nat):ByteArray:=b.sec.extract (64*n) (64*n+64)
theorem zmF (b:Bd) (n:Nat) (W:World) (hb:hasB b=true) (hn:b.sector=n) (h16:n<16):TB 220 #[bdV b] W (.string (secS b n)):=by
 have hsz:b.sec.size=1024:=by unfold hasB at hb;have:=eq_of_beq hb;omega
 have c26:=hid (fun W=>hb ▸ zd9 b W);have X:=hid (Box.new W b);have HB:=hid (zag W (bdO b));have k1:IntKind.u64.wrap ((n:Int)*64)=((64*n:Nat):Int):=by rw [IntKind.wrap_u64];omega
 have k2:IntKind.u64.wrap (((64*n:Nat):Int)+64)=((64*n+64:Nat):Int):=by rw [IntKind.wrap_u64];omega
 have k3:64*n+64≤b.sec.size:=by omega
 have HE:=hid (show b.sec.extract (64*n) (64*n+64)=secS b n from rfl);generalize hm2:64*n+64=m2 at k2 k3 HE;have k4:64*n≤m2:=by omega
 clear hm2;generalize 64*n=m at k1 k2 HE k4;have i0:(0:Int)≤m:=by omega
 have i1:(m:Int)≤m2:=by omega
 have i2:(m2:Int)≤b.sec.size:=by omega
 have i3:(0:Int)≤m2:=by omega
 clear hsz hb h16;go_enter func220,ntmps220;go_upto_region 1 with (fail);generalize W.alloc (bdO b)=wx at X HB ⊢;go_upto_region 3 with (first | (with_reducible refine zaa rfl rfl (Box.load X.out) rfl ?_) | (go_at_call 59;(with_reducible refine (c26.out _).mono ?_);rintro e w2 ⟨rfl,kk⟩;have X:=hid (X.out.next kk);have HB:=hid (zac HB.out kk);clear kk));have m1:=X.out.cell_sector;rw [hn] at m1;have m2:=X.out.cell_sec;generalize b.sec=sc at *;go_wp2_with fail;go_ret;exact ⟨zqz HE.out,HB.out⟩
def goV (D:List UInt8) (b:Bd):ByteArray × Bool:=if b.nicL<1∨64<b.nicL then (⟨#[]⟩,false) else (zcg D b.nicA b.nicL,zb0 D.length b.nicA b.nicL==0)
theorem zpP (b:Bd) (p q:Option Addr) (n m c d:Nat) (E:Int) (D:List UInt8) (W:World) (h:b.nicL<1):TB 222 #[bdV b,.agg (ramC (.slice p n c) (.slice q m d) E)] W (.tuple #[.string (goV D b).1,.bool (goV D b).2]):=by
 rw [show goV D b=(⟨#[]⟩,false) from if_pos (.inl h)];have h0:=((Mem.start W).new (bdC b) 35 (by decide)).new (ramC (.slice p n c) (.slice q m d) E) 39 (by decide);rw [World.size_alloc] at h0;have X:=hid h0;clear h0;go_enter func222,ntmps222;go_upto_region 1 with (fail);generalize (W.alloc (bdO b)).alloc (Obj.cells _ 39)=w0 at *;have m1:=X.out.b1.cell_nicL;go_wp2_with fail;go_ret2;exact ⟨rfl,X.out.below⟩
theorem zse (b:Bd) (p q:Option Addr) (n m c d:Nat) (E:Int) (D:List UInt8) (W:World) (h1:¬ b.nicL<1) (h:64<b.nicL):TB 222 #[bdV b,.agg (ramC (.slice p n c) (.slice q m d) E)] W (.tuple #[.string (goV D b).1,.bool (goV D b).2]):=by
 rw [show goV D b=(⟨#[]⟩,false) from if_pos (.inr h)];have h0:=((Mem.start W).new (bdC b) 35 (by decide)).new (ramC (.slice p n c) (.slice q m d) E) 39 (by decide);rw [World.size_alloc] at h0;have X:=hid h0;clear h0;go_enter func222,ntmps222;go_upto_region 1 with (fail);generalize (W.alloc (bdO b)).alloc (Obj.cells _ 39)=w0 at *;have m1:=X.out.b1.cell_nicL;go_wp2_with fail;go_ret2;exact ⟨rfl,X.out.below⟩
theorem zri (b:Bd) (p q:Option Addr) (n m c d:Nat) (E:Int) (D:List UInt8) (W:World) (h1:¬ b.nicL<1) (h:¬ 64<b.nicL) (ha:0≤b.nicA∧b.nicA≤18446744073709551615) (hd:DAt W (.slice p n c) D):TB 222 #[bdV b,.agg (ramC (.slice p n c) (.slice q m d) E)] W (.tuple #[.string (goV D b).1,.bool (goV D b).2]):=by
 rw [show goV D b=(zcg D b.nicA b.nicL,zb0 D.length b.nicA b.nicL==0) from if_neg (by omega)];have c36:=hid (fun w (h:DAt w (.slice p n c) D)=>zfz (.slice p n c) D (.slice q m d) (.int .u64 E) b.nicA b.nicL w h ha.1 ha.2 (by omega) (by omega));have hw:IntKind.i64.wrap b.nicL=b.nicL:=by rw [IntKind.wrap_i64];omega
 have HD:=hid (fun w (h:Below W.heap.size W w)=>hd.below h);clear ha hd;generalize zcg D b.nicA b.nicL=ts at *;generalize zb0 D.length b.nicA b.nicL=te at *;have h0:=((Mem.start W).new (bdC b) 35 (by decide)).new (ramC (.slice p n c) (.slice q m d) E) 39 (by decide);rw [World.size_alloc] at h0;have X:=hid h0;clear h0;go_enter func222,ntmps222;go_upto_region 1 with (fail);generalize (W.alloc (bdO b)).alloc (Obj.cells _ 39)=w0 at *;have m1:=X.out.b1.cell_nicL;have m2:=X.out.b1.cell_nicA;generalize b.nicL=nl at *;generalize b.nicA=na at *;go_wp2_with (first | (with_reducible refine zaa rfl rfl (zck X.out.g0) rfl ?_) | (go_at_call 221;(with_reducible refine (c36.out _ (HD.out _ X.out.below)).mono ?_);rintro e w2 ⟨rfl,kk⟩;have X:=hid (X.out.next kk);clear kk));go_ret2;exact ⟨rfl,X.out.below⟩
theorem zp3 (b:Bd) (p q:Option Addr) (n m c d:Nat) (E:Int) (D:List UInt8) (W:World) (ha:0≤b.nicA∧b.nicA≤18446744073709551615) (hd:DAt W (.slice p n c) D):TB 222 #[bdV b,.agg (ramC (.slice p n c) (.slice q m d) E)] W (.tuple #[.string (goV D b).1,.bool (goV D b).2]):=by
 by_cases h1:b.nicL<1
 ·exact zpP b p q n m c d E D W h1
 ·by_cases h2:64<b.nicL
  ·exact zse b p q n m c d E D W h1 h2
  ·exact zri b p q n m c d E D W h1 h2 ha hd
theorem ziP {w:World} {B c:Nat} {p:Option Addr} {F:List ByteArray} (h:w.ownsRow B 9 1 (.slice p F.length c) F.length (sC F)) (h0:0<F.length):∃ g,p=some ⟨g,0,none⟩∧F.length≤c:=by
 rcases h.2 with ⟨_,e⟩ | ⟨g,cap,cur,e,_,_,hn,_⟩
 ·omega
 ·simp only [Value.slice.injEq,true_and] at e
  exact ⟨g,e.1,by omega⟩
theorem zfN {w:World} {B c g:Nat} {F:List ByteArray} (h:w.ownsRow B 9 1 (.slice (some ⟨g,0,none⟩) F.length c) F.length (sC F)) (j:Nat) (hj:j<F.length):w.cell? ⟨g,j,none⟩=some (.string F[j]):=by
 have k:=h.cells (g:=g) rfl j (.string F[j]) (by simp [sC,hj])
 rwa [zdx,Nat.zero_add] at k
theorem zso {w:World} {B c g:Nat} {F:List ByteArray} (h:w.ownsRow B 9 1 (.slice (some ⟨g,0,none⟩) F.length c) F.length (sC F)) (h0:0<F.length) (hc:F.length≤c) (hm:c≤maxLen):FAt w (.slice (some ⟨g,1,none⟩) F.tail.length (c - 1)) F.tail:=by
 refine ⟨by rw [zeT,Nat.mul_one],.inr ⟨_,_,rfl,by rw [List.length_tail];omega,by omega,fun j u hu=>?_⟩⟩
 have hj:j<F.tail.length:=by have:=(List.getElem?_eq_some_iff.1 hu).1;rwa [zeT] at this
 have hj2:1+j<F.length:=by rw [List.length_tail] at hj;omega
 rw [zdx,zfN h (1+j) hj2];unfold sC at hu;rw [List.getElem?_map,List.getElem?_eq_getElem hj] at hu;rw [← Option.some.inj hu,List.getElem_tail]
 congr 3
 omega
theorem zsF {w:World} {g:Nat} {F:List ByteArray} (h:F.length=1):FAt w (.slice (some ⟨g,0,none⟩) F.tail.length 0) F.tail:=by
 have h0:F.tail.length=0:=by rw [List.length_tail];omega
 refine ⟨by rw [zeT,Nat.mul_one],.inr ⟨_,_,rfl,by omega,by unfold maxLen;omega,fun j u hu=>?_⟩⟩
 have hj:=(List.getElem?_eq_some_iff.1 hu).1;rw [zeT] at hj;omega
theorem ziU {w:World} {B c:Nat} {p:Option Addr} {F:List ByteArray} (h:w.ownsRow B 9 1 (.slice p F.length c) F.length (sC F)) (h0:0<F.length):c≤maxLen:=by
 rcases h.2 with ⟨_,e⟩ | ⟨g,cap,cur,e,_,_,_,hm,_⟩
 ·omega
 ·simp only [Value.slice.injEq,true_and] at e
  omega
theorem Box.at_cell_sector {w:World} {g n c:Nat} {p:Option Addr} {b:Bd} (k:Box w g (b.at p n c)):w.cell? ⟨g,5,none⟩=some (.int .u64 b.sector):=k.cell_sector
theorem Box.at_cell_bad {w:World} {g n c:Nat} {p:Option Addr} {b:Bd} (k:Box w g (b.at p n c)):w.cell? ⟨g,8,none⟩=some (.bool b.bad):=k.cell_bad
theorem Box.at_sector {w:World} {g n c:Nat} {p:Option Addr} {b:Bd} (k:Box w g (b.at p n c)):(Instr.loadAt 22 (.pointer (some ⟨g,5,none⟩))).run Tryz.prog w=.ok (.int .u64 b.sector) w:=k.load_sector
theorem Box.at_addr {w:World} {g n c:Nat} {p:Option Addr} {b:Bd} (k:Box w g (b.at p n c)):(Instr.loadAt 22 (.pointer (some ⟨g,6,none⟩))).run Tryz.prog w=.ok (.int .u64 b.addr) w:=k.load_addr
theorem Box.at_nicA {w:World} {g n c:Nat} {p:Option Addr} {b:Bd} (k:Box w g (b.at p n c)):(Instr.loadAt 22 (.pointer (some ⟨g,10,none⟩))).run Tryz.prog w=.ok (.int .u64 b.nicA) w:=k.load_nicA
theorem Box.at_sec {w:World} {g n c:Nat} {p:Option Addr} {b:Bd} (k:Box w g (b.at p n c)):(Instr.loadAt 9 (.pointer (some ⟨g,4,none⟩))).run Tryz.prog w=.ok (.string b.sec) w:=k.load_sec
theorem Box.rd_fr {w:World} {g n c:Nat} {p:Option Addr} {b:Bd} (k:Box w g (b.at p n c)):(Instr.loadAt 28 (.pointer (some ⟨g,9,none⟩))).run Tryz.prog w=.ok (.slice p n c) w:=k.load_fr
structure FT (w:World) (B:Nat) (v:Value) (F:List ByteArray):Prop where
 rd:FAt w v F
 blk:∀ p n c,v=.slice (some p) n c→B≤p.block∧∃ cur,w.heap[p.block]?=some (.cells cur 9 (0,0))
theorem zaW.keep {w w':World} {v:Value} {size n:Nat} {cells:List Value} (h:zaW w v size n cells) (hb:∀ p n c,v=.slice (some p) n c→w'.heap[p.block]?=w.heap[p.block]?):zaW w' v size n cells:=by
 obtain ⟨hl,h⟩:=h;refine ⟨hl,?_⟩
 rcases h with h | ⟨a,cap,hv,h1,h2,hc⟩
 ·exact .inl h
 ·refine .inr ⟨a,cap,hv,h1,h2,fun j u hu=>?_⟩
  have e:=hb a n cap hv;have k:=hc j u hu;have ej:(a.add j).block=a.block:=by unfold Addr.add;split <;> rfl
  unfold World.cell? at k ⊢;rw [ej] at k ⊢;rw [e];exact k
theorem FT.keep {w w':World} {B:Nat} {v:Value} {F:List ByteArray} (h:FT w B v F) (hb:∀ g cur,B≤g→w.heap[g]?=some (.cells cur 9 (0,0))→w'.heap[g]?=w.heap[g]?):FT w' B v F :=
 ⟨zaW.keep h.rd fun p n c hv=>by obtain ⟨h1,cur,h2⟩:=h.blk p n c hv;exact hb _ cur h1 h2,
  fun p n c hv=>by obtain ⟨h1,cur,h2⟩:=h.blk p n c hv;exact ⟨h1,cur,(hb _ cur h1 h2).trans h2⟩⟩
theorem FT.below {w w':World} {B:Nat} {v:Value} {F:List ByteArray} (h:FT w B v F) (hb:Below w.heap.size w w'):FT w' B v F :=
 h.keep fun g _ _ hg=>hb.block g (Array.getElem?_eq_some_iff.1 hg).1
theorem FT.base {w:World} {B B':Nat} {v:Value} {F:List ByteArray} (h:FT w B v F) (hB:B'≤B):FT w B' v F:=⟨h.rd,fun p n c e=>⟨Nat.le_trans hB (h.blk p n c e).1,(h.blk p n c e).2⟩⟩
theorem FT.of {w:World} {B:Nat} {v:Value} {F:List ByteArray} (h:w.ownsRow B 9 1 v F.length (sC F)):FT w B v F :=
 ⟨ze2 h,fun p n c hv=>by
  rcases h.2 with ⟨e,_⟩ | ⟨g,cap,cur,e,hB,hg,_⟩
  ·rw [e] at hv;cases hv
  ·rw [e] at hv
   simp only [Value.slice.injEq,Option.some.injEq] at hv;rw [← hv.1];exact ⟨hB,cur,hg⟩⟩
theorem zdf {w:World} {B c g:Nat} {F:List ByteArray} (h:w.ownsRow B 9 1 (.slice (some ⟨g,0,none⟩) F.length c) F.length (sC F)) (h0:0<F.length) (hc:F.length≤c) (hm:c≤maxLen):FT w B (.slice (some ⟨g,1,none⟩) F.tail.length (c - 1)) F.tail :=
 ⟨zso h h0 hc hm,fun p n c e=>by
  obtain ⟨h1,cur,h2⟩:=(FT.of h).blk ⟨g,0,none⟩ _ _ rfl;simp only [Value.slice.injEq,Option.some.injEq] at e;rw [← e.1];exact ⟨h1,cur,h2⟩⟩
theorem zde {w:World} {B c g:Nat} {F:List ByteArray} (h:w.ownsRow B 9 1 (.slice (some ⟨g,0,none⟩) F.length c) F.length (sC F)) (h1:F.length=1):FT w B (.slice (some ⟨g,0,none⟩) F.tail.length 0) F.tail :=
 ⟨zsF h1,fun p n c e=>by
  obtain ⟨h1,cur,h2⟩:=(FT.of h).blk ⟨g,0,none⟩ _ _ rfl;simp only [Value.slice.injEq,Option.some.injEq] at e;rw [← e.1];exact ⟨h1,cur,h2⟩⟩
theorem Box.at_st_bad {w:World} {g n c:Nat} {p:Option Addr} {b:Bd} (k:Box w g (b.at p n c)) (v:Bool):(Instr.storeAt 4 (.pointer (some ⟨g,8,none⟩)) (.bool v)).run Tryz.prog w=.ok () (w.setRow g (bdC (({ b with bad:=v }:Bd).at p n c))):=k.store_bad v
theorem Box.at_st_sec {w:World} {g n c:Nat} {p:Option Addr} {b:Bd} (k:Box w g (b.at p n c)) (v:ByteArray):(Instr.storeAt 9 (.pointer (some ⟨g,4,none⟩)) (.string v)).run Tryz.prog w=.ok () (w.setRow g (bdC (({ b with sec:=v }:Bd).at p n c))):=k.store_sec v
def SA (g:Nat) (b:Bd) (w:World):Prop:=(Instr.loadAt 22 (.pointer (some ⟨g,5,none⟩))).run Tryz.prog w=.ok (.int .u64 b.sector) w∧(Instr.loadAt 22 (.pointer (some ⟨g,6,none⟩))).run Tryz.prog w=.ok (.int .u64 b.addr) w
theorem Box.sa {w:World} {g n c:Nat} {p:Option Addr} {b:Bd} (k:Box w g (b.at p n c)):SA g b w:=⟨k.load_sector,k.load_addr⟩
theorem zyk (b:Bd) (W:World) (hb:hasB b=false):TB 220 #[bdV b] W (.string ⟨#[]⟩):=by
 have c26:=hid (fun W=>hb ▸ zd9 b W);have X:=hid (Box.new W b);have HB:=hid (zag W (bdO b));clear hb;go_enter func220,ntmps220;go_upto_region 1 with (fail);generalize W.alloc (bdO b)=wx at X HB ⊢;go_wp2_with (first | (with_reducible refine zaa rfl rfl (Box.load X.out) rfl ?_) | (go_at_call 59;(with_reducible refine (c26.out _).mono ?_);rintro e w2 ⟨rfl,kk⟩;have X:=hid (X.out.next kk);have HB:=hid (zac HB.out kk);clear kk));go_ret;exact ⟨rfl,HB.out⟩
def secV (b:Bd):ByteArray:=if hasB b=true then secS b b.sector.toNat else ⟨#[]⟩
structure Acts where
 b:Bd
 F:List ByteArray
 D:List UInt8
 M:List Int
 s:ByteArray
 ok:Bool
def actF (b:Bd) (F:List ByteArray) (E:Int) (D:List UInt8) (M:List Int) (k:Int) (es:ByteArray):Acts :=
 if k=1 then ⟨b,F,D,M,es,true⟩
 else if k=2 then
  if 16≤b.sector then ⟨{ b with done:=true,bad:=true },F,D,M,⟨#[]⟩,false⟩
  else ⟨{ b with done:=true,bad:=!putB D.length b.addr (secV b) },F,putD D b.addr (secV b),putM D.length M E b.addr (secV b),⟨#[]⟩,false⟩
 else if k=3 then
  if 16≤b.sector∨zb0 D.length b.addr 64≠0 then ⟨{ b with done:=true,bad:=true },F,D,M,⟨#[]⟩,false⟩
  else if hasB b=true then ⟨{ b with done:=true,bad:=false,sec:=(b.sec.extract 0 (64*b.sector.toNat) ++ zcg D b.addr 64) ++ b.sec.extract (64*b.sector.toNat+64) b.sec.size },F,D,M,⟨#[]⟩,false⟩
  else ⟨{ b with done:=true,bad:=false },F,D,M,⟨#[]⟩,false⟩
 else if k=4 then
  if h:0<F.length then ⟨b,if putB D.length b.nicA F[0]=true then F.tail else F,putD D b.nicA F[0],putM D.length M E b.nicA F[0],⟨#[]⟩,false⟩
  else ⟨b,F,D,M,⟨#[]⟩,false⟩
 else if k=5 then ⟨b,F,D,M,(goV D b).1,(goV D b).2⟩
 else ⟨b,F,D,M,⟨#[]⟩,false⟩
theorem zug (b:Bd) (W:World) (h0:0≤b.sector) (h16:b.sector<16):TB 220 #[bdV b] W (.string (secV b)):=by
 unfold secV;rcases Bool.eq_false_or_eq_true (hasB b) with h | h
 ·rw [if_pos h]
  exact zmF b b.sector.toNat W h (by omega) (by omega)
 ·rw [if_neg (by rw [h];simp)]
  exact zyk b W h
theorem zzr (b:Bd):(secV b).size≤9223372036854775807:=by
 unfold secV
 split
 ·rename_i h
  have hsz:b.sec.size=1024:=by unfold hasB at h;have:=eq_of_beq h;omega
  unfold secS
  simp
  omega
 ·decide
def zkd (W:World) (E:Int) (r:Acts) (e:Ending) (W':World):Prop :=
 ∃ p c dv mv,e=.returned (.tuple #[bdV (r.b.at p r.F.length c),.agg (ramC dv mv E),.string r.s,.bool r.ok])∧FT W' W.heap.size (.slice p r.F.length c) r.F∧OwnD W' W.heap.size dv r.D∧OwnM W' W.heap.size mv r.M∧Below W.heap.size W W'
structure BdOk (b:Bd):Prop where
 addr:0≤b.addr∧b.addr≤18446744073709551615
 nicA:0≤b.nicA∧b.nicA≤18446744073709551615
 sector:0≤b.sector∧b.sector≤18446744073709551615
end Go.Proofs.YtplcfdnfeclpmaaGreatDoor
namespace Go.Proofs.YtplcfdnfeclpmaaGreatDoor.Pc
theorem zac {B:Nat} {a b c:World} (h:Below B a b) (hB:B≤a.heap.size) (k:Below b.heap.size b c):Below B a c:=h.trans (k.mono (Nat.le_trans hB h.size))
def U32 (x:Int):Prop:=0≤x∧x<4294967296
def bitT (x:Int) (i:Nat):Bool:=(BitVec.ofInt 32 x).getLsbD i
theorem zdy (y:BitVec 32):BitVec.ofInt 32 (IntKind.u32.wrap (y.toNat:Int))=y:=by
 have h:=y.isLt;have e:IntKind.u32.wrap (y.toNat:Int)=(y.toNat:Int):=by rw [IntKind.wrap_u32];omega
 rw [e,BitVec.ofInt_natCast]
 simp
theorem zfx (a b:Int):BitVec.ofInt 32 (bits .and .u32 a b)=BitVec.ofInt 32 a &&& BitVec.ofInt 32 b:=zdy _
theorem zf3 (a b:Int):BitVec.ofInt 32 (bits .or .u32 a b)=BitVec.ofInt 32 a ||| BitVec.ofInt 32 b:=zdy _
theorem zfS (a b:Int):BitVec.ofInt 32 (bits .andNot .u32 a b)=BitVec.ofInt 32 a &&& ~~~BitVec.ofInt 32 b:=zdy _
theorem zbd (a b:Int) (i:Nat):bitT (bits .and .u32 a b) i=(bitT a i && bitT b i):=by unfold bitT;rw [zfx,BitVec.getLsbD_and]
theorem zep (a b:Int) (i:Nat):bitT (bits .or .u32 a b) i=(bitT a i || bitT b i):=by unfold bitT;rw [zf3,BitVec.getLsbD_or]
theorem zcd (a b:Int) (i:Nat) (hi:i<32):bitT (bits .andNot .u32 a b) i=(bitT a i && !bitT b i):=by
 unfold bitT;rw [zfS,BitVec.getLsbD_and,BitVec.getLsbD_not]
 simp [hi]
theorem zhu (y:BitVec 32):U32 (IntKind.u32.wrap (y.toNat:Int)):=by
 unfold U32;rw [IntKind.wrap_u32];omega
theorem zgV (a b:Int):U32 (bits .and .u32 a b):=zhu _
theorem zm9 (a b:Int):U32 (bits .or .u32 a b):=zhu _
theorem zh1 (a b:Int):U32 (bits .andNot .u32 a b):=zhu _
theorem zci (a b:Int) (ha:U32 a) (hb:U32 b) (h:∀ i,i<32→bitT a i=bitT b i):a=b:=by
 have e:BitVec.ofInt 32 a=BitVec.ofInt 32 b:=BitVec.eq_of_getLsbD_eq fun i hi=>h i hi
 obtain ⟨n,rfl⟩:=Int.eq_ofNat_of_zero_le ha.1;obtain ⟨k,rfl⟩:=Int.eq_ofNat_of_zero_le hb.1;have e2:=congrArg BitVec.toNat e;rw [BitVec.ofInt_natCast,BitVec.ofInt_natCast,BitVec.toNat_ofNat,BitVec.toNat_ofNat] at e2;have h1:=ha.2;have h2:=hb.2;omega
theorem zee (x:Int) (hx:U32 x) (i:Nat) (hi:i<32):bitT x i=decide (x / (2:Int) ^ i % 2=1):=by
 obtain ⟨n,rfl⟩:=Int.eq_ofNat_of_zero_le hx.1;have h:=hx.2;unfold bitT;rw [BitVec.ofInt_natCast,BitVec.getLsbD_ofNat,Nat.testBit_eq_decide_div_mod_eq];simp only [hi,decide_true,Bool.true_and]
 apply decide_eq_decide.2
 have e:(n:Int) / (2:Int) ^ i % 2=((n / 2 ^ i % 2:Nat):Int):=by simp
 rw [e];omega
theorem zcv (i:Nat):bitT 0 i=false:=by unfold bitT;simp
theorem zfY:U32 0:=⟨by omega,by omega⟩
def wt:Int→Int
 | 1=>2
 | 2=>4
 | 3=>8
 | _=>0
theorem zgY (i:Nat) (hi:i<32):bitT 2 i=(i==1):=by revert i;decide +kernel
theorem zAS (i:Nat) (hi:i<32):bitT 4 i=(i==2):=by revert i;decide +kernel
theorem zw1 (i:Nat) (hi:i<32):bitT 8 i=(i==3):=by revert i;decide +kernel
theorem zfb (k:Nat) (hk:1≤k∧k≤3) (i:Nat) (hi:i<32):bitT (wt k) i=(i==k):=by
 match k,hk with
 | 1,_=>exact zgY i hi
 | 2,_=>exact zAS i hi
 | 3,_=>exact zw1 i hi
 | k+4,h=>omega
theorem zfh (x:Int) (k:Nat) (hk:1≤k∧k≤3):(bits .and .u32 x (wt k) != 0)=bitT x k:=by
 have e:bits .and .u32 x (wt k)=if bitT x k=true then wt k else 0:=by
  apply zci _ _ (zgV _ _)
  ·split
   ·match k,hk with
    | 1,_=>exact ⟨by decide,by decide⟩
    | 2,_=>exact ⟨by decide,by decide⟩
    | 3,_=>exact ⟨by decide,by decide⟩
    | k+4,h=>omega
   ·exact zfY
  ·intro i hi
   rw [zbd,zfb k hk i hi]
   by_cases hik:i=k
   ·subst hik
    split
    ·rename_i h;rw [zfb i hk i hi,h];rfl
    ·rename_i h;rw [zcv];simp at h;rw [h];rfl
   ·have:(i==k)=false:=by simp [hik]
    rw [this]
    split
    ·rw [zfb k hk i hi,this];simp
    ·rw [zcv];simp
 rw [e]
 match k,hk with
 | 1,_=>cases bitT x 1 <;> rfl
 | 2,_=>cases bitT x 2 <;> rfl
 | 3,_=>cases bitT x 3 <;> rfl
 | k+4,h=>omega
structure Ok (h:Pl):Prop where
 p0:U32 h.p0
 p1:U32 h.p1
 p2:U32 h.p2
 p3:U32 h.p3
 e0:U32 h.e0
 e1:U32 h.e1
 l0:U32 h.l0
 l1:U32 h.l1
 c:U32 h.c
abbrev plV (h:Pl):Value:=.agg (plC h)
abbrev plO (h:Pl):Obj:=.cells (plC h) 33
theorem zeY (h:Pl):(plC h).size=9:=rfl
theorem zcI (h:Pl) (k:Nat):(plC h)[k]?=(plL h)[k]?:=by unfold plC;rw [List.getElem?_toArray]
theorem zly (h g:Pl) (k:Nat) (v:Value) (ht:plL g=(plL h).set k v):(plC h).setIfInBounds k v=plC g:=by
 unfold plC;rw [List.setIfInBounds_toArray,ht]
theorem zkx (h:Pl):(plC h).all (·.oneCell')=true:=by
 unfold plC plL
 simp [Value.oneCell']
theorem zeA:(Tryz.prog.info? 33).map (·.size)=some 9:=by kernel_rfl
theorem zhz:(Tryz.prog.info? 30).map (·.size)=some 4:=by kernel_rfl
theorem zg6:(Tryz.prog.info? 31).map (·.size)=some 2:=by kernel_rfl
theorem zla:(Tryz.prog.info? 29).map (·.size)=some 1:=by kernel_rfl
end Go.Proofs.YtplcfdnfeclpmaaGreatDoor.Pc
namespace Go.Proofs.YtplcfdnfeclpmaaGreatDoor.Pc
def Box (w:World) (b:Nat) (h:Pl):Prop:=w.heap[b]?=some (plO h)
theorem Box.lt {w:World} {b:Nat} {h:Pl} (k:Box w b h):b<w.heap.size:=(Array.getElem?_eq_some_iff.1 k).1
theorem Box.next {w w':World} {b:Nat} {h:Pl} (k:Box w b h) (j:Below w.heap.size w w'):Box w' b h:=(j.block b k.lt).trans k
theorem Box.alloc {w:World} {b:Nat} {h:Pl} (k:Box w b h) (o:Obj):Box (w.alloc o) b h:=k.next ((Below.refl _ _).alloc (Nat.le_refl _) o)
theorem Box.new (w:World) (h:Pl):Box (w.alloc (plO h)) w.heap.size h:=heap_alloc_last w _
theorem Box.over {w:World} {b g:Nat} {h:Pl} (k:Box w b h) (hg:b≠g) (cs:Array Value):Box (w.setRow g cs) b h:=(setRow_other w g b cs hg).trans k
theorem Box.mine {w:World} {g:Nat} {old:Array Value} (k:w.heap[g]?=some (.cells old 33 (0,0))) (h:Pl):Box (w.setRow g (plC h)) g h:=setRow_heap w g old (plC h) 33 (0,0) k
theorem Box.load {w:World} {b:Nat} {h:Pl} (k:Box w b h):(Instr.loadAt 33 (.pointer (some ⟨b,0,none⟩))).run Tryz.prog w=.ok (plV h) w:=by
 simp only [Instr.loadAt,Instr.sureAddr,Sem.run_bind,Sem.run_pure,Result.andThen];exact run_loadVar_row w b 33 33 (plC h) (0,0) _ k underlying33 rfl (by rw [zeA,zeY])
theorem Box.result {w:World} {b:Nat} {h:Pl} (k:Box w b h):(loadVar 33 ⟨b,0,none⟩).run Tryz.prog w=.ok (plV h) w :=
 run_loadVar_row w b 33 33 (plC h) (0,0) _ k underlying33 rfl (by rw [zeA,zeY])
theorem Box.load_prio {w:World} {b:Nat} {h:Pl} (k:Box w b h):(Instr.loadAt 30 (.pointer (some ⟨b,0,none⟩))).run Tryz.prog w=.ok (.agg #[.int .u32 h.p0,.int .u32 h.p1,.int .u32 h.p2,.int .u32 h.p3]) w :=
 zd2 w b 0 33 30 (plC h) [.int .u32 h.p0,.int .u32 h.p1,.int .u32 h.p2,.int .u32 h.p3] _ k underlying30 rfl (by rw [zhz];rfl) fun j v hv=>by
  rw [Nat.zero_add,zcI]
  match j,hv with
  | 0,hv=>exact hv
  | 1,hv=>exact hv
  | 2,hv=>exact hv
  | 3,hv=>exact hv
  | j+4,hv=>simp at hv
theorem Box.load_level {w:World} {b:Nat} {h:Pl} (k:Box w b h):(Instr.loadAt 31 (.pointer (some ⟨b,6,none⟩))).run Tryz.prog w=.ok (.agg #[.int .u32 h.l0,.int .u32 h.l1]) w :=
 zd2 w b 6 33 31 (plC h) [.int .u32 h.l0,.int .u32 h.l1] _ k underlying31 rfl (by rw [zg6];rfl) fun j v hv=>by
  rw [zcI]
  match j,hv with
  | 0,hv=>exact hv
  | 1,hv=>exact hv
  | j+2,hv=>simp at hv
theorem Box.cell {w:World} {b:Nat} {h:Pl} (k:Box w b h) (i:Nat):w.cell? ⟨b,i,none⟩=(plL h)[i]?:=by
 rw [cell_of_row w b _ (plC h) 33 (0,0) k,zcI]
theorem Box.load_p1 {w:World} {b:Nat} {h:Pl} (k:Box w b h):(Instr.loadAt 29 (.pointer (some ⟨b,1,none⟩))).run Tryz.prog w=.ok (.int .u32 h.p1) w :=
 za0 w b 1 29 33 (plC h) _ _ k underlying29 rfl (zcI h 1)
theorem Box.load_p2 {w:World} {b:Nat} {h:Pl} (k:Box w b h):(Instr.loadAt 29 (.pointer (some ⟨b,2,none⟩))).run Tryz.prog w=.ok (.int .u32 h.p2) w :=
 za0 w b 2 29 33 (plC h) _ _ k underlying29 rfl (zcI h 2)
theorem Box.load_p3 {w:World} {b:Nat} {h:Pl} (k:Box w b h):(Instr.loadAt 29 (.pointer (some ⟨b,3,none⟩))).run Tryz.prog w=.ok (.int .u32 h.p3) w :=
 za0 w b 3 29 33 (plC h) _ _ k underlying29 rfl (zcI h 3)
theorem Box.load_e0 {w:World} {b:Nat} {h:Pl} (k:Box w b h):(Instr.loadAt 29 (.pointer (some ⟨b,4,none⟩))).run Tryz.prog w=.ok (.int .u32 h.e0) w :=
 za0 w b 4 29 33 (plC h) _ _ k underlying29 rfl (zcI h 4)
theorem Box.load_e1 {w:World} {b:Nat} {h:Pl} (k:Box w b h):(Instr.loadAt 29 (.pointer (some ⟨b,5,none⟩))).run Tryz.prog w=.ok (.int .u32 h.e1) w :=
 za0 w b 5 29 33 (plC h) _ _ k underlying29 rfl (zcI h 5)
theorem Box.load_l0 {w:World} {b:Nat} {h:Pl} (k:Box w b h):(Instr.loadAt 29 (.pointer (some ⟨b,6,none⟩))).run Tryz.prog w=.ok (.int .u32 h.l0) w :=
 za0 w b 6 29 33 (plC h) _ _ k underlying29 rfl (zcI h 6)
theorem Box.load_l1 {w:World} {b:Nat} {h:Pl} (k:Box w b h):(Instr.loadAt 29 (.pointer (some ⟨b,7,none⟩))).run Tryz.prog w=.ok (.int .u32 h.l1) w :=
 za0 w b 7 29 33 (plC h) _ _ k underlying29 rfl (zcI h 7)
theorem Box.load_c {w:World} {b:Nat} {h:Pl} (k:Box w b h):(Instr.loadAt 29 (.pointer (some ⟨b,8,none⟩))).run Tryz.prog w=.ok (.int .u32 h.c) w :=
 za0 w b 8 29 33 (plC h) _ _ k underlying29 rfl (zcI h 8)
theorem zaY (w:World) (b:Nat) (old:Array Value) (h:Pl) (k:w.heap[b]?=some (.cells old 33 (0,0))) (ho:old.size=9):(Instr.storeAt 33 (.pointer (some ⟨b,0,none⟩)) (plV h)).run Tryz.prog w=.ok () (w.setRow b (plC h)):=by
 simp only [Instr.storeAt,Instr.sureAddr,Sem.run_bind,Sem.run_pure,Result.andThen];exact run_storeVar_row w b 33 33 old (plC h) k (by rw [zeA,zeY]) (by rw [ho,zeY]) (zkx h)
def zdm:Pl:=⟨0,0,0,0,0,0,0,0,0⟩
abbrev zeroC:Array Value:=#[.int .u32 0,.int .u32 0,.int .u32 0,.int .u32 0,.int .u32 0,.int .u32 0,.int .u32 0,.int .u32 0,.int .u32 0]
abbrev zaj:Obj:=.cells zeroC 33
def St (n:Nat) (W:World) (h:Pl) (r:Array Value):World:=((W.alloc (plO h)).alloc (.cells r 33)).drewN n
theorem St.box (n:Nat) (W:World) (h:Pl) (r:Array Value):Box (St n W h r) W.heap.size h:=(Box.new W h).alloc (.cells r 33)
theorem St.res (n:Nat) (W:World) (h:Pl) (r:Array Value):(St n W h r).heap[W.heap.size+1]?=some (.cells r 33 (0,0)):=by
 have k:=heap_alloc_last (W.alloc (plO h)) (.cells r 33)
 rwa [World.size_alloc] at k
theorem St.put (n:Nat) (W:World) (h g:Pl) (r:Array Value):(St n W h r).setRow W.heap.size (plC g)=St n W g r:=by
 have k:((W.alloc (plO h)).alloc (.cells r 33)).setRow W.heap.size (plC g)=(W.alloc (plO g)).alloc (.cells r 33):=by rw [zkX _ _ _ _ (by simp),World.setRow_alloc_new]
 exact congrArg (fun w=>w.drewN n) k
theorem St.full (n:Nat) (W:World) (h:Pl) (r r':Array Value):(St n W h r).setRow (W.heap.size+1) r'=St n W h r':=by
 have k:=World.setRow_alloc_new (W.alloc (plO h)) r r' 33;rw [World.size_alloc] at k;exact congrArg (fun w=>w.drewN n) k
theorem St.below (n:Nat) (W:World) (h:Pl) (r:Array Value):Below W.heap.size W (St n W h r):=⟨rfl,rfl,rfl,by show W.heap.size≤((W.heap.push _).push _).size;simp;omega,fun k hk=>(((Below.refl _ _).alloc (Nat.le_refl _) _).alloc (by simp) _).block k hk⟩
theorem St.load (n:Nat) (W:World) (h:Pl) (r:Array Value):(Instr.loadAt 33 (.pointer (some ⟨W.heap.size,0,none⟩))).run Tryz.prog (St n W h r)=.ok (plV h) (St n W h r):=(St.box n W h r).load
theorem St.store (n:Nat) (W:World) (h g:Pl):(Instr.storeAt 33 (.pointer (some ⟨W.heap.size+1,0,none⟩)) (plV g)).run Tryz.prog (St n W h zeroC)=.ok () (St n W h (plC g)) :=
 (zaY _ _ _ _ (St.res n W h zeroC) rfl).trans (by rw [St.full])
theorem St.store_at {n:Nat} {W:World} {h:Pl} (g:Pl) {r:Array Value} (i:Nat) {v:Value} (hi:i<9) (h1:v.oneCell'=true) (hc:v.cells=#[v]) (ht:plL g=(plL h).set i v):(Instr.storeAt 29 (.pointer (some ⟨W.heap.size,i,none⟩)) v).run Tryz.prog (St n W h r)=.ok () (St n W g r):=by
 refine (zbQ _ _ i 29 33 _ _ (St.box n W h r) zla (by rw [zeY];omega) h1 hc).trans ?_
 rw [zly h g i v ht,St.put]
theorem za7 {fn:Func} {p u q:Tmp} (h:fn.results=#[.cell p 33,.tmp u,.tmp q]) (tmps:Array Value) (w:World) (g:Nat) (k:Pl) (v x:Value) (hp:tmps.getD p undef=.pointer (some ⟨g,0,none⟩)) (hg:Box w g k) (hv:tmps.getD u undef=v) (hx:tmps.getD q undef=x) :
  (results fn tmps).run Tryz.prog w=.ok (.tuple #[plV k,v,x]) w:=by
 have hp':tmps[p]?.getD undef=.pointer (some ⟨g,0,none⟩):=by simpa using hp
 have hv':tmps[u]?.getD undef=v:=by simpa using hv
 have hx':tmps[q]?.getD undef=x:=by simpa using hx
 simp [results,h,hp',hv',hx',asAddr,Box.result hg]
theorem zbv {fn:Func} {p u:Tmp} (h:fn.results=#[.cell p 33,.tmp u]) (tmps:Array Value) (w:World) (g:Nat) (k:Pl) (v:Value) (hp:tmps.getD p undef=.pointer (some ⟨g,0,none⟩)) (hg:Box w g k) (hv:tmps.getD u undef=v) :
  (results fn tmps).run Tryz.prog w=.ok (.tuple #[plV k,v]) w:=by
 rw [results_cell_tmp h,hp,hv]
 simp [asAddr,Result.andThen,Box.result hg]
end Go.Proofs.YtplcfdnfeclpmaaGreatDoor.Pc
namespace Go.Proofs.YtplcfdnfeclpmaaGreatDoor.Pc
def zbH (s c:Int):Int:=bits .and .u32 (bits .andNot .u32 s c) 14
theorem zhS (h:Pl) (s:Int) (W:World):TB 92 #[plV h,.int .u32 s] W (.int .u32 (zbH s h.c)):=by
 have m_c:(plC h)[8]?=some (.int .u32 h.c):=zcI h 8;go_enter func92,ntmps92
 go_wp2
 go_ret;exact ⟨rfl,(Below.refl _ _).alloc (Nat.le_refl _) _⟩
def zbo (x:Int):Bool:=bits .andNot .u32 x 14==0
theorem zfp (W:World):TW 93 #[.int .u32 0] W (.int .u32 0):=by
 go_enter func93,ntmps93
 go_wp2
 go_ret;exact ⟨zam (by decide +kernel),rfl⟩
theorem zdR (W:World):TW 93 #[.int .u32 1] W (.int .u32 2):=by
 go_enter func93,ntmps93
 go_wp2
 go_ret;exact ⟨zam (by decide +kernel),rfl⟩
theorem zdJ (W:World):TW 93 #[.int .u32 2] W (.int .u32 4):=by
 go_enter func93,ntmps93
 go_wp2
 go_ret;exact ⟨zam (by decide +kernel),rfl⟩
theorem zdO (W:World):TW 93 #[.int .u32 3] W (.int .u32 8):=by
 go_enter func93,ntmps93
 go_wp2
 go_ret;exact ⟨zam (by decide +kernel),rfl⟩
theorem zwy (k:Nat) (h:k≤32) (h4:4≤k):bits .and .u32 (2 ^ k % 4294967296) 14=0:=by
 revert k
 decide +kernel
theorem zj7 (n:Int) (hn:U32 n) (h4:4≤n) (W:World):TW 93 #[.int .u32 n] W (.int .u32 0):=by
 obtain ⟨h0,h1⟩:=hn;have HB:=hid (zwy (min n.toNat 32) (by omega) (by omega));go_enter func93,ntmps93
 go_wp2
 go_ret;exact ⟨zam HB.out,rfl⟩
theorem zkr (W:World):TW 219 #[.int .u64 201326596] W (.tuple #[.int .i64 1,.int .i64 1]):=by
 go_enter func219,ntmps219
 go_wp2
 go_ret2;exact ⟨rfl,rfl⟩
theorem zjZ (W:World):TW 219 #[.int .u64 201326600] W (.tuple #[.int .i64 1,.int .i64 2]):=by
 go_enter func219,ntmps219
 go_wp2
 go_ret2;exact ⟨rfl,rfl⟩
theorem zlp (W:World):TW 219 #[.int .u64 201326604] W (.tuple #[.int .i64 1,.int .i64 3]):=by
 go_enter func219,ntmps219
 go_wp2
 go_ret2;exact ⟨rfl,rfl⟩
theorem zkg (W:World):TW 219 #[.int .u64 201330688] W (.tuple #[.int .i64 2,.int .i64 0]):=by
 go_enter func219,ntmps219
 go_wp2
 go_ret2;exact ⟨rfl,rfl⟩
theorem zlv (W:World):TW 219 #[.int .u64 201334784] W (.tuple #[.int .i64 3,.int .i64 0]):=by
 go_enter func219,ntmps219
 go_wp2
 go_ret2;exact ⟨rfl,rfl⟩
theorem zjg (W:World):TW 219 #[.int .u64 201334912] W (.tuple #[.int .i64 3,.int .i64 1]):=by
 go_enter func219,ntmps219
 go_wp2
 go_ret2;exact ⟨rfl,rfl⟩
theorem zjr (W:World):TW 219 #[.int .u64 203423744] W (.tuple #[.int .i64 4,.int .i64 0]):=by
 go_enter func219,ntmps219
 go_wp2
 go_ret2;exact ⟨rfl,rfl⟩
theorem ziG (W:World):TW 219 #[.int .u64 203427840] W (.tuple #[.int .i64 4,.int .i64 1]):=by
 go_enter func219,ntmps219
 go_wp2
 go_ret2;exact ⟨rfl,rfl⟩
theorem zef (W:World):TW 219 #[.int .u64 203423748] W (.tuple #[.int .i64 5,.int .i64 0]):=by
 go_enter func219,ntmps219
 go_wp2
 go_ret2;exact ⟨rfl,rfl⟩
theorem zd5 (W:World):TW 219 #[.int .u64 203427844] W (.tuple #[.int .i64 5,.int .i64 1]):=by
 go_enter func219,ntmps219
 go_wp2
 go_ret2;exact ⟨rfl,rfl⟩
structure zdv (t:Int):Prop where
 n_p1:¬ t=201326596
 n_p2:¬ t=201326600
 n_p3:¬ t=201326604
 n_wait:¬ t=201330688
 n_e0:¬ t=201334784
 n_e1:¬ t=201334912
 n_l0:¬ t=203423744
 n_l1:¬ t=203427840
 n_b0:¬ t=203423748
 n_b1:¬ t=203427844
theorem zlw (t:Int) (hn:zdv t) (W:World):TW 219 #[.int .u64 t] W (.tuple #[.int .i64 0,.int .i64 0]):=by
 have x_p1:=hn.n_p1;have x_p2:=hn.n_p2;have x_p3:=hn.n_p3;have x_wait:=hn.n_wait;have x_e0:=hn.n_e0;have x_e1:=hn.n_e1;have x_l0:=hn.n_l0;have x_l1:=hn.n_l1;have x_b0:=hn.n_b0;have x_b1:=hn.n_b1;go_enter func219,ntmps219
 go_wp2
 go_ret2;exact ⟨rfl,rfl⟩
end Go.Proofs.YtplcfdnfeclpmaaGreatDoor.Pc
