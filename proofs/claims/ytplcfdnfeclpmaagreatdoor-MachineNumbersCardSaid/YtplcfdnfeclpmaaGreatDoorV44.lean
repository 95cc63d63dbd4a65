/- MachineNumbers, part 44. -/
import Derived.Test.YtplcfdnfeclpmaaGreatDoorV06
import Derived.Test.YtplcfdnfeclpmaaGreatDoorV23
import Derived.Test.YtplcfdnfeclpmaaGreatDoorV25
import Derived.Test.YtplcfdnfeclpmaaGreatDoorV30
import Derived.Test.YtplcfdnfeclpmaaGreatDoorV31
import Derived.Test.YtplcfdnfeclpmaaGreatDoorV36
import Derived.Test.YtplcfdnfeclpmaaGreatDoorV43
set_option maxHeartbeats 4000000
set_option maxRecDepth 100000
open Go.Lib (hid)
open Go Go.RowKit Go.Deep Go.Joins Go.Proofs.Tryz
namespace Go.Proofs.YtplcfdnfeclpmaaGreatDoor
def za7 (dv mv:Value):Mc:=⟨awH,bdN,dv,mv,0,0,0,.slice none 0 0⟩
theorem zsE (dv mv:Value):Tryz.prog.built 42 [(0,zat awH),(1,bdV bdN),(2,.agg #[dv,mv,.int .u64 0])]=some (mcC (za7 dv mv)):=by kernel_rfl
theorem zvm {P:Program} {ρ:Operand→Value} {o:Oper} {t:TypeId} {i j k:Nat} {x y z:Operand} {vx vy vz:Value} {cells:Array Value} {w:World} (ho:o.op=.build t #[(i,x),(j,y),(k,z)]) (hx:ρ x=vx) (hy:ρ y=vy) (hz:ρ z=vz) (h:P.built t [(i,vx),(j,vy),(k,vz)]=some cells):(execOp ρ o).run P w=.ok (.value (.agg cells)) w:=by
 simp [execOp,ho,hx,hy,hz,run_build w t #[(i,vx),(j,vy),(k,vz)] cells h,Result.andThen]
theorem zfd {fn:Func} {p u:Tmp} (h:fn.results=#[.cell p 42,.tmp u]) (tmps:Array Value) (w:World) (g:Nat) (m:Mc) (v:Value) (hp:tmps.getD p undef=.pointer (some ⟨g,0,none⟩)) (hg:MBox w g m) (hv:tmps.getD u undef=v) :
  (results fn tmps).run Tryz.prog w=.ok (.tuple #[mcV m,v]) w:=by
 have hp':tmps[p]?.getD undef=.pointer (some ⟨g,0,none⟩):=by simpa using hp
 have hv':tmps[u]?.getD undef=v:=by simpa using hv
 have hl:(loadVar 42 ⟨g,0,none⟩).run Tryz.prog w=.ok (mcV m) w:=run_loadVar_row w g 42 42 (mcC m) (0,0) _ hg underlying42 rfl (by rw [zge,zcv])
 simp [results,h,hp',hv',asAddr,hl]
def NewM (W:World) (D:List UInt8) (M:List Int) (e:Ending) (W':World):Prop :=
 ∃ dv mv,e=.returned (.tuple #[mcV (za7 dv mv),.int .i64 0])∧OwnD W' W.heap.size dv D∧OwnM W' W.heap.size mv M∧Below W.heap.size W W'
theorem ziV (n:Nat) (s:ByteArray) (W:World) (h1:1≤n) (h2:n≤256) (hsz:s.size≤n*256):Calls Tryz.prog 31 #[.string s,.int .i64 n] W (NewM W (spl (List.replicate (n*256) 0) 0 s) (List.replicate n 0)):=by
 have C1:=hid (fun w=>zyl n s w h1 h2 hsz);generalize spl (List.replicate (n*256) 0) 0 s=D at C1 ⊢;generalize List.replicate n (0:Int)=M at C1 ⊢;go_enter func31,ntmps31;go_upto_region 1 with (fail);have X:=hid ((Mem.start W).newM);generalize W.alloc mcZO=wa at X ⊢;go_upto_region 2 with (first | (go_at_call 55;(with_reducible refine (C1.out _).mono ?_);rintro e wb ⟨dv,mv,rfl,hD,hM,kk⟩;have BX:=X.out.below.size;obtain ⟨p1,c1,e1⟩:=zb7 hD;obtain ⟨p2,c2,e2⟩:=zb7 hM;subst e1;subst e2;have HD:=hid (zdn hD BX);have HM:=hid (zdn hM BX);have X:=hid (X.out.next kk);clear kk hD hM BX) | (with_reducible refine zam rfl rfl (zcn (heap_alloc_last _ _) (by kernel_rfl)) rfl rfl ?_));have X:=hid ((X.out.newR).p0 (cs':=(ramC (.slice p1 D.length c1) (.slice p2 M.length c2) 0)) rfl);have HD:=hid (show OwnD ((wb.alloc zb0).setRow wb.heap.size (ramC (.slice p1 D.length c1) (.slice p2 M.length c2) 0)) W.heap.size (.slice p1 D.length c1) D from zbd (zbU HD.out (zah wb zb0)) (heap_alloc_last wb zb0) (by decide) (ramC (.slice p1 D.length c1) (.slice p2 M.length c2) 0));have HM:=hid (show OwnM ((wb.alloc zb0).setRow wb.heap.size (ramC (.slice p1 D.length c1) (.slice p2 M.length c2) 0)) W.heap.size (.slice p2 M.length c2) M from zbd (zbU HM.out (zah wb zb0)) (heap_alloc_last wb zb0) (by decide) (ramC (.slice p1 D.length c1) (.slice p2 M.length c2) 0));generalize wb.heap.size=gr at X HD HM ⊢;generalize (wb.alloc zb0).setRow gr (ramC (.slice p1 D.length c1) (.slice p2 M.length c2) 0)=wc at X HD HM ⊢
 have H1:=hid (Mc1.mk (m:=za7 (.slice p1 D.length c1) (.slice p2 M.length c2)) (zdi HD.out) (zdi HM.out) rfl);go_upto_region 5 with (first | ((with_reducible show wpList _ _ _ (⟨some 19,Op.build 27 _,_,_,_,_⟩ :: _) _ _);refine zeL (by kernel_rfl) (zyR rfl rfl rfl zwO) ?_;simp only [Act.put,List.setIfInBounds_toArray,List.set_cons_zero,List.set_cons_succ]) | (with_reducible refine zam rfl rfl (Tr.zaV _ _ _ awH (heap_alloc_last _ _) (by kernel_rfl)) rfl rfl ?_));have bb:Below wc.heap.size wc ((wc.alloc Tr.zai).setRow wc.heap.size (zap awH)):=below_setRow (zah wc Tr.zai) (Nat.le_refl _) _;have gh1:((wc.alloc Tr.zai).setRow wc.heap.size (zap awH)).heap[wc.heap.size]?=some (.cells (zap awH) 27 (0,0)):=setRow_heap _ wc.heap.size _ (zap awH) 27 (0,0) (heap_alloc_last wc Tr.zai);have gr1:=(bb.block gr (Array.getElem?_eq_some_iff.1 X.out.g0).1).trans X.out.g0;have gt1:=(bb.block W.heap.size (Array.getElem?_eq_some_iff.1 X.out.g1).1).trans X.out.g1;have G:=hid (And.intro (zbU HD.out bb) (And.intro (zbU HM.out bb) (zac X.out.below bb)));have ne1:wc.heap.size≠W.heap.size:=fun e=>by have:=(Array.getElem?_eq_some_iff.1 X.out.g1).1;omega
 have ne2:gr≠W.heap.size:=fun e=>by
  have h:=X.out.g0;rw [e,X.out.g1] at h;simp only [Option.some.injEq,Obj.cells.injEq] at h;exact absurd h.2.1 (by decide)
 have NE:=hid (And.intro ne1 ne2);clear X HD HM bb ne1 ne2;generalize wc.heap.size=gh at gh1 gr1 gt1 G NE ⊢;generalize (wc.alloc Tr.zai).setRow gh (zap awH)=wd at gh1 gr1 gt1 G ⊢;have GT:=hid gt1;refine dr (fun w=>w.heap[gh]?=some (.cells (zap awH) 27 (0,0))∧w.heap[gr]?=some (.cells (ramC (.slice p1 D.length c1) (.slice p2 M.length c2) 0) 39 (0,0))) fun wz hzz=>?_
 have hS:wz.heap[gh]?=some (.cells (zap awH) 27 (0,0))∧wz.heap[gr]?=some (.cells (ramC (.slice p1 D.length c1) (.slice p2 M.length c2) 0) 39 (0,0)):=⟨(hzz.block gh (Array.getElem?_eq_some_iff.1 gh1).1).trans gh1,(hzz.block gr (Array.getElem?_eq_some_iff.1 gr1).1).trans gr1⟩;have BZ:=hid (show Below wd.heap.size wd wz from hzz);clear hzz gh1 gr1 gt1;refine tl 0 hS (fun w hw=>Tr.Box.load hw.1) ?_
 refine tl 2 hS (fun w hw=>zyu hw.2) ?_
 refine hc 1 (zbB (ztJ wz)) ?_
 rintro v' we ⟨rfl,kk⟩
 have BE:=hid (zac BZ.out kk);refine ⟨⟨(kk.block gh (Array.getElem?_eq_some_iff.1 hS.1).1).trans hS.1,(kk.block gr (Array.getElem?_eq_some_iff.1 hS.2).1).trans hS.2⟩,fun hS2=>?_⟩
 clear kk hS;simp only [puts];refine tk 3 hS2 ?_ (hy:=.inl ⟨by kernel_rfl,fun w _=>zvm rfl rfl rfl rfl (zsE (.slice p1 D.length c1) (.slice p2 M.length c2))⟩)
 refine hs 4 (MBox.store (za7 (.slice p1 D.length c1) (.slice p2 M.length c2)) H1.out ((BE.out.block _ (Array.getElem?_eq_some_iff.1 GT.out).1).trans GT.out) (by kernel_rfl)) fun wy hw=>?_
 refine ⟨⟨by rw [hw,setRow_other we _ _ _ NE.out.1];exact hS2.1,by rw [hw,setRow_other we _ _ _ NE.out.2];exact hS2.2⟩,fun hS3=>?_⟩
 refine tk 5 hS3 ?_
 refine wpAnyH_done (by kernel_rfl) ?_ _
 have KB:MBox wy W.heap.size (za7 (.slice p1 D.length c1) (.slice p2 M.length c2)):=by
  rw [hw];exact setRow_heap we W.heap.size _ _ 42 (0,0) ((BE.out.block _ (Array.getElem?_eq_some_iff.1 GT.out).1).trans GT.out)
 have R:=hid (show OwnD wy W.heap.size (.slice p1 D.length c1) D∧OwnM wy W.heap.size (.slice p2 M.length c2) M∧Below W.heap.size W wy from by
  obtain ⟨g1,g2,g3⟩:=G.out;have hq:=((BE.out.block _ (Array.getElem?_eq_some_iff.1 GT.out).1).trans GT.out);rw [hw];exact ⟨zbd (zbU g1 BE.out) hq (by decide) _,zbd (zbU g2 BE.out) hq (by decide) _,below_setRow (zac g3 BE.out) (Nat.le_refl _) _⟩)
 have HK:=hid KB;clear hw hS2 hS3 KB;go_wp2_with fail;refine bodyPost_ret (v:=.tuple #[mcV (za7 (.slice p1 D.length c1) (.slice p2 M.length c2)),.int .i64 0]) (zfd results31 _ _ W.heap.size _ _ rfl HK.out rfl) rfl ?_
 exact ⟨_,_,rfl,R.out⟩
theorem zjy (b:Bd) (F:List ByteArray) (d:Int) (s:ByteArray):(gvF b F d s).1={ b with inn:=(gvF b F d s).1.inn }∧((gvF b F d s).2.1=F∨(F.length<64∧s.size≤64∧(gvF b F d s).2.1=F ++ [s])):=by
 unfold gvF
 by_cases h1:d=1∧b.inn.size+s.size≤1024
 ·rw [if_pos h1];exact ⟨rfl,.inl rfl⟩
 rw [if_neg h1]
 by_cases h2:d=2∧0<s.size∧s.size≤64∧F.length<64
 ·rw [if_pos h2];exact ⟨rfl,.inr ⟨h2.2.2.2,h2.2.2.1,rfl⟩⟩
 rw [if_neg h2];exact ⟨rfl,.inl rfl⟩
structure SOk (v:Mc) (p:Pt):Prop where
 ok:VOk v p
 inn:v.b.inn.size≤1024
theorem zha {v:Mc} {p:Pt} (K:SOk v p) (i:Inp):SOk (gvM v p i).1 (gvM v p i).2:=by
 obtain ⟨⟨h,b,k,c⟩,hi⟩:=K;obtain ⟨e,f⟩:=zjy v.b p.F i.dev i.s;have hin:=ztA v.b p.F i.dev i.s hi;unfold gvM;generalize gvF v.b p.F i.dev i.s=g at e f hin ⊢;obtain ⟨gb,gF,gx⟩:=g;simp only at e f hin ⊢;rw [e];refine ⟨⟨h,⟨b.cmp,b.nicL⟩,⟨⟨k.bd.addr,k.bd.nicA,k.bd.sector⟩,k.c,?_,?_,k.dl,k.ml⟩,c⟩,hin⟩
 ·rcases f with rfl | ⟨_,h2,rfl⟩
  ·exact k.fz
  ·intro x hx
   rcases List.mem_append.1 hx with hx | hx
   ·exact k.fz x hx
   ·rw [List.mem_singleton.1 hx];omega
 ·have kf:=k.fl
  rcases f with rfl | ⟨h1,_,rfl⟩
  ·exact kf
  ·simp only [List.length_append,List.length_cons,List.length_nil];omega
theorem zg6 {v:Mc} {p:Pt} (K:SOk v p) (n:Nat):SOk (rnM n v p).1 (rnM n v p).2 :=
 ⟨zjD K.ok n,Nat.le_trans (zkG (s:=(v,p,p.O)) K.ok n) K.inn⟩
noncomputable def spM:List Inp→Mc→Pt→Mc × Pt
 | [],v,p=>(v,p)
 | i :: L,v,p=>spM L (gvM (rnM i.gap.toNat v p).1 (rnM i.gap.toNat v p).2 i).1 (gvM (rnM i.gap.toNat v p).1 (rnM i.gap.toNat v p).2 i).2
theorem zl9 (A B:List Inp) (v:Mc) (p:Pt):spM (A ++ B) v p=spM B (spM A v p).1 (spM A v p).2:=by
 induction A generalizing v p with
 | nil=>rfl
 | cons i A ih=>exact ih _ _
theorem zyS (L:List Inp) (j:Nat) (hj:j<L.length) (v:Mc) (p:Pt):spM (L.take (j+1)) v p=gvM (rnM L[j].gap.toNat (spM (L.take j) v p).1 (spM (L.take j) v p).2).1 (rnM L[j].gap.toNat (spM (L.take j) v p).1 (spM (L.take j) v p).2).2 L[j]:=by
 rw [List.take_add_one,List.getElem?_eq_getElem hj,zl9];rfl
theorem zth (L:List Inp) {v:Mc} {p:Pt} (K:SOk v p):SOk (spM L v p).1 (spM L v p).2:=by
 induction L generalizing v p with
 | nil=>exact K
 | cons i L ih=>exact ih (zha (zg6 K i.gap.toNat) i)
theorem zfj {i:Inp} (h:inpB i=true):1≤i.gap∧i.gap≤64:=by
 unfold inpB at h;simp only [Bool.and_eq_true,decide_eq_true_eq] at h;exact ⟨h.1.1.1.1,h.1.1.1.2⟩
theorem ziw (L:List Inp) {v:Mc} {p:Pt} (K:SOk v p) (hL:∀ i∈L,inpB i=true):(spM L v p).2.O.length≤p.O.length+64*L.length:=by
 induction L generalizing v p with
 | nil=>exact Nat.le_refl _
 | cons i L ih =>
  have h1:=ih (zha (zg6 K i.gap.toNat) i) fun x hx=>hL x (by simp [hx])
  have h2:(rnN i.gap.toNat (v,p,p.O)).2.2.length≤p.O.length+i.gap.toNat:=zf5 (s:=(v,p,p.O)) K.ok i.gap.toNat;have h3:=zfj (hL i (by simp));have h4:(gvM (rnM i.gap.toNat v p).1 (rnM i.gap.toNat v p).2 i).2.O.length=(rnN i.gap.toNat (v,p,p.O)).2.2.length:=rfl;show (spM L _ _).2.O.length≤_
  rw [h4] at h1;rw [List.length_cons];omega
def newV:Mc:=⟨awH,bdN,.slice none 0 0,.slice none 0 0,0,0,0,.slice none 0 0⟩
noncomputable def newP (n:Nat) (s:ByteArray):Pt:=⟨[],spl (List.replicate (n*256) 0) 0 s,List.replicate n 0,[]⟩
theorem zqU (dv mv:Value):Same newV (za7 dv mv):=⟨fun _ _ _ _ _ _=>rfl⟩
theorem zhq (n:Nat) (s:ByteArray) (h2:n≤256) (hs:s.size≤n*256):SOk newV (newP n s):=by
 have hl:(spl (List.replicate (n*256) (0:UInt8)) 0 s).length=n*256:=by rw [ze7 _ _ _ (by rw [List.length_replicate];omega),List.length_replicate]
 refine ⟨⟨zxp,⟨(show (0:Int)≤18446744073709551615∧(18446744073709551615:Int)≤18446744073709551615 by decide),Al.zao⟩,⟨⟨zhB,zhB,zhB⟩,⟨Int.le_refl 0,(show (0:Int)<4294967296 by decide)⟩,fun f hf=>(by cases hf),Nat.zero_le _,?_,?_⟩,Al.zao⟩,Nat.zero_le _⟩
 ·show (spl _ 0 s).length≤_;rw [hl];omega
 ·show (List.replicate n (0:Int)).length≤_;rw [List.length_replicate];omega
end Go.Proofs.YtplcfdnfeclpmaaGreatDoor
namespace Go.Proofs.YtplcfdnfeclpmaaGreatDoor
def inL (i:Inp):List Value:=[.int .u64 i.id,.int .i64 i.gap,.int .i64 i.dev,.string i.s]
def inR (L:List Inp):List Value:=(L.map inL).flatten
theorem zhJ (L:List Inp):(inR L).length=L.length*4:=by
 induction L with
 | nil=>rfl
 | cons a L ih =>
  have e:inR (a :: L)=inL a ++ inR L:=by unfold inR;simp
  rw [e,List.length_append,ih]
  simp [inL]
  omega
theorem zhH (L:List Inp):∀ (k:Nat) (hk:k<L.length) (j:Nat),j<4→(inR L)[4*k+j]?=(inL L[k])[j]?:=by
 induction L with
 | nil=>intro k hk;cases hk
 | cons r L ih =>
  intro k hk j hj;have e:inR (r :: L)=inL r ++ inR L:=by unfold inR;simp
  rw [e];cases k with
  | zero =>
   rw [List.getElem?_append_left (by simp [inL];omega)]
   simp
  | succ k =>
   rw [List.getElem?_append_right (by simp [inL];omega)];rw [show 4*(k+1)+j - (inL r).length=4*k+j by simp [inL];omega,ih k (by simpa using hk) j hj]
   simp
theorem zrF (L:List Inp) (k:Nat):inR (L.take k)=(inR L).take (4*k):=by
 induction L generalizing k with
 | nil=>simp [inR]
 | cons a L ih =>
  cases k with
  | zero=>simp [inR]
  | succ k =>
   have e:inR (a :: L)=inL a ++ inR L:=by unfold inR;simp
   have e2:inR (a :: L.take k)=inL a ++ inR (L.take k):=by unfold inR;simp
   have l:(inL a).length=4:=rfl;rw [List.take_succ_cons,e,e2,ih,List.take_append,l,List.take_of_length_le (l:=inL a) (by rw [l];omega),show 4*(k+1) - 4=4*k by omega]
theorem zix:(Tryz.prog.info? 63).map (·.size)=some 4:=by kernel_rfl
def InAt (w:World) (v:Value) (L:List Inp):Prop:=zbb w v 4 L.length (inR L)
theorem InAt.next {w w':World} {v:Value} {L:List Inp} (h:InAt w v L) (hb:Below w.heap.size w w'):InAt w' v L:=h.below hb
theorem InAt.is {w:World} {v:Value} {L:List Inp} (h:InAt w v L):∃ q c,v=.slice q L.length c∧(L.length≤c)∧(q=none→L.length=0∧c=0):=by
 rcases h.2 with ⟨h1,h2⟩ | ⟨a,cap,hv,h1,_⟩
 ·have:L.length=0:=by have:=h.1;rw [h2] at this;simp at this;omega
  exact ⟨none,0,by rw [h1,this],by omega,fun _=>⟨this,rfl⟩⟩
 ·exact ⟨some a,cap,hv,h1,fun e=>by cases e⟩
theorem InAt.take {w:World} {q:Option Addr} {c k:Nat} {L:List Inp} (h:InAt w (.slice q L.length c) L) (hk:k≤L.length):InAt w (.slice q k c) (L.take k):=by
 have hl:(L.take k).length=k:=by rw [List.length_take];omega
 refine ⟨zhJ _,?_⟩
 rw [hl];rcases h.2 with ⟨h1,h2⟩ | ⟨a,cap,hv,h1,h3,hc⟩
 ·have h0:L.length=0:=by have:=h.1;rw [h2] at this;simp at this;omega
  obtain rfl:L=[]:=List.eq_nil_of_length_eq_zero h0;have:k=0:=by simpa using hk
  subst this;refine .inl ⟨?_,?_⟩
  ·exact h1
  ·rfl
 ·refine .inr ⟨a,cap,by simp only [Value.slice.injEq] at hv ⊢;exact ⟨hv.1,trivial,hv.2.2⟩,by omega,h3,fun j u hu=>hc j u ?_⟩
  rw [zrF,List.getElem?_take] at hu
  split at hu
  ·exact hu
  ·cases hu
theorem zl5 (t n:Nat) (w:World) (k:(Tryz.prog.info? t).map (·.size)=some n):(sizeOf t).run Tryz.prog w=.ok n w:=by
 cases hq:Tryz.prog.info? t with
 | none=>rw [hq] at k;cases k
 | some i=>rw [hq] at k;simp at k;simp [sizeOf,typeInfo,hq,k]
theorem zzS {P:Program} (w:World) (g k ty:Nat) (part:List Value) (d:TypeDesc)
  (hu:P.underlying ty=some d) (hd:(match d with | .struct _ | .array _ _=>true | _=>false)=true) (hi:(P.info? ty).map (·.size)=some part.length) (hp:∀ j v,part[j]?=some v→w.cell? ⟨g,k+j,none⟩=some v) :
  (Instr.loadAt ty (.pointer (some ⟨g,k,none⟩))).run P w=.ok (.agg part.toArray) w:=by
 have hl:(loadCells ⟨g,k,none⟩ part.length).run P w=.ok part.toArray w :=
  run_loadCells_list (P:=P) w ⟨g,k,none⟩ part (fun j v hv=>by rw [zdE];exact hp j v hv)
 cases hq:P.info? ty with
 | none=>simp [hq] at hi
 | some i =>
  have hs:i.size=part.length:=by simpa [hq] using hi
  have hagg:(isAgg ty).run P w=.ok true w:=by
   unfold isAgg;rw [Sem.run_bind,run_underlying hu w];cases d <;> simp_all
  simp [Instr.loadAt,Instr.sureAddr,loadVar,Sem.run_bind,hagg,sizeOf,typeInfo,hq,hs,hl,Result.andThen]
theorem InAt.elem {w:World} {q:Option Addr} {c:Nat} {L:List Inp} (h:InAt w (.slice q L.length c) L) {j:Nat} (hj:j<L.length):∃ g off,q=some ⟨g,off,none⟩∧(Instr.loadAt 63 (.pointer (some ⟨g,off+j*4,none⟩))).run Tryz.prog w=.ok (inpV L[j]) w:=by
 obtain ⟨g,off,cap,e,_,_,hg,hc⟩:=zbb.at h (by omega);simp only [Value.slice.injEq] at e;refine ⟨g,off,e.1,zzS w g (off+j*4) 63 (inL L[j]) _ underlying63 rfl zix fun i v hv=>?_⟩
 have hi:i<4:=by have:=(List.getElem?_eq_some_iff.1 hv).1;simpa [inL] using this
 have k:=hc (4*j+i) v (by rw [zhH L j hj i hi];exact hv);rw [show off+j*4+i=off+(4*j+i) by omega];exact k
theorem zhc {w:World} {g:Nat} {i:Inp} (h:w.heap[g]?=some (.cells (inpC i) 63 (0,0))):(Instr.loadAt 63 (.pointer (some ⟨g,0,none⟩))).run Tryz.prog w=.ok (inpV i) w:=by
 simp only [Instr.loadAt,Instr.sureAddr,Sem.run_bind,Sem.run_pure,Result.andThen];exact run_loadVar_row w g 63 63 _ (0,0) _ h underlying63 rfl (by kernel_rfl)
theorem zne {w:World} {g:Nat} {cs:Array Value} (i:Inp) (h:w.heap[g]?=some (.cells cs 63 (0,0))) (hs:cs.size=4):(Instr.storeAt 63 (.pointer (some ⟨g,0,none⟩)) (inpV i)).run Tryz.prog w=.ok () (w.setRow g (inpC i)):=by
 simp only [Instr.storeAt,Instr.sureAddr,Sem.run_bind,Sem.run_pure,Result.andThen];exact run_storeVar_row w g 63 63 cs (inpC i) h (by kernel_rfl) (by rw [hs];rfl) (by simp [Value.oneCell'])
def regZ:Reg:=⟨0,0,0,0,0,0,0,0,0,0,0,0,0,0,0,0⟩
def zyv:Hart:=⟨List.replicate 32 0,rfl,0,0,regZ,false,0⟩
def mcZ:Mc:=⟨zyv,bdZ,.slice none 0 0,.slice none 0 0,0,0,0,.slice none 0 0⟩
end Go.Proofs.YtplcfdnfeclpmaaGreatDoor
namespace Go.Proofs.YtplcfdnfeclpmaaGreatDoor
theorem zhX {P:Program} {ρ:Operand→Value} {o:Oper} {t:TypeId} {cells:Array Value} {w:World} (ho:o.op=.build t #[]) (h:P.built t []=some cells):(execOp ρ o).run P w=.ok (.value (.agg cells)) w:=by
 simp [execOp,ho,run_build w t #[] cells h,Result.andThen]
theorem zh6:Tryz.prog.built 42 []=some (mcC mcZ):=by kernel_rfl
theorem zft:Mc1 mcZ:=⟨rfl,rfl,rfl⟩
theorem zki (n:Int) (s:ByteArray) (W:World) (k:Int) (hk:k≠0) (C:∀ w,TB 55 #[.int .i64 n,.string s] w (.tuple #[.agg #[.slice none 0 0,.slice none 0 0,.int .u64 0],.int .i64 k])) :
  TB 31 #[.string s,.int .i64 n] W (.tuple #[mcV mcZ,.int .i64 k]):=by
 have C1:=hid C;have hb:(k != 0)=true:=by rw [bne_iff_ne];exact hk
 clear C;go_enter func31,ntmps31;go_upto_region 1 with (fail);have G1:=hid (show (W.alloc (.cells zeroCells42 42)).heap[W.heap.size]?=some (.cells zeroCells42 42 (0,0)) from heap_alloc_last W _);have BA:=hid (zah W (.cells zeroCells42 42));generalize W.alloc (.cells zeroCells42 42)=wa at G1 BA ⊢;go_upto_region 2 with (go_at_call 55;(with_reducible refine (C1.out _).mono ?_);rintro e wb ⟨rfl,kk⟩;have G2:=hid ((kk.block _ (Array.getElem?_eq_some_iff.1 G1.out).1).trans G1.out);have B2:=hid (zac BA.out kk);clear kk);have G3:=hid (((zah wb (.cells #[.slice none 0 0,.slice none 0 0,.int .u64 0] 39)).block _ (Array.getElem?_eq_some_iff.1 G2.out).1).trans G2.out);have B3:=hid (zac B2.out (zah wb (.cells #[.slice none 0 0,.slice none 0 0,.int .u64 0] 39)));generalize wb.heap.size=gr at *;generalize wb.alloc (.cells #[.slice none 0 0,.slice none 0 0,.int .u64 0] 39)=wc at G3 B3 ⊢;go_wp2_with (first | ((with_reducible show wpList _ _ _ (⟨some 17,Op.build 42 _,_,_,_,_⟩ :: _) _ _);refine zeL (by kernel_rfl) (zhX rfl zh6) ?_;simp only [Act.put,List.setIfInBounds_toArray,List.set_cons_zero,List.set_cons_succ]) | (with_reducible refine zam rfl rfl (MBox.store mcZ zft G3.out (by kernel_rfl)) rfl rfl ?_));refine bodyPost_ret (v:=.tuple #[mcV mcZ,.int .i64 k]) (zfd results31 _ _ W.heap.size _ _ rfl (setRow_heap wc W.heap.size _ _ 42 (0,0) G3.out) rfl) rfl ⟨rfl,below_setRow B3.out (Nat.le_refl _) _⟩
theorem zml (n:Int) (s:ByteArray) (W:World) (h:¬ (1≤n∧n≤256∧(s.size:Int)≤n*256)):∃ k:Int,k≠0∧TB 31 #[.string s,.int .i64 n] W (.tuple #[mcV mcZ,.int .i64 k]):=by
 by_cases h1:1≤n∧n≤256
 ·exact ⟨2,by decide,zki n s W 2 (by decide) fun w=>ztk n s w h1.1 h1.2 (by omega)⟩
 ·exact ⟨50,by decide,zki n s W 50 (by decide) fun w=>zt5 n s w h1⟩
end Go.Proofs.YtplcfdnfeclpmaaGreatDoor
namespace Go.Proofs.YtplcfdnfeclpmaaGreatDoor
theorem MBox.load_ram' {w:World} {g:Nat} {m:Mc} {dv mv:Value} {E:Int} (k:MBox w g m) (e1:m.dv=dv) (e2:m.mv=mv) (e3:m.E=E):(Instr.loadAt 39 (.pointer (some ⟨g,73,none⟩))).run Tryz.prog w=.ok (.agg #[dv,mv,.int .u64 E]) w:=by subst e1 e2 e3;exact k.load_ram
theorem zwn (w:World) (q:Option Addr) (c:Nat) (O:List Rec) (hr:zbb w (.slice q O.length c) 3 O.length (oC O)) (hO:O.length*32≤140737488355328) :
  ∃ p cap w',(Builtin.append_ #[40,40] 40 #[.slice none 0 0,.slice q O.length c]).run Tryz.prog w=.ok (.slice p O.length cap) w'∧w'.ownsRow w.heap.size 65 3 (.slice p O.length cap) O.length (oC O)∧Below w.heap.size w w':=by
 obtain ⟨i,hi,hz,hs,hb⟩:=zfZ;have hown:w.ownsRow w.heap.size 65 3 (.slice none 0 0) 0 []:=World.ownsRow_nil w _ _ _;have hl:=hr.1;rcases hr.2 with ⟨e1,e2⟩ | ⟨a,c2,e1,_,_,hc⟩
 ·simp only [Value.slice.injEq] at e1
  obtain ⟨rfl,_,rfl⟩:=e1;obtain rfl:O=[]:=List.eq_nil_of_length_eq_zero e2;exact ⟨_,_,w,run_append_owned_none (P:=Tryz.prog) w w.heap.size 40 40 65 i 3 underlying40 hi _ 0 [] hown,hown,Below.refl _ _⟩
 ·simp only [Value.slice.injEq,true_and] at e1
  obtain ⟨rfl,rfl⟩:=e1;obtain ⟨v',w',hrun,ho,hgr,_⟩:=run_append_own (P:=Tryz.prog) w w.heap.size 40 40 65 i (.agg rcZ) 3 32 underlying40 hi hz hs hb rfl (by omega) _ 0 [] hown a O.length c (oC O) hl hc (zmL O) (by unfold maxLen;omega) (by omega) (Nat.le_refl _);rw [Nat.zero_add,List.nil_append] at ho;obtain ⟨p,cap,rfl⟩:=zb7 ho;exact ⟨p,cap,w',hrun,ho,zkn hgr⟩
theorem zqe (m:Mc) (p:Pt) (W:World) (K:MR W m p) (hF:p.F.length≤8796093022208) (hD:p.D.length≤140737488351232) (hM:p.M.length≤17592186043904) (hO:p.O.length*32≤140737488355328):Calls Tryz.prog 32 #[mcV m] W fun e W' =>
  ∃ q c dv mv ov,e=.returned (mcV { m with b:=m.b.at q p.F.length c,dv:=dv,mv:=mv,ov:=ov })∧FT W' W.heap.size (.slice q p.F.length c) p.F∧OwnD W' W.heap.size dv p.D∧OwnM W' W.heap.size mv p.M∧W'.ownsRow W.heap.size 65 3 ov p.O.length (oC p.O)∧Below W.heap.size W W':=by
 obtain ⟨qo,co,hov⟩:=K.o.is;have C1:=hid (fun W' (h:Below W.heap.size W W')=>zf4 m.dv m.mv m.E p.D p.M W' (K.next h).d (K.next h).mm hD hM);have C2:=hid (fun W' (h:Below W.heap.size W W')=>zaU m.b p.F W' (K.next h).fr hF);have C3:=hid (fun W' (h:Below W.heap.size W W')=>zwn W' qo co p.O (hov ▸ (K.next h).o) hO);have HV:=hid hov;clear K hF hD hM hO hov;go_enter func32,ntmps32;go_upto_region 1 with (fail);have X:=hid (Mem.two (W:=W) (mcC m) zeroCells42);generalize (W.alloc (Obj.cells (mcC m) 42)).alloc (Obj.cells zeroCells42 42)=wa at X ⊢;go_upto_region 2 with (first | (with_reducible refine zaa rfl rfl (MBox.load_b' (b:=m.b) X.out.m1 rfl) rfl ?_) | (go_at_call 57;(with_reducible refine (C2.out _ X.out.below).mono ?_);rintro e wd ⟨q,c,rfl,hf,kk⟩;have XB:=X.out.below.size;have X:=hid ((X.out.next kk).addrow hf XB (by decide));clear kk hf XB) | (with_reducible refine zam rfl rfl (MBox.store_b X.out.m1 (m.b.at q p.F.length c)) rfl rfl ?_));have X:=hid (X.out.p1 (cs':=mcC { m with b:=m.b.at q p.F.length c }) rfl);generalize wd.setRow W.heap.size (mcC { m with b:=m.b.at q p.F.length c })=wc at X ⊢
 go_upto_region 3 with (first | (with_reducible refine zaa rfl rfl (MBox.load_ram' (dv:=m.dv) (mv:=m.mv) (E:=m.E) X.out.m1 rfl rfl rfl) rfl ?_) | (go_at_call 58;(with_reducible refine (C1.out _ X.out.below).mono ?_);rintro e wb ⟨dv,mv,rfl,hd,hm,kk⟩;obtain ⟨p2,c2,rfl⟩:=zb7 hd;obtain ⟨q2,d2,rfl⟩:=zb7 hm;have XB:=X.out.below.size;have X:=hid (((X.out.next kk).addrow hd XB (by decide)).addrow hm XB (by decide));clear kk hd hm XB) | (with_reducible refine zam rfl rfl (MBox.store_ram X.out.m1 p2 q2 p.D.length c2 p.M.length d2 m.E) rfl rfl ?_));have X:=hid (X.out.p1 (cs':=mcC { m with b:=m.b.at q p.F.length c,dv:=.slice p2 p.D.length c2,mv:=.slice q2 p.M.length d2 }) rfl);generalize wb.setRow W.heap.size _=we at X ⊢;generalize hm5:({ m with b:=m.b.at q p.F.length c,dv:=.slice p2 p.D.length c2,mv:=.slice q2 p.M.length d2 }:Mc)=m5 at X;have hov:m5.ov=.slice qo p.O.length co:=by rw [← hm5];exact HV.out
 obtain ⟨p4,c4,w4,hrun,ho,hb⟩:=C3.out we X.out.below;have HR:=hid hrun;have X4:=hid (X.out.next hb);have HO:=hid (zdn ho X.out.below.size);have HV5:=hid hov;have HM:=hid hm5;clear hrun ho hb hov hm5;go_upto_region 4 with (first | (with_reducible refine zaa rfl rfl (MBox.load_o' X.out.m1 HV5.out) rfl ?_) | (at_builtin;(refine zf8 rfl _ _ 40 rfl _ _ _ rfl rfl _ HR.out ?_)) | (with_reducible refine zam rfl rfl (MBox.store_o X4.out.m1 p4 p.O.length c4) rfl rfl ?_));have X5:=hid (X4.out.p1 (cs':=mcC { m5 with ov:=.slice p4 p.O.length c4 }) rfl);have HO:=hid (zbd HO.out X4.out.g1 (by decide) (mcC { m5 with ov:=.slice p4 p.O.length c4 }));generalize hm6:({ m5 with ov:=.slice p4 p.O.length c4 }:Mc)=m6 at X5 HO ⊢;generalize w4.setRow W.heap.size (mcC m6)=w5 at X5 HO ⊢;have h1:Mc1 m6:=by subst hm6;rw [← HM.out];exact ⟨rfl,rfl,rfl⟩
 have HN:=hid h1;have HM6:=hid hm6;clear X X4 h1 hm6 C1 C2 C3;go_wp2_with (with_reducible first | refine zaa rfl rfl (MBox.load X5.out.m1) rfl ?_ | refine zam rfl rfl (MBox.store m6 HN.out X5.out.g0 (by kernel_rfl)) rfl rfl ?_);have X6:=hid (X5.out.p0 (cs':=mcC m6) rfl);have HO:=hid (zbd HO.out X5.out.g0 (by decide) (mcC m6));generalize w5.setRow (W.heap.size+1) (mcC m6)=w6 at X6 HO ⊢;refine bodyPost_ret (v:=mcV m6) (results_cell_row results32 _ _ (W.heap.size+1) 42 (mcC m6) (0,0) _ rfl X6.out.g0 underlying42 rfl (by rw [zge,zcv])) rfl ⟨q,c,.slice p2 p.D.length c2,.slice q2 p.M.length d2,.slice p4 p.O.length c4,?_,FT.of X6.out.r2,X6.out.r1,X6.out.r0,HO.out,X6.out.below⟩
 rw [← HM6.out,← HM.out]
def zfq (m:Int):Bool:=m==0 || m==1 || m==3
theorem ze9 (m:Int) (W:World):TW 29 #[.int .i64 m] W (.bool (zfq m)):=by
 by_cases h0:m=0
 ·subst h0
  go_enter func29,ntmps29
  go_wp2
  go_ret;exact ⟨rfl,rfl⟩
 by_cases h1:m=1
 ·subst h1
  go_enter func29,ntmps29
  go_wp2
  go_ret;exact ⟨rfl,rfl⟩
 by_cases h3:m=3
 ·subst h3
  go_enter func29,ntmps29
  go_wp2
  go_ret;exact ⟨rfl,rfl⟩
 have g0:(m==0)=false:=by rw [beq_eq_false_iff_ne];exact h0
 have g1:(m==1)=false:=by rw [beq_eq_false_iff_ne];exact h1
 have g3:(m==3)=false:=by rw [beq_eq_false_iff_ne];exact h3
 have HE:=hid (show zfq m=false by unfold zfq;rw [g0,g1,g3];rfl);go_enter func29,ntmps29
 go_wp2
 go_ret;exact ⟨zaX HE.out.symm,rfl⟩
def x0V (h:Hart):Int:=h.x.headD 0
theorem zvC (h:Hart):(zap h)[0]?=some (.int .u64 (x0V h)):=by
 rw [zkN h 0 (by omega)];unfold xL x0V;have:=h.hx;cases hh:h.x with
 | nil=>rw [hh] at this;cases this
 | cons a l=>rfl
def zdd (h:Hart):Bool:=(x0V h==0) && (bits .and .u64 h.pc 1==0) && zfq h.mode && Cs.zax h.c && (h.held || h.rat==0)
end Go.Proofs.YtplcfdnfeclpmaaGreatDoor
namespace Go.Proofs.YtplcfdnfeclpmaaGreatDoor
def chkB (n:Nat) (M:List Int) (E:Int):Bool:=decide (1≤M.length∧M.length≤256∧n=M.length*256) && M.all fun m=>decide (m≤E)
def chkV (n:Nat) (M:List Int) (E:Int):Int:=if chkB n M E then 0 else 50
theorem zqO {n:Nat} {M:List Int} {E:Int} (j:Nat) (hj:j<M.length) (h:E<M[j]):chkV n M E=50:=by
 have:(M.all fun m=>decide (m≤E))=false:=by
  rw [List.all_eq_false];exact ⟨M[j],List.getElem_mem _,by simp;omega⟩
 unfold chkV chkB;rw [this];simp
theorem zrU {n:Nat} {M:List Int} {E:Int} (h:1≤M.length∧M.length≤256∧n=M.length*256) (h2:∀ j (hj:j<M.length),M[j]≤E):chkV n M E=0:=by
 have:(M.all fun m=>decide (m≤E))=true:=by
  rw [List.all_eq_true];intro m hm;obtain ⟨j,hj,rfl⟩:=List.getElem_of_mem hm;exact decide_eq_true (h2 j hj)
 unfold chkV chkB;rw [this];simp [h]
theorem zm1 (p:Option Addr) (n cap:Nat) (mv:Value) (E:Int) (M:List Int) (w:World) (hm:MAt w mv M) (h:1≤M.length∧M.length≤256∧n=M.length*256) :
  TB 34 #[.agg #[.slice p n cap,mv,.int .u64 E]] w (.int .i64 (chkV n M E)):=by
 obtain ⟨b,off,cap2,rfl,_,_,hb,hc⟩:=hm.cell (by omega);have hc1:=hc;have h1:¬ (M.length<1):=by omega
 have h2:¬ (256<M.length):=by omega
 have h3:((n:Int) != (M.length:Int)*256)=false:=by rw [bne_eq_false_iff_eq];omega
 have HH:=hid h;have HC:=hid hc;clear h hc hc1 hm;go_enter func34,ntmps34;go_wp2_with fail
 go_loop [26] (fun i=>∃ j:Nat,j≤M.length∧i=.int .i64 j∧Hid (∀ k (hk:k<M.length),k<j→M[k]≤E)) (fun i=>M.length - (intOf i).toNat)
 case atStart=>exact ⟨0,Nat.zero_le _,rfl,hid (fun k _ hk=>absurd hk (Nat.not_lt_zero _))⟩
 case round =>
  obtain ⟨j,hj,rfl,hall⟩:=hrel
  by_cases hlt:j<M.length
  ·have hc1:=(zah w (.cells #[.slice p n cap,.slice (some ⟨b,off,none⟩) M.length cap2,.int .u64 E] 39)).cell (p:=⟨b,off+j,none⟩) hb
   rw [HC.out j hlt] at hc1;have c1:=hc1;clear hc1;have HN:=hid (fun h=>zqO (n:=n) (M:=M) (E:=E) j hlt h)
   have HS:=hid (show M[j]≤E→∀ k (hk:k<M.length),k<j+1→M[k]≤E from fun h k hk hkj=>by
    by_cases e:k<j
    ·exact hall.out k hk e
    ·obtain rfl:k=j:=by omega
     exact h)
   generalize M[j]=X at *
   by_cases hx:E<X
   ·go_wp2_with fail
    go_ret;exact ⟨zal (HN.out hx).symm,zah w _⟩
   ·go_wp2_with fail
    go_round
    case rel=>exact ⟨j+1,by omega,by go_num,hid (HS.out (by omega))⟩
    case measure=>simp [intOf];omega
  ·go_wp2_with fail
   go_ret;exact ⟨zal (zrU HH.out (fun k hk=>hall.out k hk (by omega))).symm,zah w _⟩
end Go.Proofs.YtplcfdnfeclpmaaGreatDoor
namespace Go.Proofs.YtplcfdnfeclpmaaGreatDoor.Pc
theorem zeC (x:Int) (W:World):TW 60 #[.int .u32 x] W (.bool (zbk x)):=by
 go_enter func60,ntmps60
 go_wp2
 go_ret;exact ⟨rfl,rfl⟩
end Go.Proofs.YtplcfdnfeclpmaaGreatDoor.Pc
namespace Go.Proofs.YtplcfdnfeclpmaaGreatDoor.Pc
def prV (h:Pl):Nat→Int
 | 0=>h.p0
 | 1=>h.p1
 | 2=>h.p2
 | _=>h.p3
def lvV (h:Pl):Nat→Int
 | 0=>h.l0
 | _=>h.l1
def enV (h:Pl):Nat→Int
 | 0=>h.e0
 | _=>h.e1
def zbg (h:Pl):Bool:=decide (h.p0≤7) && decide (h.p1≤7) && decide (h.p2≤7) && decide (h.p3≤7) && (decide (h.l0≤7) && zbk h.e0) && (decide (h.l1≤7) && zbk h.e1) && (h.p0==0 && zbk h.c)
theorem zfC (h:Pl):zbg h=true ↔ (h.p0≤7∧h.p1≤7∧h.p2≤7∧h.p3≤7)∧(h.l0≤7∧zbk h.e0=true)∧(h.l1≤7∧zbk h.e1=true)∧h.p0=0∧zbk h.c=true:=by
 unfold zbg;simp only [Bool.and_eq_true,decide_eq_true_eq,beq_iff_eq,and_assoc]
theorem zhY (h:Pl) (hn:¬ ((h.p0≤7∧h.p1≤7∧h.p2≤7∧h.p3≤7)∧(h.l0≤7∧zbk h.e0=true)∧(h.l1≤7∧zbk h.e1=true)∧h.p0=0∧zbk h.c=true)):zbg h=false:=by
 cases e:zbg h with
 | false=>rfl
 | true=>exact absurd ((zfC h).1 e) hn
theorem zgj (h:Pl) (k:Nat) (hk:k<4) (hp:7<prV h k):zbg h=false:=by
 refine zhY h fun a=>?_
 match k,hk,hp with
 | 0,_,hp=>have:=a.1.1;simp only [prV] at hp;omega
 | 1,_,hp=>have:=a.1.2.1;simp only [prV] at hp;omega
 | 2,_,hp=>have:=a.1.2.2.1;simp only [prV] at hp;omega
 | 3,_,hp=>have:=a.1.2.2.2;simp only [prV] at hp;omega
theorem zf7 (h:Pl) (k:Nat) (hk:k<2) (hp:7<lvV h k∨zbk (enV h k)=false):zbg h=false:=by
 refine zhY h fun a=>?_
 match k,hk,hp with
 | 0,_,hp =>
  have h1:=a.2.1.1;have h2:=a.2.1.2;simp only [lvV,enV] at hp;rcases hp with hp | hp
  ·omega
  ·rw [h2] at hp;cases hp
 | 1,_,hp =>
  have h1:=a.2.2.1.1;have h2:=a.2.2.1.2;simp only [lvV,enV] at hp;rcases hp with hp | hp
  ·omega
  ·rw [h2] at hp;cases hp
theorem zcp (h:Pl) (W:World):TB 36 #[plV h] W (.bool (zbg h)):=by
 have m_p0:(plC h)[0]?=some (.int .u32 h.p0):=zcA h 0;have m_e0:(plC h)[4]?=some (.int .u32 h.e0):=zcA h 4;have m_e1:(plC h)[5]?=some (.int .u32 h.e1):=zcA h 5;have m_c:(plC h)[8]?=some (.int .u32 h.c):=zcA h 8;have i0:∀ w:World,(Instr.index 30 (.agg #[.int .u32 h.p0,.int .u32 h.p1,.int .u32 h.p2,.int .u32 h.p3]) (.int .i64 0)).run Tryz.prog w=.ok (.int .u32 h.p0) w:=fun _=>by kernel_rfl
 have i1:∀ w:World,(Instr.index 30 (.agg #[.int .u32 h.p0,.int .u32 h.p1,.int .u32 h.p2,.int .u32 h.p3]) (.int .i64 1)).run Tryz.prog w=.ok (.int .u32 h.p1) w:=fun _=>by kernel_rfl
 have i2:∀ w:World,(Instr.index 30 (.agg #[.int .u32 h.p0,.int .u32 h.p1,.int .u32 h.p2,.int .u32 h.p3]) (.int .i64 2)).run Tryz.prog w=.ok (.int .u32 h.p2) w:=fun _=>by kernel_rfl
 have i3:∀ w:World,(Instr.index 30 (.agg #[.int .u32 h.p0,.int .u32 h.p1,.int .u32 h.p2,.int .u32 h.p3]) (.int .i64 3)).run Tryz.prog w=.ok (.int .u32 h.p3) w:=fun _=>by kernel_rfl
 have j0:∀ w:World,(Instr.index 31 (.agg #[.int .u32 h.l0,.int .u32 h.l1]) (.int .i64 0)).run Tryz.prog w=.ok (.int .u32 h.l0) w:=fun _=>by kernel_rfl
 have j1:∀ w:World,(Instr.index 31 (.agg #[.int .u32 h.l0,.int .u32 h.l1]) (.int .i64 1)).run Tryz.prog w=.ok (.int .u32 h.l1) w:=fun _=>by kernel_rfl
 go_enter func36,ntmps36;go_wp2_with (with_reducible refine zaa rfl rfl (Box.load_prio (Box.new W h)) rfl ?_)
 go_loop [9] (fun i=>∃ k:Nat,k≤4∧i=.int .i64 k∧Hid (∀ j,j<k→prV h j≤7)) (fun i=>4 - (intOf i).toNat)
 case atStart=>exact ⟨0,by omega,rfl,hid fun j hj=>absurd hj (by omega)⟩
 case round =>
  obtain ⟨k,hk,rfl,HN⟩:=hrel
  match k,hk,HN with
  | 0,_,HN =>
   by_cases hp:h.p0≤7
   ·have HS:Hid (∀ j,j<1→prV h j≤7):=hid fun j hj=>by
     by_cases e:j=0
     ·subst e;exact hp
     ·exact HN.out j (by omega)
    go_wp2_with fail
    go_round
    case rel=>exact ⟨1,by omega,rfl,HS⟩
    case measure=>simp [intOf]
   ·have HE:=hid (zgj h 0 (by omega) (show 7<h.p0 by omega))
    have hp7:7<h.p0:=by omega
    go_wp2_with fail;go_ret;exact ⟨zaX HE.out.symm,(Below.refl _ _).alloc (Nat.le_refl _) _⟩
  | 1,_,HN =>
   by_cases hp:h.p1≤7
   ·have HS:Hid (∀ j,j<2→prV h j≤7):=hid fun j hj=>by
     by_cases e:j=1
     ·subst e;exact hp
     ·exact HN.out j (by omega)
    go_wp2_with fail
    go_round
    case rel=>exact ⟨2,by omega,rfl,HS⟩
    case measure=>simp [intOf]
   ·have HE:=hid (zgj h 1 (by omega) (show 7<h.p1 by omega))
    have hp7:7<h.p1:=by omega
    go_wp2_with fail;go_ret;exact ⟨zaX HE.out.symm,(Below.refl _ _).alloc (Nat.le_refl _) _⟩
  | 2,_,HN =>
   by_cases hp:h.p2≤7
   ·have HS:Hid (∀ j,j<3→prV h j≤7):=hid fun j hj=>by
     by_cases e:j=2
     ·subst e;exact hp
     ·exact HN.out j (by omega)
    go_wp2_with fail
    go_round
    case rel=>exact ⟨3,by omega,rfl,HS⟩
    case measure=>simp [intOf]
   ·have HE:=hid (zgj h 2 (by omega) (show 7<h.p2 by omega))
    have hp7:7<h.p2:=by omega
    go_wp2_with fail;go_ret;exact ⟨zaX HE.out.symm,(Below.refl _ _).alloc (Nat.le_refl _) _⟩
  | 3,_,HN =>
   by_cases hp:h.p3≤7
   ·have HS:Hid (∀ j,j<4→prV h j≤7):=hid fun j hj=>by
     by_cases e:j=3
     ·subst e;exact hp
     ·exact HN.out j (by omega)
    go_wp2_with fail
    go_round
    case rel=>exact ⟨4,by omega,rfl,HS⟩
    case measure=>simp [intOf]
   ·have HE:=hid (zgj h 3 (by omega) (show 7<h.p3 by omega))
    have hp7:7<h.p3:=by omega
    go_wp2_with fail;go_ret;exact ⟨zaX HE.out.symm,(Below.refl _ _).alloc (Nat.le_refl _) _⟩
  | 4,_,HN =>
   have HP:=hid (HN.out);clear HN;go_wp2_with (with_reducible refine zaa rfl rfl (Box.load_level (Box.new W h)) rfl ?_)
   go_loop [17] (fun i=>∃ m:Nat,m≤2∧i=.int .i64 m∧Hid (∀ j,j<m→lvV h j≤7∧zbk (enV h j)=true)) (fun i=>2 - (intOf i).toNat)
   case atStart=>exact ⟨0,by omega,rfl,hid fun j hj=>absurd hj (by omega)⟩
   case round =>
    obtain ⟨m,hm,rfl,HN⟩:=hrel
    match m,hm,HN with
    | 0,_,HN =>
     by_cases hp:h.l0≤7
     ·rcases Bool.eq_false_or_eq_true (zbk h.e0) with ho | ho
      ·have HS:Hid (∀ j,j<1→lvV h j≤7∧zbk (enV h j)=true):=hid fun j hj=>by
        by_cases e:j=0
        ·subst e;exact ⟨hp,ho⟩
        ·exact HN.out j (by omega)
       go_wp2_with (go_at_call 60;(with_reducible refine (zeC _ _).mono ?_);rintro e w' ⟨he,rfl⟩;rw [ho] at he;subst he)
       go_round
       case rel=>exact ⟨1,by omega,rfl,HS⟩
       case measure=>simp [intOf]
      ·have HE:=hid (zf7 h 0 (by omega) (.inr ho))
       go_wp2_with (go_at_call 60;(with_reducible refine (zeC _ _).mono ?_);rintro e w' ⟨he,rfl⟩;rw [ho] at he;subst he);go_ret;exact ⟨zaX HE.out.symm,(Below.refl _ _).alloc (Nat.le_refl _) _⟩
     ·have HE:=hid (zf7 h 0 (by omega) (.inl (show 7<h.l0 by omega)))
      have hp7:7<h.l0:=by omega
      go_wp2_with fail;go_ret;exact ⟨zaX HE.out.symm,(Below.refl _ _).alloc (Nat.le_refl _) _⟩
    | 1,_,HN =>
     by_cases hp:h.l1≤7
     ·rcases Bool.eq_false_or_eq_true (zbk h.e1) with ho | ho
      ·have HS:Hid (∀ j,j<2→lvV h j≤7∧zbk (enV h j)=true):=hid fun j hj=>by
        by_cases e:j=1
        ·subst e;exact ⟨hp,ho⟩
        ·exact HN.out j (by omega)
       go_wp2_with (go_at_call 60;(with_reducible refine (zeC _ _).mono ?_);rintro e w' ⟨he,rfl⟩;rw [ho] at he;subst he)
       go_round
       case rel=>exact ⟨2,by omega,rfl,HS⟩
       case measure=>simp [intOf]
      ·have HE:=hid (zf7 h 1 (by omega) (.inr ho))
       go_wp2_with (go_at_call 60;(with_reducible refine (zeC _ _).mono ?_);rintro e w' ⟨he,rfl⟩;rw [ho] at he;subst he);go_ret;exact ⟨zaX HE.out.symm,(Below.refl _ _).alloc (Nat.le_refl _) _⟩
     ·have HE:=hid (zf7 h 1 (by omega) (.inl (show 7<h.l1 by omega)))
      have hp7:7<h.l1:=by omega
      go_wp2_with fail;go_ret;exact ⟨zaX HE.out.symm,(Below.refl _ _).alloc (Nat.le_refl _) _⟩
    | 2,_,HN =>
     rcases Bool.eq_false_or_eq_true (h.p0==0) with h0 | h0
     ·have HE:Hid (zbg h=zbk h.c):=hid (by
       have a0:=HP.out 0 (by omega);have a1:=HP.out 1 (by omega);have a2:=HP.out 2 (by omega);have a3:=HP.out 3 (by omega);have b0:=HN.out 0 (by omega);have b1:=HN.out 1 (by omega);simp only [prV] at a0 a1 a2 a3;simp only [lvV,enV] at b0 b1;unfold zbg;rw [h0,b0.2,b1.2,decide_eq_true a0,decide_eq_true a1,decide_eq_true a2,decide_eq_true a3,decide_eq_true b0.1,decide_eq_true b1.1];rfl)
      go_wp2_with (go_at_call 60;with_reducible refine (zeC _ _).tq ?_);go_ret;exact ⟨zaX HE.out.symm,(Below.refl _ _).alloc (Nat.le_refl _) _⟩
     ·have HE:Hid (zbg h=false):=hid (zhY h fun a=>by rw [a.2.2.2.1] at h0;cases h0)
      go_wp2_with fail;go_ret;exact ⟨zaX HE.out.symm,(Below.refl _ _).alloc (Nat.le_refl _) _⟩
end Go.Proofs.YtplcfdnfeclpmaaGreatDoor.Pc
namespace Go.Proofs.YtplcfdnfeclpmaaGreatDoor
def chkM (m:Mc) (p:Pt):Int:=if chkB p.D.length p.M m.E=false then 50 else if (zdd m.h && zax m.b p.F && Pc.zbg m.b.pl)=true then 0 else 170
end Go.Proofs.YtplcfdnfeclpmaaGreatDoor
