/- MachineAhead,part 43. -/
import Derived.Test.YtplcfdnfeclpmaaGreatDoorY06
import Derived.Test.YtplcfdnfeclpmaaGreatDoorY16
import Derived.Test.YtplcfdnfeclpmaaGreatDoorY23
import Derived.Test.YtplcfdnfeclpmaaGreatDoorY25
import Derived.Test.YtplcfdnfeclpmaaGreatDoorY30
import Derived.Test.YtplcfdnfeclpmaaGreatDoorY31
import Derived.Test.YtplcfdnfeclpmaaGreatDoorY42
set_option maxHeartbeats 4000000
set_option maxRecDepth 100000
open Go.Lib (hid)
namespace Go.Proofs.YtplcfdnfeclpmaaGreatDoor
open Go.RowKit Go.Deep Go.Joins
def za3 (dv mv:Value):Mc:=⟨awH,bdN,dv,mv,0,0,0,.slice none 0 0⟩
theorem zsV (dv mv:Value):Tryz.prog.built 42 [(0,zat awH),(1,bdV bdN),(2,.agg #[dv,mv,.int .u64 0])]=some (mcC (za3 dv mv)):=by kernel_rfl
theorem zsr {P:Program} {ρ:Operand→Value} {o:Oper} {t:TypeId} {i j k:Nat} {x y z:Operand} {vx vy vz:Value} {cells:Array Value} {w:World} (ho:o.op=.build t #[(i,x),(j,y),(k,z)]) (hx:ρ x=vx) (hy:ρ y=vy) (hz:ρ z=vz) (h:P.built t [(i,vx),(j,vy),(k,vz)]=some cells):(execOp ρ o).run P w=.ok (.value (.agg cells)) w:=by
 simp [execOp,ho,hx,hy,hz,run_build w t #[(i,vx),(j,vy),(k,vz)] cells h,Result.andThen]
theorem zeX {fn:Func} {p u:Tmp} (h:fn.results=#[.cell p 42,.tmp u]) (tmps:Array Value) (w:World) (g:Nat) (m:Mc) (v:Value) (hp:tmps.getD p undef=.pointer (some ⟨g,0,none⟩)) (hg:MBox w g m) (hv:tmps.getD u undef=v) :
  (results fn tmps).run Tryz.prog w=.ok (.tuple #[mcV m,v]) w:=by
 have hp':tmps[p]?.getD undef=.pointer (some ⟨g,0,none⟩):=by simpa using hp
 have hv':tmps[u]?.getD undef=v:=by simpa using hv
 have hl:(loadVar 42 ⟨g,0,none⟩).run Tryz.prog w=.ok (mcV m) w:=run_loadVar_row w g 42 42 (mcC m) (0,0) _ hg Tryz.underlying42 rfl (by rw [zgs,zcm])
 simp [results,h,hp',hv',asAddr,hl]
def NewM (W:World) (D:List UInt8) (M:List Int) (e:Ending) (W':World):Prop :=
 ∃ dv mv,e=.returned (.tuple #[mcV (za3 dv mv),.int .i64 0])∧OwnD W' W.heap.size dv D∧OwnM W' W.heap.size mv M∧Below W.heap.size W W'
theorem zit (n:Nat) (s:ByteArray) (W:World) (h1:1≤n) (h2:n≤256) (hsz:s.size≤n*256):Calls Tryz.prog 31 #[.string s,.int .i64 n] W (NewM W (spl (List.replicate (n*256) 0) 0 s) (List.replicate n 0)):=by
 have C1:=hid (fun w=>znp n s w h1 h2 hsz)
 generalize spl (List.replicate (n*256) 0) 0 s=D at C1 ⊢
 generalize List.replicate n (0:Int)=M at C1 ⊢
 go_enter Tryz.func31,Tryz.ntmps31
 go_upto_region 1 with (fail)
 have X:=hid ((Mem.start W).newM)
 generalize W.alloc mcZO=wa at X ⊢
 go_upto_region 2 with (first | (go_at_call 55;(with_reducible refine (C1.out _).mono ?_);rintro e wb ⟨dv,mv,rfl,hD,hM,kk⟩;have BX:=X.out.below.size;obtain ⟨p1,c1,e1⟩:=zbX hD;obtain ⟨p2,c2,e2⟩:=zbX hM;subst e1;subst e2;have HD:=hid (zdd hD BX);have HM:=hid (zdd hM BX);have X:=hid (X.out.next kk);clear kk hD hM BX) | (with_reducible refine zam rfl rfl (zcb (heap_alloc_last _ _) (by kernel_rfl)) rfl rfl ?_) | fail)
 have X:=hid ((X.out.newR).p0 (cs':=(ramC (.slice p1 D.length c1) (.slice p2 M.length c2) 0)) rfl)
 have HD:=hid (show OwnD ((wb.alloc zbM).setRow wb.heap.size (ramC (.slice p1 D.length c1) (.slice p2 M.length c2) 0)) W.heap.size (.slice p1 D.length c1) D from zbc (zbH HD.out (zaf wb zbM)) (heap_alloc_last wb zbM) (by decide) (ramC (.slice p1 D.length c1) (.slice p2 M.length c2) 0))
 have HM:=hid (show OwnM ((wb.alloc zbM).setRow wb.heap.size (ramC (.slice p1 D.length c1) (.slice p2 M.length c2) 0)) W.heap.size (.slice p2 M.length c2) M from zbc (zbH HM.out (zaf wb zbM)) (heap_alloc_last wb zbM) (by decide) (ramC (.slice p1 D.length c1) (.slice p2 M.length c2) 0))
 generalize wb.heap.size=gr at X HD HM ⊢
 generalize (wb.alloc zbM).setRow gr (ramC (.slice p1 D.length c1) (.slice p2 M.length c2) 0)=wc at X HD HM ⊢
 have H1:=hid (Mc1.mk (m:=za3 (.slice p1 D.length c1) (.slice p2 M.length c2)) (zc9 HD.out) (zc9 HM.out) rfl)
 go_upto_region 5 with (first | ((with_reducible show wpList _ _ _ (⟨some 19,Op.build 27 _,_,_,_,_⟩ :: _) _ _);refine zei (by kernel_rfl) (zsq rfl rfl rfl ztb) ?_;simp only [Act.put,List.setIfInBounds_toArray,List.set_cons_zero,List.set_cons_succ]) | (with_reducible refine zam rfl rfl (Tr.zaU _ _ _ awH (heap_alloc_last _ _) (by kernel_rfl)) rfl rfl ?_) | fail)
 have bb:Below wc.heap.size wc ((wc.alloc Tr.zah).setRow wc.heap.size (zao awH)):=below_setRow (zaf wc Tr.zah) (Nat.le_refl _) _
 have gh1:((wc.alloc Tr.zah).setRow wc.heap.size (zao awH)).heap[wc.heap.size]?=some (.cells (zao awH) 27 (0,0)):=setRow_heap _ wc.heap.size _ (zao awH) 27 (0,0) (heap_alloc_last wc Tr.zah)
 have gr1:=(bb.block gr (Array.getElem?_eq_some_iff.1 X.out.g0).1).trans X.out.g0
 have gt1:=(bb.block W.heap.size (Array.getElem?_eq_some_iff.1 X.out.g1).1).trans X.out.g1
 have G:=hid (And.intro (zbH HD.out bb) (And.intro (zbH HM.out bb) (zac X.out.below bb)))
 have ne1:wc.heap.size≠W.heap.size:=fun e=>by have:=(Array.getElem?_eq_some_iff.1 X.out.g1).1;omega
 have ne2:gr≠W.heap.size:=fun e=>by
  have h:=X.out.g0
  rw [e,X.out.g1] at h
  simp only [Option.some.injEq,Obj.cells.injEq] at h
  exact absurd h.2.1 (by decide)
 have NE:=hid (And.intro ne1 ne2)
 clear X HD HM bb ne1 ne2
 generalize wc.heap.size=gh at gh1 gr1 gt1 G NE ⊢
 generalize (wc.alloc Tr.zah).setRow gh (zao awH)=wd at gh1 gr1 gt1 G ⊢
 have GT:=hid gt1
 refine dr (fun w=>w.heap[gh]?=some (.cells (zao awH) 27 (0,0))∧w.heap[gr]?=some (.cells (ramC (.slice p1 D.length c1) (.slice p2 M.length c2) 0) 39 (0,0))) fun wz hzz=>?_
 have hS:wz.heap[gh]?=some (.cells (zao awH) 27 (0,0))∧wz.heap[gr]?=some (.cells (ramC (.slice p1 D.length c1) (.slice p2 M.length c2) 0) 39 (0,0)):=⟨(hzz.block gh (Array.getElem?_eq_some_iff.1 gh1).1).trans gh1,(hzz.block gr (Array.getElem?_eq_some_iff.1 gr1).1).trans gr1⟩
 have BZ:=hid (show Below wd.heap.size wd wz from hzz)
 clear hzz gh1 gr1 gt1
 refine tl 0 hS (fun w hw=>Tr.Box.load hw.1) ?_
 refine tl 2 hS (fun w hw=>zsF hw.2) ?_
 refine hc 1 (zbq (zqU wz)) ?_
 rintro v' we ⟨rfl,kk⟩
 have BE:=hid (zac BZ.out kk)
 refine ⟨⟨(kk.block gh (Array.getElem?_eq_some_iff.1 hS.1).1).trans hS.1,(kk.block gr (Array.getElem?_eq_some_iff.1 hS.2).1).trans hS.2⟩,fun hS2=>?_⟩
 clear kk hS
 simp only [puts]
 refine tk 3 hS2 ?_ (hy:=.inl ⟨by kernel_rfl,fun w _=>zsr rfl rfl rfl rfl (zsV (.slice p1 D.length c1) (.slice p2 M.length c2))⟩)
 refine hs 4 (MBox.store (za3 (.slice p1 D.length c1) (.slice p2 M.length c2)) H1.out ((BE.out.block _ (Array.getElem?_eq_some_iff.1 GT.out).1).trans GT.out) (by kernel_rfl)) fun wy hw=>?_
 refine ⟨⟨by rw [hw,setRow_other we _ _ _ NE.out.1];exact hS2.1,by rw [hw,setRow_other we _ _ _ NE.out.2];exact hS2.2⟩,fun hS3=>?_⟩
 refine tk 5 hS3 ?_
 refine wpAnyH_done (by kernel_rfl) ?_ _
 have KB:MBox wy W.heap.size (za3 (.slice p1 D.length c1) (.slice p2 M.length c2)):=by
  rw [hw]
  exact setRow_heap we W.heap.size _ _ 42 (0,0) ((BE.out.block _ (Array.getElem?_eq_some_iff.1 GT.out).1).trans GT.out)
 have R:=hid (show OwnD wy W.heap.size (.slice p1 D.length c1) D∧OwnM wy W.heap.size (.slice p2 M.length c2) M∧Below W.heap.size W wy from by
  obtain ⟨g1,g2,g3⟩:=G.out
  have hq:=((BE.out.block _ (Array.getElem?_eq_some_iff.1 GT.out).1).trans GT.out)
  rw [hw]
  exact ⟨zbc (zbH g1 BE.out) hq (by decide) _,zbc (zbH g2 BE.out) hq (by decide) _,below_setRow (zac g3 BE.out) (Nat.le_refl _) _⟩)
 have HK:=hid KB
 clear hw hS2 hS3 KB
 go_wp2_with fail
 refine bodyPost_ret (v:=.tuple #[mcV (za3 (.slice p1 D.length c1) (.slice p2 M.length c2)),.int .i64 0]) (zeX Tryz.results31 _ _ W.heap.size _ _ rfl HK.out rfl) rfl ?_
 exact ⟨_,_,rfl,R.out⟩
set_option maxRecDepth 100000
theorem zws (b:Bd) (F:List ByteArray) (d:Int) (s:ByteArray):(gvF b F d s).1={ b with inn:=(gvF b F d s).1.inn }∧((gvF b F d s).2.1=F∨(F.length<64∧s.size≤64∧(gvF b F d s).2.1=F ++ [s])):=by
 unfold gvF
 by_cases h1:d=1∧b.inn.size+s.size≤1024
 ·rw [if_pos h1];exact ⟨rfl,.inl rfl⟩
 rw [if_neg h1]
 by_cases h2:d=2∧0<s.size∧s.size≤64∧F.length<64
 ·rw [if_pos h2];exact ⟨rfl,.inr ⟨h2.2.2.2,h2.2.2.1,rfl⟩⟩
 rw [if_neg h2];exact ⟨rfl,.inl rfl⟩
structure SOk (v:Mc) (p:Pt):Prop where
 ok:VOk v p
 inn:v.b.inn.size≤1024
theorem zhC {v:Mc} {p:Pt} (K:SOk v p) (i:Inp):SOk (gvM v p i).1 (gvM v p i).2:=by
 obtain ⟨⟨h,b,k,c⟩,hi⟩:=K
 obtain ⟨e,f⟩:=zws v.b p.F i.dev i.s
 have hin:=zpa v.b p.F i.dev i.s hi
 unfold gvM
 generalize gvF v.b p.F i.dev i.s=g at e f hin ⊢
 obtain ⟨gb,gF,gx⟩:=g
 simp only at e f hin ⊢
 rw [e]
 refine ⟨⟨h,⟨b.cmp,b.nicL⟩,⟨⟨k.bd.addr,k.bd.nicA,k.bd.sector⟩,k.c,?_,?_,k.dl,k.ml⟩,c⟩,hin⟩
 ·rcases f with rfl | ⟨_,h2,rfl⟩
  ·exact k.fz
  ·intro x hx
   rcases List.mem_append.1 hx with hx | hx
   ·exact k.fz x hx
   ·rw [List.mem_singleton.1 hx];omega
 ·have kf:=k.fl
  rcases f with rfl | ⟨h1,_,rfl⟩
  ·exact kf
  ·simp only [List.length_append,List.length_cons,List.length_nil];omega
theorem zg3 {v:Mc} {p:Pt} (K:SOk v p) (n:Nat):SOk (rnM n v p).1 (rnM n v p).2 :=
 ⟨zhG K.ok n,Nat.le_trans (zjN (s:=(v,p,p.O)) K.ok n) K.inn⟩
noncomputable def spM:List Inp→Mc→Pt→Mc × Pt
 | [],v,p=>(v,p)
 | i :: L,v,p=>spM L (gvM (rnM i.gap.toNat v p).1 (rnM i.gap.toNat v p).2 i).1 (gvM (rnM i.gap.toNat v p).1 (rnM i.gap.toNat v p).2 i).2
theorem zik (A B:List Inp) (v:Mc) (p:Pt):spM (A ++ B) v p=spM B (spM A v p).1 (spM A v p).2:=by
 induction A generalizing v p with
 | nil=>rfl
 | cons i A ih=>exact ih _ _
theorem zrK (L:List Inp) (j:Nat) (hj:j<L.length) (v:Mc) (p:Pt):spM (L.take (j+1)) v p=gvM (rnM L[j].gap.toNat (spM (L.take j) v p).1 (spM (L.take j) v p).2).1 (rnM L[j].gap.toNat (spM (L.take j) v p).1 (spM (L.take j) v p).2).2 L[j]:=by
 rw [List.take_add_one,List.getElem?_eq_getElem hj,zik]
 rfl
theorem zoN (L:List Inp) {v:Mc} {p:Pt} (K:SOk v p):SOk (spM L v p).1 (spM L v p).2:=by
 induction L generalizing v p with
 | nil=>exact K
 | cons i L ih=>exact ih (zhC (zg3 K i.gap.toNat) i)
theorem zol (n:Nat) (s:Mc × Pt × List Rec):∃ X,(rnN n s).2.2=s.2.2 ++ X:=by
 induction n with
 | zero=>exact ⟨[],(List.append_nil _).symm⟩
 | succ n ih =>
  obtain ⟨X,h⟩:=ih
  refine ⟨X ++ (hsM (rnN n s).1 { (rnN n s).2.1 with O:=[] }).2.O,?_⟩
  show (rnN n s).2.2 ++ _=_
  rw [h,List.append_assoc]
theorem zn3 (L:List Inp) (v:Mc) (p:Pt):∃ X,(spM L v p).2.O=p.O ++ X:=by
 induction L generalizing v p with
 | nil=>exact ⟨[],(List.append_nil _).symm⟩
 | cons i L ih =>
  obtain ⟨X,h⟩:=ih (gvM (rnM i.gap.toNat v p).1 (rnM i.gap.toNat v p).2 i).1 (gvM (rnM i.gap.toNat v p).1 (rnM i.gap.toNat v p).2 i).2
  obtain ⟨Y,h2⟩:=zol i.gap.toNat (v,p,p.O)
  exact ⟨Y ++ X,by show (spM L _ _).2.O=_;rw [h];show (rnN i.gap.toNat (v,p,p.O)).2.2 ++ X=_;rw [h2,List.append_assoc]⟩
theorem zsz (L:List Inp) (k:Nat) (v:Mc) (p:Pt):∃ X,(spM L v p).2.O=(spM (L.take k) v p).2.O ++ X:=by
 obtain ⟨X,h⟩:=zn3 (L.drop k) (spM (L.take k) v p).1 (spM (L.take k) v p).2
 refine ⟨X,?_⟩
 rw [← h,← zik,List.take_append_drop]
theorem zjG {i:Inp} (h:inpB i=true):1≤i.gap∧i.gap≤64:=by
 unfold inpB at h
 simp only [Bool.and_eq_true,decide_eq_true_eq] at h
 exact ⟨h.1.1.1.1,h.1.1.1.2⟩
theorem zoy (L:List Inp) {v:Mc} {p:Pt} (K:SOk v p) (hL:∀ i∈L,inpB i=true):(spM L v p).2.O.length≤p.O.length+64*L.length:=by
 induction L generalizing v p with
 | nil=>exact Nat.le_refl _
 | cons i L ih =>
  have h1:=ih (zhC (zg3 K i.gap.toNat) i) fun x hx=>hL x (by simp [hx])
  have h2:(rnN i.gap.toNat (v,p,p.O)).2.2.length≤p.O.length+i.gap.toNat:=zhi (s:=(v,p,p.O)) K.ok i.gap.toNat
  have h3:=zjG (hL i (by simp))
  have h4:(gvM (rnM i.gap.toNat v p).1 (rnM i.gap.toNat v p).2 i).2.O.length=(rnN i.gap.toNat (v,p,p.O)).2.2.length:=rfl
  show (spM L _ _).2.O.length≤_
  rw [h4] at h1
  rw [List.length_cons]
  omega
def newV:Mc:=⟨awH,bdN,.slice none 0 0,.slice none 0 0,0,0,0,.slice none 0 0⟩
noncomputable def newP (n:Nat) (s:ByteArray):Pt:=⟨[],spl (List.replicate (n*256) 0) 0 s,List.replicate n 0,[]⟩
theorem zxj (dv mv:Value):Same newV (za3 dv mv):=⟨fun _ _ _ _ _ _=>rfl⟩
theorem zi2 (n:Nat) (s:ByteArray) (h2:n≤256) (hs:s.size≤n*256):SOk newV (newP n s):=by
 have hl:(spl (List.replicate (n*256) (0:UInt8)) 0 s).length=n*256:=by rw [zeC _ _ _ (by rw [List.length_replicate];omega),List.length_replicate]
 refine ⟨⟨ztY,⟨(show (0:Int)≤18446744073709551615∧(18446744073709551615:Int)≤18446744073709551615 by decide),Al.zaq⟩,⟨⟨zg4,zg4,zg4⟩,⟨Int.le_refl 0,(show (0:Int)<4294967296 by decide)⟩,fun f hf=>(by cases hf),Nat.zero_le _,?_,?_⟩,Al.zaq⟩,Nat.zero_le _⟩
 ·show (spl _ 0 s).length≤_;rw [hl];omega
 ·show (List.replicate n (0:Int)).length≤_;rw [List.length_replicate];omega
end Go.Proofs.YtplcfdnfeclpmaaGreatDoor
namespace Go.Proofs.YtplcfdnfeclpmaaGreatDoor
open Go.RowKit Go.Deep Go.Joins
set_option maxRecDepth 100000
def inL (i:Inp):List Value:=[.int .u64 i.id,.int .i64 i.gap,.int .i64 i.dev,.string i.s]
def inR (L:List Inp):List Value:=(L.map inL).flatten
theorem zhd (L:List Inp):(inR L).length=L.length*4:=by
 induction L with
 | nil=>rfl
 | cons a L ih =>
  have e:inR (a :: L)=inL a ++ inR L:=by unfold inR;simp
  rw [e,List.length_append,ih]
  simp [inL]
  omega
theorem zir (L:List Inp):∀ (k:Nat) (hk:k<L.length) (j:Nat),j<4→(inR L)[4*k+j]?=(inL L[k])[j]?:=by
 induction L with
 | nil=>intro k hk;cases hk
 | cons r L ih =>
  intro k hk j hj
  have e:inR (r :: L)=inL r ++ inR L:=by unfold inR;simp
  rw [e]
  cases k with
  | zero =>
   rw [List.getElem?_append_left (by simp [inL];omega)]
   simp
  | succ k =>
   rw [List.getElem?_append_right (by simp [inL];omega)]
   rw [show 4*(k+1)+j - (inL r).length=4*k+j by simp [inL];omega,ih k (by simpa using hk) j hj]
   simp
theorem zmJ (L:List Inp) (k:Nat):inR (L.take k)=(inR L).take (4*k):=by
 induction L generalizing k with
 | nil=>simp [inR]
 | cons a L ih =>
  cases k with
  | zero=>simp [inR]
  | succ k =>
   have e:inR (a :: L)=inL a ++ inR L:=by unfold inR;simp
   have e2:inR (a :: L.take k)=inL a ++ inR (L.take k):=by unfold inR;simp
   have l:(inL a).length=4:=rfl
   rw [List.take_succ_cons,e,e2,ih,List.take_append,l,List.take_of_length_le (l:=inL a) (by rw [l];omega),show 4*(k+1) - 4=4*k by omega]
theorem ziU:(Tryz.prog.info? 63).map (·.size)=some 4:=by kernel_rfl
def InAt (w:World) (v:Value) (L:List Inp):Prop:=zaY w v 4 L.length (inR L)
theorem InAt.next {w w':World} {v:Value} {L:List Inp} (h:InAt w v L) (hb:Below w.heap.size w w'):InAt w' v L:=h.below hb
theorem InAt.is {w:World} {v:Value} {L:List Inp} (h:InAt w v L):∃ q c,v=.slice q L.length c∧(L.length≤c)∧(q=none→L.length=0∧c=0):=by
 rcases h.2 with ⟨h1,h2⟩ | ⟨a,cap,hv,h1,_⟩
 ·have:L.length=0:=by have:=h.1;rw [h2] at this;simp at this;omega
  exact ⟨none,0,by rw [h1,this],by omega,fun _=>⟨this,rfl⟩⟩
 ·exact ⟨some a,cap,hv,h1,fun e=>by cases e⟩
theorem InAt.take {w:World} {q:Option Addr} {c k:Nat} {L:List Inp} (h:InAt w (.slice q L.length c) L) (hk:k≤L.length):InAt w (.slice q k c) (L.take k):=by
 have hl:(L.take k).length=k:=by rw [List.length_take];omega
 refine ⟨zhd _,?_⟩
 rw [hl]
 rcases h.2 with ⟨h1,h2⟩ | ⟨a,cap,hv,h1,h3,hc⟩
 ·have h0:L.length=0:=by have:=h.1;rw [h2] at this;simp at this;omega
  obtain rfl:L=[]:=List.eq_nil_of_length_eq_zero h0
  have:k=0:=by simpa using hk
  subst this
  refine .inl ⟨?_,?_⟩
  ·exact h1
  ·rfl
 ·refine .inr ⟨a,cap,by simp only [Value.slice.injEq] at hv ⊢;exact ⟨hv.1,trivial,hv.2.2⟩,by omega,h3,fun j u hu=>hc j u ?_⟩
  rw [zmJ,List.getElem?_take] at hu
  split at hu
  ·exact hu
  ·cases hu
theorem zhb (t n:Nat) (w:World) (k:(Tryz.prog.info? t).map (·.size)=some n):(sizeOf t).run Tryz.prog w=.ok n w:=by
 cases hq:Tryz.prog.info? t with
 | none=>rw [hq] at k;cases k
 | some i=>rw [hq] at k;simp at k;simp [sizeOf,typeInfo,hq,k]
theorem zhx {P:Program} (w:World) (g k ty:Nat) (part:List Value) (d:TypeDesc)
  (hu:P.underlying ty=some d) (hd:(match d with | .struct _ | .array _ _=>true | _=>false)=true) (hi:(P.info? ty).map (·.size)=some part.length) (hp:∀ j v,part[j]?=some v→w.cell? ⟨g,k+j,none⟩=some v) :
  (Instr.loadAt ty (.pointer (some ⟨g,k,none⟩))).run P w=.ok (.agg part.toArray) w:=by
 have hl:(loadCells ⟨g,k,none⟩ part.length).run P w=.ok part.toArray w :=
  run_loadCells_list (P:=P) w ⟨g,k,none⟩ part (fun j v hv=>by rw [zdh];exact hp j v hv)
 cases hq:P.info? ty with
 | none=>simp [hq] at hi
 | some i =>
  have hs:i.size=part.length:=by simpa [hq] using hi
  have hagg:(isAgg ty).run P w=.ok true w:=by
   unfold isAgg
   rw [Sem.run_bind,run_underlying hu w]
   cases d <;> simp_all
  simp [Instr.loadAt,Instr.sureAddr,loadVar,Sem.run_bind,hagg,sizeOf,typeInfo,hq,hs,hl,Result.andThen]
theorem InAt.elem {w:World} {q:Option Addr} {c:Nat} {L:List Inp} (h:InAt w (.slice q L.length c) L) {j:Nat} (hj:j<L.length):∃ g off,q=some ⟨g,off,none⟩∧(Instr.loadAt 63 (.pointer (some ⟨g,off+j*4,none⟩))).run Tryz.prog w=.ok (inpV L[j]) w:=by
 obtain ⟨g,off,cap,e,_,_,hg,hc⟩:=zaY.at h (by omega)
 simp only [Value.slice.injEq] at e
 refine ⟨g,off,e.1,zhx w g (off+j*4) 63 (inL L[j]) _ Tryz.underlying63 rfl ziU fun i v hv=>?_⟩
 have hi:i<4:=by have:=(List.getElem?_eq_some_iff.1 hv).1;simpa [inL] using this
 have k:=hc (4*j+i) v (by rw [zir L j hj i hi];exact hv)
 rw [show off+j*4+i=off+(4*j+i) by omega]
 exact k
theorem zgE {w:World} {g:Nat} {i:Inp} (h:w.heap[g]?=some (.cells (inpC i) 63 (0,0))):(Instr.loadAt 63 (.pointer (some ⟨g,0,none⟩))).run Tryz.prog w=.ok (inpV i) w:=by
 simp only [Instr.loadAt,Instr.sureAddr,Sem.run_bind,Sem.run_pure,Result.andThen]
 exact run_loadVar_row w g 63 63 _ (0,0) _ h Tryz.underlying63 rfl (by kernel_rfl)
theorem ztr {w:World} {g:Nat} {cs:Array Value} (i:Inp) (h:w.heap[g]?=some (.cells cs 63 (0,0))) (hs:cs.size=4):(Instr.storeAt 63 (.pointer (some ⟨g,0,none⟩)) (inpV i)).run Tryz.prog w=.ok () (w.setRow g (inpC i)):=by
 simp only [Instr.storeAt,Instr.sureAddr,Sem.run_bind,Sem.run_pure,Result.andThen]
 exact run_storeVar_row w g 63 63 cs (inpC i) h (by kernel_rfl) (by rw [hs];rfl) (by simp [Value.oneCell'])
def regZ:Reg:=⟨0,0,0,0,0,0,0,0,0,0,0,0,0,0,0,0⟩
def zq1:Hart:=⟨List.replicate 32 0,rfl,0,0,regZ,false,0⟩
def mcZ:Mc:=⟨zq1,bdZ,.slice none 0 0,.slice none 0 0,0,0,0,.slice none 0 0⟩
end Go.Proofs.YtplcfdnfeclpmaaGreatDoor
namespace Go.Proofs.YtplcfdnfeclpmaaGreatDoor
open Go.RowKit Go.Deep Go.Joins
set_option maxRecDepth 100000
theorem zgX {P:Program} {ρ:Operand→Value} {o:Oper} {t:TypeId} {cells:Array Value} {w:World} (ho:o.op=.build t #[]) (h:P.built t []=some cells):(execOp ρ o).run P w=.ok (.value (.agg cells)) w:=by
 simp [execOp,ho,run_build w t #[] cells h,Result.andThen]
theorem zhf:Tryz.prog.built 42 []=some (mcC mcZ):=by kernel_rfl
theorem ze8:Mc1 mcZ:=⟨rfl,rfl,rfl⟩
theorem zhJ (n:Int) (s:ByteArray) (W:World) (k:Int) (hk:k≠0) (C:∀ w,TB 55 #[.int .i64 n,.string s] w (.tuple #[.agg #[.slice none 0 0,.slice none 0 0,.int .u64 0],.int .i64 k])) :
  TB 31 #[.string s,.int .i64 n] W (.tuple #[mcV mcZ,.int .i64 k]):=by
 have C1:=hid C
 have hb:(k != 0)=true:=by rw [bne_iff_ne];exact hk
 clear C
 go_enter Tryz.func31,Tryz.ntmps31
 go_upto_region 1 with (fail)
 have G1:=hid (show (W.alloc (.cells Tryz.zeroCells42 42)).heap[W.heap.size]?=some (.cells Tryz.zeroCells42 42 (0,0)) from heap_alloc_last W _)
 have BA:=hid (zaf W (.cells Tryz.zeroCells42 42))
 generalize W.alloc (.cells Tryz.zeroCells42 42)=wa at G1 BA ⊢
 go_upto_region 2 with (first | (go_at_call 55;(with_reducible refine (C1.out _).mono ?_);rintro e wb ⟨rfl,kk⟩;have G2:=hid ((kk.block _ (Array.getElem?_eq_some_iff.1 G1.out).1).trans G1.out);have B2:=hid (zac BA.out kk);clear kk) | fail)
 have G3:=hid (((zaf wb (.cells #[.slice none 0 0,.slice none 0 0,.int .u64 0] 39)).block _ (Array.getElem?_eq_some_iff.1 G2.out).1).trans G2.out)
 have B3:=hid (zac B2.out (zaf wb (.cells #[.slice none 0 0,.slice none 0 0,.int .u64 0] 39)))
 generalize wb.heap.size=gr at *
 generalize wb.alloc (.cells #[.slice none 0 0,.slice none 0 0,.int .u64 0] 39)=wc at G3 B3 ⊢
 go_wp2_with (first | ((with_reducible show wpList _ _ _ (⟨some 17,Op.build 42 _,_,_,_,_⟩ :: _) _ _);refine zei (by kernel_rfl) (zgX rfl zhf) ?_;simp only [Act.put,List.setIfInBounds_toArray,List.set_cons_zero,List.set_cons_succ]) | (with_reducible refine zam rfl rfl (MBox.store mcZ ze8 G3.out (by kernel_rfl)) rfl rfl ?_) | fail)
 refine bodyPost_ret (v:=.tuple #[mcV mcZ,.int .i64 k]) (zeX Tryz.results31 _ _ W.heap.size _ _ rfl (setRow_heap wc W.heap.size _ _ 42 (0,0) G3.out) rfl) rfl ⟨rfl,below_setRow B3.out (Nat.le_refl _) _⟩
theorem zuZ (n:Int) (s:ByteArray) (W:World) (h:¬ (1≤n∧n≤256∧(s.size:Int)≤n*256)):∃ k:Int,k≠0∧TB 31 #[.string s,.int .i64 n] W (.tuple #[mcV mcZ,.int .i64 k]):=by
 by_cases h1:1≤n∧n≤256
 ·exact ⟨2,by decide,zhJ n s W 2 (by decide) fun w=>zvs n s w h1.1 h1.2 (by omega)⟩
 ·exact ⟨50,by decide,zhJ n s W 50 (by decide) fun w=>zuq n s w h1⟩
end Go.Proofs.YtplcfdnfeclpmaaGreatDoor
namespace Go.Proofs.YtplcfdnfeclpmaaGreatDoor
open Go.RowKit Go.Deep Go.Joins
theorem MBox.load_ram' {w:World} {g:Nat} {m:Mc} {dv mv:Value} {E:Int} (k:MBox w g m) (e1:m.dv=dv) (e2:m.mv=mv) (e3:m.E=E):(Instr.loadAt 39 (.pointer (some ⟨g,73,none⟩))).run Tryz.prog w=.ok (.agg #[dv,mv,.int .u64 E]) w:=by subst e1 e2 e3;exact k.load_ram
theorem zuG (w:World) (q:Option Addr) (c:Nat) (O:List Rec) (hr:zaY w (.slice q O.length c) 3 O.length (oC O)) (hO:O.length*32≤140737488355328) :
  ∃ p cap w',(Builtin.append_ #[40,40] 40 #[.slice none 0 0,.slice q O.length c]).run Tryz.prog w=.ok (.slice p O.length cap) w'∧w'.ownsRow w.heap.size 65 3 (.slice p O.length cap) O.length (oC O)∧Below w.heap.size w w':=by
 obtain ⟨i,hi,hz,hs,hb⟩:=ze6
 have hown:w.ownsRow w.heap.size 65 3 (.slice none 0 0) 0 []:=World.ownsRow_nil w _ _ _
 have hl:=hr.1
 rcases hr.2 with ⟨e1,e2⟩ | ⟨a,c2,e1,_,_,hc⟩
 ·simp only [Value.slice.injEq] at e1
  obtain ⟨rfl,_,rfl⟩:=e1
  obtain rfl:O=[]:=List.eq_nil_of_length_eq_zero e2
  exact ⟨_,_,w,run_append_owned_none (P:=Tryz.prog) w w.heap.size 40 40 65 i 3 Tryz.underlying40 hi _ 0 [] hown,hown,Below.refl _ _⟩
 ·simp only [Value.slice.injEq,true_and] at e1
  obtain ⟨rfl,rfl⟩:=e1
  obtain ⟨v',w',hrun,ho,hgr,_⟩:=run_append_own (P:=Tryz.prog) w w.heap.size 40 40 65 i (.agg rcZ) 3 32 Tryz.underlying40 hi hz hs hb rfl (by omega) _ 0 [] hown a O.length c (oC O) hl hc (zkZ O) (by unfold maxLen;omega) (by omega) (Nat.le_refl _)
  rw [Nat.zero_add,List.nil_append] at ho
  obtain ⟨p,cap,rfl⟩:=zbX ho
  exact ⟨p,cap,w',hrun,ho,zjI hgr⟩
theorem zuP (m:Mc) (p:Pt) (W:World) (K:MR W m p) (hF:p.F.length≤8796093022208) (hD:p.D.length≤140737488351232) (hM:p.M.length≤17592186043904) (hO:p.O.length*32≤140737488355328):Calls Tryz.prog 32 #[mcV m] W fun e W' =>
  ∃ q c dv mv ov,e=.returned (mcV { m with b:=m.b.at q p.F.length c,dv:=dv,mv:=mv,ov:=ov })∧FT W' W.heap.size (.slice q p.F.length c) p.F∧OwnD W' W.heap.size dv p.D∧OwnM W' W.heap.size mv p.M∧W'.ownsRow W.heap.size 65 3 ov p.O.length (oC p.O)∧Below W.heap.size W W':=by
 obtain ⟨qo,co,hov⟩:=K.o.is
 have C1:=hid (fun W' (h:Below W.heap.size W W')=>zfB m.dv m.mv m.E p.D p.M W' (K.next h).d (K.next h).mm hD hM)
 have C2:=hid (fun W' (h:Below W.heap.size W W')=>zaS m.b p.F W' (K.next h).fr hF)
 have C3:=hid (fun W' (h:Below W.heap.size W W')=>zuG W' qo co p.O (hov ▸ (K.next h).o) hO)
 have HV:=hid hov
 clear K hF hD hM hO hov
 go_enter Tryz.func32,Tryz.ntmps32
 go_upto_region 1 with (fail)
 have X:=hid (Mem.two (W:=W) (mcC m) Tryz.zeroCells42)
 generalize (W.alloc (Obj.cells (mcC m) 42)).alloc (Obj.cells Tryz.zeroCells42 42)=wa at X ⊢
 go_upto_region 2 with (first | (with_reducible refine zaa rfl rfl (MBox.load_b' (b:=m.b) X.out.m1 rfl) rfl ?_) | (go_at_call 57;(with_reducible refine (C2.out _ X.out.below).mono ?_);rintro e wd ⟨q,c,rfl,hf,kk⟩;have XB:=X.out.below.size;have X:=hid ((X.out.next kk).addrow hf XB (by decide));clear kk hf XB) | (with_reducible refine zam rfl rfl (MBox.store_b X.out.m1 (m.b.at q p.F.length c)) rfl rfl ?_) | fail)
 have X:=hid (X.out.p1 (cs':=mcC { m with b:=m.b.at q p.F.length c }) rfl)
 generalize wd.setRow W.heap.size (mcC { m with b:=m.b.at q p.F.length c })=wc at X ⊢
 go_upto_region 3 with (first | (with_reducible refine zaa rfl rfl (MBox.load_ram' (dv:=m.dv) (mv:=m.mv) (E:=m.E) X.out.m1 rfl rfl rfl) rfl ?_) | (go_at_call 58;(with_reducible refine (C1.out _ X.out.below).mono ?_);rintro e wb ⟨dv,mv,rfl,hd,hm,kk⟩;obtain ⟨p2,c2,rfl⟩:=zbX hd;obtain ⟨q2,d2,rfl⟩:=zbX hm;have XB:=X.out.below.size;have X:=hid (((X.out.next kk).addrow hd XB (by decide)).addrow hm XB (by decide));clear kk hd hm XB) | (with_reducible refine zam rfl rfl (MBox.store_ram X.out.m1 p2 q2 p.D.length c2 p.M.length d2 m.E) rfl rfl ?_) | fail)
 have X:=hid (X.out.p1 (cs':=mcC { m with b:=m.b.at q p.F.length c,dv:=.slice p2 p.D.length c2,mv:=.slice q2 p.M.length d2 }) rfl)
 generalize wb.setRow W.heap.size _=we at X ⊢
 generalize hm5:({ m with b:=m.b.at q p.F.length c,dv:=.slice p2 p.D.length c2,mv:=.slice q2 p.M.length d2 }:Mc)=m5 at X
 have hov:m5.ov=.slice qo p.O.length co:=by rw [← hm5];exact HV.out
 obtain ⟨p4,c4,w4,hrun,ho,hb⟩:=C3.out we X.out.below
 have HR:=hid hrun
 have X4:=hid (X.out.next hb)
 have HO:=hid (zdd ho X.out.below.size)
 have HV5:=hid hov
 have HM:=hid hm5
 clear hrun ho hb hov hm5
 go_upto_region 4 with (first | (with_reducible refine zaa rfl rfl (MBox.load_o' X.out.m1 HV5.out) rfl ?_) | (at_builtin;(refine zfU rfl _ _ 40 rfl _ _ _ rfl rfl _ HR.out ?_)) | (with_reducible refine zam rfl rfl (MBox.store_o X4.out.m1 p4 p.O.length c4) rfl rfl ?_) | fail)
 have X5:=hid (X4.out.p1 (cs':=mcC { m5 with ov:=.slice p4 p.O.length c4 }) rfl)
 have HO:=hid (zbc HO.out X4.out.g1 (by decide) (mcC { m5 with ov:=.slice p4 p.O.length c4 }))
 generalize hm6:({ m5 with ov:=.slice p4 p.O.length c4 }:Mc)=m6 at X5 HO ⊢
 generalize w4.setRow W.heap.size (mcC m6)=w5 at X5 HO ⊢
 have h1:Mc1 m6:=by subst hm6;rw [← HM.out];exact ⟨rfl,rfl,rfl⟩
 have HN:=hid h1
 have HM6:=hid hm6
 clear X X4 h1 hm6 C1 C2 C3
 go_wp2_with (first | (with_reducible first | refine zaa rfl rfl (MBox.load X5.out.m1) rfl ?_ | refine zam rfl rfl (MBox.store m6 HN.out X5.out.g0 (by kernel_rfl)) rfl rfl ?_) | fail)
 have X6:=hid (X5.out.p0 (cs':=mcC m6) rfl)
 have HO:=hid (zbc HO.out X5.out.g0 (by decide) (mcC m6))
 generalize w5.setRow (W.heap.size+1) (mcC m6)=w6 at X6 HO ⊢
 refine bodyPost_ret (v:=mcV m6) (results_cell_row Tryz.results32 _ _ (W.heap.size+1) 42 (mcC m6) (0,0) _ rfl X6.out.g0 Tryz.underlying42 rfl (by rw [zgs,zcm])) rfl ⟨q,c,.slice p2 p.D.length c2,.slice q2 p.M.length d2,.slice p4 p.O.length c4,?_,FT.of X6.out.r2,X6.out.r1,X6.out.r0,HO.out,X6.out.below⟩
 rw [← HM6.out,← HM.out]
end Go.Proofs.YtplcfdnfeclpmaaGreatDoor
namespace Go.Proofs.YtplcfdnfeclpmaaGreatDoor.Cs
open Go.RowKit Go.Deep Go.Joins
set_option maxRecDepth 100000
theorem zdY {B:Nat} {a w:World} (h:Below B a w) (n:Nat):Below B a (w.drewN n):=⟨h.os,h.tape,h.output,h.size,h.block⟩
end Go.Proofs.YtplcfdnfeclpmaaGreatDoor.Cs

namespace Go.Proofs.YtplcfdnfeclpmaaGreatDoor.Cs
open Go.RowKit Go.Deep Go.Joins
set_option maxRecDepth 100000
theorem zmv (c:Reg) (h0:(stV c.s0==c.s0)=true) (h1:((bits .andNot .u64 c.s1 46079)==0)=true) (h2:((bits .andNot .u64 c.s2 546)==0)=true) (h3:((bits .andNot .u64 c.s3 2730)==0)=true) (h4:((bits .andNot .u64 c.s4 546)==0)=true) (h5:((bits .andNot .u64 c.s5 18446744073709551613)==0)=true) (h6:((bits .andNot .u64 c.s10 18446744073709551613)==0)=true) (h7:((bits .andNot .u64 c.s7 18446744073709551614)==0)=true) (h8:((bits .andNot .u64 c.s12 18446744073709551614)==0)=true) (h9:((bits .andNot .u64 c.s15 17293840161288749055)==0)=true) (h10:(tbB c.s15)=true) (W:World):TB 30 #[regV c] W (.bool true):=by
 go_enter Tryz.func30,Tryz.ntmps30
 go_wp2_with fail
 go_quiet (first | (go_at_call 52;exact Calls.quiet_of_same ((zcA _ _).mono fun _ _ h=>And.intro h.1 h.2.symm)) | (go_at_call 53;exact Calls.quiet_of_same ((zen _ _ _).mono fun _ _ h=>And.intro h.1 h.2.symm)) | (go_at_call 54;exact Calls.quiet_of_same ((zgQ _ _).mono fun _ _ h=>And.intro h.1 h.2.symm)))
 go_wp2
 go_ret
 exact ⟨rfl,zdY ((Below.refl _ _).alloc (Nat.le_refl _) _) _⟩
end Go.Proofs.YtplcfdnfeclpmaaGreatDoor.Cs
namespace Go.Proofs.YtplcfdnfeclpmaaGreatDoor.Cs
open Go.RowKit Go.Deep Go.Joins
set_option maxRecDepth 100000
def zbP (c:Reg):Bool:=(stV c.s0==c.s0) && ((bits .andNot .u64 c.s1 46079)==0) && ((bits .andNot .u64 c.s2 546)==0) && ((bits .andNot .u64 c.s3 2730)==0) && ((bits .andNot .u64 c.s4 546)==0) && ((bits .andNot .u64 c.s5 18446744073709551613)==0) && ((bits .andNot .u64 c.s10 18446744073709551613)==0) && ((bits .andNot .u64 c.s7 18446744073709551614)==0) && ((bits .andNot .u64 c.s12 18446744073709551614)==0) && ((bits .andNot .u64 c.s15 17293840161288749055)==0) && (tbB c.s15)
end Go.Proofs.YtplcfdnfeclpmaaGreatDoor.Cs
namespace Go.Proofs.YtplcfdnfeclpmaaGreatDoor
open Go.RowKit Go.Deep Go.Joins
set_option maxRecDepth 100000
def zfu (m:Int):Bool:=m==0 || m==1 || m==3
theorem zeE (m:Int) (W:World):TW 29 #[.int .i64 m] W (.bool (zfu m)):=by
 by_cases h0:m=0
 ·subst h0
  go_enter Tryz.func29,Tryz.ntmps29
  go_wp2
  go_ret
  exact ⟨rfl,rfl⟩
 by_cases h1:m=1
 ·subst h1
  go_enter Tryz.func29,Tryz.ntmps29
  go_wp2
  go_ret
  exact ⟨rfl,rfl⟩
 by_cases h3:m=3
 ·subst h3
  go_enter Tryz.func29,Tryz.ntmps29
  go_wp2
  go_ret
  exact ⟨rfl,rfl⟩
 have g0:(m==0)=false:=by rw [beq_eq_false_iff_ne];exact h0
 have g1:(m==1)=false:=by rw [beq_eq_false_iff_ne];exact h1
 have g3:(m==3)=false:=by rw [beq_eq_false_iff_ne];exact h3
 have HE:=hid (show zfu m=false by unfold zfu;rw [g0,g1,g3];rfl)
 go_enter Tryz.func29,Tryz.ntmps29
 go_wp2
 go_ret
 exact ⟨za1 HE.out.symm,rfl⟩
def x0V (h:Hart):Int:=h.x.headD 0
theorem zmA (h:Hart):(zao h)[0]?=some (.int .u64 (x0V h)):=by
 rw [zko h 0 (by omega)]
 unfold xL x0V
 have:=h.hx
 cases hh:h.x with
 | nil=>rw [hh] at this;cases this
 | cons a l=>rfl
def zdz (h:Hart):Bool:=(x0V h==0) && (bits .and .u64 h.pc 1==0) && zfu h.mode && Cs.zbP h.c && (h.held || h.rat==0)
end Go.Proofs.YtplcfdnfeclpmaaGreatDoor
namespace Go.Proofs.YtplcfdnfeclpmaaGreatDoor
open Go.RowKit Go.Deep Go.Joins
set_option maxRecDepth 100000
def chkB (n:Nat) (M:List Int) (E:Int):Bool:=decide (1≤M.length∧M.length≤256∧n=M.length*256) && M.all fun m=>decide (m≤E)
def chkV (n:Nat) (M:List Int) (E:Int):Int:=if chkB n M E then 0 else 50
theorem zpL {n:Nat} {M:List Int} {E:Int} (j:Nat) (hj:j<M.length) (h:E<M[j]):chkV n M E=50:=by
 have:(M.all fun m=>decide (m≤E))=false:=by
  rw [List.all_eq_false]
  exact ⟨M[j],List.getElem_mem _,by simp;omega⟩
 unfold chkV chkB;rw [this];simp
theorem zv7 {n:Nat} {M:List Int} {E:Int} (h:1≤M.length∧M.length≤256∧n=M.length*256) (h2:∀ j (hj:j<M.length),M[j]≤E):chkV n M E=0:=by
 have:(M.all fun m=>decide (m≤E))=true:=by
  rw [List.all_eq_true]
  intro m hm
  obtain ⟨j,hj,rfl⟩:=List.getElem_of_mem hm
  exact decide_eq_true (h2 j hj)
 unfold chkV chkB;rw [this];simp [h]
theorem zsM (p:Option Addr) (n cap:Nat) (mv:Value) (E:Int) (M:List Int) (w:World) (hm:MAt w mv M) (h:1≤M.length∧M.length≤256∧n=M.length*256) :
  TB 34 #[.agg #[.slice p n cap,mv,.int .u64 E]] w (.int .i64 (chkV n M E)):=by
 obtain ⟨b,off,cap2,rfl,_,_,hb,hc⟩:=hm.cell (by omega)
 have hc1:=hc
 have h1:¬ (M.length<1):=by omega
 have h2:¬ (256<M.length):=by omega
 have h3:((n:Int) != (M.length:Int)*256)=false:=by rw [bne_eq_false_iff_eq];omega
 have HH:=hid h
 have HC:=hid hc
 clear h hc hc1 hm
 go_enter Tryz.func34,Tryz.ntmps34
 go_wp2_with fail
 go_loop [26] (fun i=>∃ j:Nat,j≤M.length∧i=.int .i64 j∧Hid (∀ k (hk:k<M.length),k<j→M[k]≤E)) (fun i=>M.length - (intOf i).toNat)
 case atStart=>exact ⟨0,Nat.zero_le _,rfl,hid (fun k _ hk=>absurd hk (Nat.not_lt_zero _))⟩
 case round =>
  obtain ⟨j,hj,rfl,hall⟩:=hrel
  by_cases hlt:j<M.length
  ·have hc1:=(zaf w (.cells #[.slice p n cap,.slice (some ⟨b,off,none⟩) M.length cap2,.int .u64 E] 39)).cell (p:=⟨b,off+j,none⟩) hb
   rw [HC.out j hlt] at hc1
   have c1:=hc1
   clear hc1
   have HN:=hid (fun h=>zpL (n:=n) (M:=M) (E:=E) j hlt h)
   have HS:=hid (show M[j]≤E→∀ k (hk:k<M.length),k<j+1→M[k]≤E from fun h k hk hkj=>by
    by_cases e:k<j
    ·exact hall.out k hk e
    ·obtain rfl:k=j:=by omega
     exact h)
   generalize M[j]=X at *
   by_cases hx:E<X
   ·go_wp2_with fail
    go_ret
    exact ⟨zal (HN.out hx).symm,zaf w _⟩
   ·go_wp2_with fail
    go_round
    case rel=>exact ⟨j+1,by omega,by go_num,hid (HS.out (by omega))⟩
    case measure=>simp [intOf];omega
  ·go_wp2_with fail
   go_ret
   exact ⟨zal (zv7 HH.out (fun k hk=>hall.out k hk (by omega))).symm,zaf w _⟩
end Go.Proofs.YtplcfdnfeclpmaaGreatDoor
namespace Go.Proofs.YtplcfdnfeclpmaaGreatDoor.Pc
open Go.RowKit Go.Deep Go.Joins
set_option maxRecDepth 100000
theorem zen (x:Int) (W:World):TW 60 #[.int .u32 x] W (.bool (zcf x)):=by
 go_enter Tryz.func60,Tryz.ntmps60
 go_wp2
 go_ret
 exact ⟨rfl,rfl⟩
end Go.Proofs.YtplcfdnfeclpmaaGreatDoor.Pc
