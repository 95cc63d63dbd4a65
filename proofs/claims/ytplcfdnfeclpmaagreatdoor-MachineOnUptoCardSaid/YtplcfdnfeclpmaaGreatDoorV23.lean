/- MachineOn, part 23. -/
import Derived.Below
import Derived.Deep.Draws
import Derived.Deep.WholeRow
import Derived.IntWalk
import Derived.Laws.BitsAllLaws
import Derived.Laws.Bits64b
import Derived.Laws.Closers25b
import Derived.Laws.ResultCell
import Derived.ChangeKeysEq
import Derived.Test.YtplcfdnfeclpmaaGreatDoorV01
import Derived.Test.YtplcfdnfeclpmaaGreatDoorV02
import Derived.Test.YtplcfdnfeclpmaaGreatDoorV03
import Derived.Test.YtplcfdnfeclpmaaGreatDoorV05
import Derived.Test.YtplcfdnfeclpmaaGreatDoorV07
import Derived.Test.YtplcfdnfeclpmaaGreatDoorV18
set_option maxHeartbeats 4000000
set_option maxRecDepth 100000
open Go.Lib (hid)
open Go Go.RowKit Go.Deep Go.Joins Go.Proofs.Tryz
namespace Go.Proofs.YtplcfdnfeclpmaaGreatDoor
def zrA (w:World) (D:List UInt8) (M:List Int) (E er:Int) (e:Ending) (w':World):Prop :=
 ∃ dv mv,e=.returned (.tuple #[.agg #[dv,mv,.int .u64 E],.int .i64 er])∧OwnD w' w.heap.size dv D∧OwnM w' w.heap.size mv M∧Below w.heap.size w w'
def stB (n:Nat) (t size:Int):Bool:=zdd size && zbV n t size
def stE (n:Nat) (t size:Int):Int:=if zdd size then (if zbV n t size then 0 else 50) else 1
def ldV (D:List UInt8) (t size:Int):Int:=if stB D.length t size then (le ((D.drop (t - 2147483648).toNat).take size.toNat):Nat) else 0
theorem zi6 (dv mv ev:Value) (D:List UInt8) (t size:Int) (w:World) (hd:DAt w dv D) (ht0:0≤t) (ht1:t≤18446744073709551615) :
  TB 138 #[.agg #[dv,mv,ev],.int .u64 t,.int .i64 size] w (.tuple #[.int .u64 (ldV D t size),.int .i64 (stE D.length t size)]):=by
 unfold ldV stE stB;rcases Bool.eq_false_or_eq_true (zdd size) with hl | hl
 ·rcases Bool.eq_false_or_eq_true (zbV D.length t size) with ht | ht
  ·rw [hl,ht];exact zhW dv D mv ev t size w hd ht0 ht1 hl ht
  ·rw [hl,ht]
   obtain ⟨p,cap,rfl⟩:=hd.is;exact load_ram p D.length cap mv ev t size w hd.le ht0 ht1 hl ht
 ·rw [hl];exact zyN dv mv ev t size w hl
structure Pt where
 F:List ByteArray
 D:List UInt8
 M:List Int
 O:List Rec
def Ow (m:Mc) (z k:Nat):Prop:=k=z∨some k=m.dv.ownBlock∨some k=m.mv.ownBlock∨some k=m.ov.ownBlock∨some k=(Value.slice m.b.fp m.b.fn m.b.fc).ownBlock
structure MS (w:World) (B z:Nat) (m:Mc) (p:Pt):Prop where
 box:MBox w z m
 big:B≤z
 fr:FT w B (.slice m.b.fp m.b.fn m.b.fc) p.F
 d:OwnD w B m.dv p.D
 mm:OwnM w B m.mv p.M
 o:w.ownsRow B 65 3 m.ov p.O.length (oC p.O)
theorem MS.one {w:World} {B z:Nat} {m:Mc} {p:Pt} (h:MS w B z m p):Mc1 m:=⟨zdV h.d,zdV h.mm,zdV h.o⟩
theorem MS.len {w:World} {B z:Nat} {m:Mc} {p:Pt} (h:MS w B z m p):m.b.fn=p.F.length:=h.fr.rd.len
theorem MS.lt {w:World} {B z:Nat} {m:Mc} {p:Pt} (h:MS w B z m p) {k:Nat} (hk:Ow m z k):B≤k∧k<w.heap.size:=by
 rcases hk with rfl | hk | hk | hk | hk
 ·exact ⟨h.big,h.box.lt⟩
 ·exact zcy h.d hk.symm
 ·exact zcy h.mm hk.symm
 ·exact zcy h.o hk.symm
 ·have hb:=h.fr.blk
  revert hk hb
  cases m.b.fp with
  | none=>intro hk;cases hk
  | some a =>
   intro hk hb;simp only [Value.ownBlock,Option.some.injEq] at hk;obtain ⟨h1,cur,h2⟩:=hb a _ _ rfl;rw [hk];exact ⟨h1,(Array.getElem?_eq_some_iff.1 h2).1⟩
theorem FT.keep' {w w':World} {B:Nat} {v:Value} {F:List ByteArray} (h:FT w B v F) (hb:∀ g,v.ownBlock=some g→w'.heap[g]?=w.heap[g]?):FT w' B v F :=
 ⟨zaW.keep h.rd fun p n c hv=>hb _ (by rw [hv];rfl),fun p n c hv=>by obtain ⟨h1,cur,h2⟩:=h.blk p n c hv;exact ⟨h1,cur,(hb _ (by rw [hv];rfl)).trans h2⟩⟩
theorem MS.keep {w w':World} {B z:Nat} {m:Mc} {p:Pt} (h:MS w B z m p) (hb:∀ k,Ow m z k→w'.heap[k]?=w.heap[k]?):MS w' B z m p :=
 ⟨(hb z (.inl rfl)).trans h.box,h.big,h.fr.keep' fun g hg=>hb g (.inr (.inr (.inr (.inr hg.symm)))),zbW h.d fun g hg=>hb g (.inr (.inl hg.symm)),zbW h.mm fun g hg=>hb g (.inr (.inr (.inl hg.symm))),zbW h.o fun g hg=>hb g (.inr (.inr (.inr (.inl hg.symm))))⟩
theorem MS.next {w w':World} {B z:Nat} {m:Mc} {p:Pt} (h:MS w B z m p) (hb:Below w.heap.size w w'):MS w' B z m p:=h.keep fun k hk=>hb.block k (h.lt hk).2
def Did (W W':World) (B z:Nat) (m r:Mc) (p:Pt):Prop :=
 ∃ q c dv mv ov,MS W' B z { r with b:=r.b.at q p.F.length c,dv:=dv,mv:=mv,ov:=ov } p∧zau W W' (Ow m z)∧∀ k,Ow { r with b:=r.b.at q p.F.length c,dv:=dv,mv:=mv,ov:=ov } z k→Ow m z k∨W.heap.size≤k
theorem Did.none {W W':World} {B z:Nat} {m:Mc} {p:Pt} (K:MS W B z m p) (hb:Below W.heap.size W W'):Did W W' B z m m p:=by
 have e:m.b.at m.b.fp p.F.length m.b.fc=m.b:=by rw [← K.len];rfl
 refine ⟨m.b.fp,m.b.fc,m.dv,m.mv,m.ov,?_,zcr hb _,?_⟩
 ·rw [e];exact K.next hb
 ·rw [e];exact fun k hk=>.inl hk
theorem Did.frames {W W' wx:World} {B z:Nat} {m:Mc} {p:Pt} {b:Bd} {F:List ByteArray} {q:Option Addr} {c:Nat} (K:MS W B z m p) (hB:B≤W.heap.size) (hb:Below W.heap.size W wx) (ho:OwnF wx W.heap.size (.slice q F.length c) F) (hw:W'=wx.setRow z (mcC { m with b:=b.at q F.length c })):Did W W' B z m { m with b:=b } { p with F:=F }:=by
 have k:=K.next hb;refine ⟨q,c,m.dv,m.mv,m.ov,?_,(zcr hb (Ow m z)).trans (by subst hw;exact (zau.refl wx (Ow m z)).setRow (.inl (.inl rfl)) _),?_⟩
 ·have ne:∀ g,g≠z→W'.heap[g]?=wx.heap[g]?:=fun g hg=>by subst hw;exact setRow_other wx z g _ hg
  refine ⟨k.box.put hw,k.big,?_,zbW k.d fun g hg=>ne g fun x=>zb8 k.d k.box (by decide) (by rw [hg,x]),zbW k.mm fun g hg=>ne g fun x=>zb8 k.mm k.box (by decide) (by rw [hg,x]),zbW k.o fun g hg=>ne g fun x=>zb8 k.o k.box (by decide) (by rw [hg,x])⟩
  refine ((FT.of ho).base hB).keep fun g cur _ hg=>ne g fun x=>?_
  subst x;have:=hg.symm.trans k.box
  simp at this
 ·intro k hk
  rcases hk with hk | hk | hk | hk | hk
  ·exact .inl (.inl hk)
  ·exact .inl (.inr (.inl hk))
  ·exact .inl (.inr (.inr (.inl hk)))
  ·exact .inl (.inr (.inr (.inr (.inl hk))))
  ·exact .inr (zcy ho hk.symm).1
structure POk (m:Mc) (p:Pt):Prop where
 bd:BdOk m.b
 c:Pc.U32 m.b.pl.c
 fz:∀ f∈p.F,f.size≤9223372036854775807
 fl:p.F.length≤8796093022208
 dl:p.D.length≤140737488351232
 ml:p.M.length≤17592186043904
abbrev rcC (r:Rec):Array Value:=#[.int .u64 r.1,.int .i64 r.2.1,.string r.2.2]
abbrev rcV (r:Rec):Value:=.agg (rcC r)
abbrev rcZ:Array Value:=#[.int .u64 0,.int .i64 0,.string ⟨#[]⟩]
abbrev rcO:Obj:=.cells rcZ 65
theorem zfZ:∃ i,Tryz.prog.info? 65=some i∧i.zero=some (.agg rcZ)∧i.size=3∧i.bytes=32:=by
 obtain ⟨i,h1,h2,h3,h4⟩:=info_parts (show (Tryz.prog.info? 65).map (fun i=>(i.zero,i.size,i.bytes))=some (some (.agg rcZ),3,32) by kernel_rfl);exact ⟨i,h1,h2,h3,h4⟩
theorem Mem.swap {W w:World} {x y:Nat × Array Value × Nat} {l:List (Nat × Array Value × Nat)} {r:List (Nat × Value × Nat × List Value)} (h:Mem W w (x :: y :: l) r):Mem W w (y :: x :: l) r:=by
 have hm:∀ u,u∈y :: x :: l→u∈x :: y :: l:=fun u hu=>by simp only [List.mem_cons] at hu ⊢;rcases hu with h | h | h;exact .inr (.inl h);exact .inl h;exact .inr (.inr h)
 refine ⟨fun u hu=>h.cel u (hm u hu),?_,fun u hu=>h.typ u (hm u hu),fun u hu=>h.big u (hm u hu),h.own,h.row,h.below⟩
 have:=h.nod;simp only [List.map_cons,List.nodup_cons,List.mem_cons,not_or] at this ⊢;exact ⟨⟨fun e=>this.1.1 e.symm,this.2.1⟩,this.1.2,this.2.2⟩
theorem FT.over {w:World} {B g t:Nat} {v:Value} {F:List ByteArray} {cs:Array Value} (h:FT w B v F) (k:w.heap[g]?=some (.cells cs t (0,0))) (ht:t≠9) (cs':Array Value):FT (w.setRow g cs') B v F :=
 h.keep fun x cur _ hx=>setRow_other w g x cs' fun e=>by
  subst e;have:=hx.symm.trans k;simp only [Option.some.injEq,Obj.cells.injEq] at this;exact ht this.2.1.symm
theorem zuV {w:World} {B n c sz e:Nat} {q:Option Addr} {xs:List Value} (h:w.ownsRow B e sz (.slice q n c) n xs):(q=none∨∃ g,q=some ⟨g,0,none⟩)∧n≤c:=by
 rcases h.2 with ⟨e1,e2⟩ | ⟨g,cap,cur,e1,_,_,h3,_⟩
 ·simp only [Value.slice.injEq] at e1
  exact ⟨.inl e1.1,by omega⟩
 ·simp only [Value.slice.injEq,true_and] at e1
  exact ⟨.inr ⟨g,e1.1⟩,by omega⟩
theorem zbl {w:World} {B n size g:Nat} {e t:TypeId} {v:Value} {xs:List Value} {c:Array Value} (h:w.ownsRow B e size v n xs) (hp:w.heap[g]?=some (.cells c t (0,0))) (hne:e≠t) (cs:Array Value):(w.setRow g cs).ownsRow B e size v n xs :=
 zbW h fun x hx=>setRow_other w g x cs fun e=>zb8 h hp hne (by rw [hx,e])
theorem zau.trans' {a b c:World} {S S':Nat→Prop} (h:zau a b S) (k:zau b c S') (hS:∀ x,x<a.heap.size→S' x→S x):zau a c S :=
 ⟨k.os.trans h.os,k.tape.trans h.tape,k.output.trans h.output,Nat.le_trans h.size k.size,fun x hx hn=>(k.block x (Nat.lt_of_lt_of_le hx h.size) (fun e=>hn (hS x hx e))).trans (h.block x hx hn)⟩
theorem MS.put {W W':World} {B z:Nat} {m:Mc} {p:Pt} {D:List UInt8} {M:List Int} (K:MS W B z m p) (h:zdr W W' B z 73 m.dv m.mv m.E D M):MS W' B z m { p with D:=D,M:=M }∧zau W W' (Ow m z):=by
 have nb:∀ (g:Nat) (t:TypeId) (cs:Array Value),W.heap[g]?=some (.cells cs t (0,0))→t≠5→t≠22→W'.heap[g]?=W.heap[g]?:=fun g t cs hg h5 h22 =>
  h.t.block g (Array.getElem?_eq_some_iff.1 hg).1 fun hS=>by
   rcases hS with hS | hS
   ·exact zb8 K.d hg (fun x=>h5 x.symm) hS.symm
   ·exact zb8 K.mm hg (fun x=>h22 x.symm) hS.symm
 refine ⟨⟨(nb z 42 _ K.box (by decide) (by decide)).trans K.box,K.big,K.fr.keep fun g cur _ hg=>nb g 9 cur hg (by decide) (by decide),h.d,h.m,zbW K.o fun g hg=>?_⟩,h.t.mono fun k _ hk=>?_⟩
 ·obtain ⟨cur,hc⟩:=zdp K.o hg
  exact nb g 65 cur hc (by decide) (by decide)
 ·rcases hk with hk | hk
  ·exact .inr (.inl hk)
  ·exact .inr (.inr (.inl hk))
theorem Did.put {W W':World} {B z:Nat} {m:Mc} {p:Pt} {D:List UInt8} {M:List Int} (K:MS W B z m p) (h:zdr W W' B z 73 m.dv m.mv m.E D M):Did W W' B z m m { p with D:=D,M:=M }:=by
 have e:m.b.at m.b.fp p.F.length m.b.fc=m.b:=by rw [← K.len];rfl
 refine ⟨m.b.fp,m.b.fc,m.dv,m.mv,m.ov,?_,(K.put h).2,?_⟩
 ·show MS W' B z { m with b:=m.b.at m.b.fp p.F.length m.b.fc } { p with D:=D,M:=M }
  rw [e];exact (K.put h).1
 ·show ∀ k,Ow { m with b:=m.b.at m.b.fp p.F.length m.b.fc } z k→_
  rw [e];exact fun k hk=>.inl hk
theorem Did.before {W w W':World} {B z:Nat} {m r:Mc} {p:Pt} (h:Did w W' B z m r p) (ht:zau W w (Ow m z)):Did W W' B z m r p:=by
 obtain ⟨q,c,dv,mv,ov,h1,h2,h3⟩:=h;exact ⟨q,c,dv,mv,ov,h1,ht.trans h2,fun k hk=>(h3 k hk).imp id (Nat.le_trans ht.size)⟩
structure MR (w:World) (m:Mc) (p:Pt):Prop where
 fr:FAt w (.slice m.b.fp m.b.fn m.b.fc) p.F
 d:DAt w m.dv p.D
 mm:MAt w m.mv p.M
 o:zaW w m.ov 3 p.O.length (oC p.O)
theorem MR.next {w w':World} {m:Mc} {p:Pt} (h:MR w m p) (hb:Below w.heap.size w w'):MR w' m p:=⟨h.fr.next hb,h.d.below hb,h.mm.below hb,h.o.below hb⟩
theorem MS.rd {w:World} {B z:Nat} {m:Mc} {p:Pt} (h:MS w B z m p):MR w m p:=⟨h.fr.rd,h.d.at,h.mm.at,ze2 h.o⟩
theorem Mem.two {W:World} (cs cs':Array Value):Mem W ((W.alloc (.cells cs 42)).alloc (.cells cs' 42)) [(W.heap.size+1,cs',42),(W.heap.size,cs,42)] []:=by
 have h:=((Mem.start W).new cs 42 (by decide)).new cs' 42 (by decide)
 rwa [World.size_alloc] at h
theorem Mem.m1 {W w:World} {x0:Nat × Array Value × Nat} {k:Nat} {m:Mc} {l:List (Nat × Array Value × Nat)} {r:List (Nat × Value × Nat × List Value)} (h:Mem W w (x0 :: (k,mcC m,42) :: l) r):MBox w k m:=h.g1
theorem MBox.load_b' {w:World} {g:Nat} {m:Mc} (k:MBox w g m) {b:Bd} (e:m.b=b):(Instr.loadAt 35 (.pointer (some ⟨g,52,none⟩))).run Tryz.prog w=.ok (bdV b) w:=by subst e;exact k.load_b
theorem MBox.load_o' {w:World} {g:Nat} {m:Mc} (k:MBox w g m) {v:Value} (e:m.ov=v):(Instr.loadAt 40 (.pointer (some ⟨g,78,none⟩))).run Tryz.prog w=.ok v w:=by subst e;exact k.load_o
theorem zhQ {w:World} {p:Option Addr} {n cap:Nat} {D:List UInt8} (h:DAt w (.slice p n cap) D):(convert 36 9 (.slice p n cap)).run Tryz.prog w=.ok (.string ⟨D.toArray⟩) w:=by
 rcases h.2 with ⟨e,h0⟩ | ⟨a,c,e,_,_,hc⟩
 ·simp only [Value.slice.injEq] at e
  obtain ⟨rfl,rfl,rfl⟩:=e;obtain rfl:D=[]:=List.eq_nil_of_length_eq_zero h0;rw [run_convert_bytes_string w 36 9 5 none 0 0 underlying36 underlying5 underlying9];rfl
 ·simp only [Value.slice.injEq] at e
  obtain ⟨rfl,rfl,rfl⟩:=e;exact run_convert_bytes_back (P:=Tryz.prog) w 36 9 5 a cap D underlying36 underlying5 underlying9 (fun j hj=>hc j _ (by simp [dC,hj]))
theorem MAt.cell {w:World} {v:Value} {M:List Int} (h:MAt w v M) (h0:0<M.length) :
  ∃ b off cap,v=.slice (some ⟨b,off,none⟩) M.length cap∧M.length≤cap∧cap≤maxLen∧b<w.heap.size∧∀ j (hj:j<M.length),w.cell? ⟨b,off+j,none⟩=some (.int .u64 M[j]):=by
 obtain ⟨b,off,cap,h1,h2,h3,h4,h5⟩:=zaW.at h (by omega);exact ⟨b,off,cap,h1,h2,h3,h4,fun j hj=>h5 j _ (by simp [mC,hj])⟩
def zfO (w wr:World) (a b c d:Value) (E F:Int):Prop:=zca wr w.heap.size a b E∧zca wr (w.heap.size+1) c d F∧Below w.heap.size w wr
theorem zqD (w:World) (a b c d:Value) (E F:Int):zfO w ((w.alloc (.cells #[a,b,.int .u64 E] 39)).alloc (.cells #[c,d,.int .u64 F] 39)) a b c d E F :=
 ⟨(zf4 _ (by simp)).trans (zdI _ _),by have h:=zdI (w.alloc (.cells #[a,b,.int .u64 E] 39)) (.cells #[c,d,.int .u64 F] 39);rwa [World.size_alloc] at h,zbj w _ _⟩
theorem zfO.drewN {w wr:World} {a b c d:Value} {E F:Int} (h:zfO w wr a b c d E F) (n:Nat):zfO w (wr.drewN n) a b c d E F :=
 ⟨h.1,h.2.1,h.2.2.trans ⟨rfl,rfl,rfl,Nat.le_refl _,fun _ _=>rfl⟩⟩
theorem ztz (dv mv dv2 mv2:Value) (E:Int) (D:List UInt8) (M:List Int) (w:World) (hd:DAt w dv D) (hm:MAt w mv M) (hd2:DAt w dv2 D) (hm2:MAt w mv2 M) :
  TB 37 #[.agg #[dv,mv,.int .u64 E],.agg #[dv2,mv2,.int .u64 E]] w (.bool true):=by
 obtain ⟨p,cap,rfl⟩:=hd.is;obtain ⟨q,cap2,rfl⟩:=hm.is;obtain ⟨p2,cap3,rfl⟩:=hd2.is;obtain ⟨q2,cap4,rfl⟩:=hm2.is;have hMle:=hm.le;obtain ⟨w0,hw0⟩:∃ w0,w0=(w.alloc (.cells #[.slice p D.length cap,.slice q M.length cap2,.int .u64 E] 39)).alloc (.cells #[.slice p2 D.length cap3,.slice q2 M.length cap4,.int .u64 E] 39):=⟨_,rfl⟩;have hb0:Below w.heap.size w w0:=by rw [hw0];exact zbj w _ _
 have c1:=zhQ (hd.below hb0);have c2:=zhQ (hd2.below hb0);have HM:=hid hm;have HM2:=hid hm2;have HBX:=hid (zqD w (.slice p D.length cap) (.slice q M.length cap2) (.slice p2 D.length cap3) (.slice q2 M.length cap4) E E);clear hd hd2 hm hm2 hb0;subst hw0;go_enter func37,ntmps37;go_wp2_with fail
 go_loopw [5] (fun i wr=>∃ j:Nat,j≤M.length∧i=.int .i64 j∧Hid (zfO w wr (.slice p D.length cap) (.slice q M.length cap2) (.slice p2 D.length cap3) (.slice q2 M.length cap4) E E)) (fun i _=>M.length - (intOf i).toNat)
 case atStart=>exact ⟨0,Nat.zero_le _,rfl,HBX⟩
 case round =>
  obtain ⟨j,hj,rfl,hbx⟩:=hrel;clear c1 c2;obtain ⟨x0,x1,x2⟩:=hbx.out.1.cells;obtain ⟨y0,y1,y2⟩:=hbx.out.2.1.cells
  by_cases hlt:j<M.length
  ·obtain ⟨b,off,_,e1,_,_,hb,hc⟩:=(HM.out.below hbx.out.2.2).cell (by omega)
   obtain ⟨b',off',_,e2,_,_,hb',hc'⟩:=(HM2.out.below hbx.out.2.2).cell (by omega);simp only [Value.slice.injEq,true_and] at e1 e2;obtain ⟨rfl,rfl⟩:=e1;obtain ⟨rfl,rfl⟩:=e2;have d1:=hc j hlt;have d2:=hc' j hlt;clear hc hc';generalize M[j]=X at d1 d2;go_wp2_with fail
   go_quiet (fail)
   go_wp2_with fail;exact ⟨⟨j+1,by omega,by go_num,hid (hbx.out.drewN _)⟩,by simp [intOf];omega⟩
  ·go_wp2_with fail
   go_ret;exact ⟨rfl,hbx.out.2.2⟩
structure Like (m r:Mc):Prop where
 h:r.h=m.h
 b:r.b=m.b.at r.b.fp r.b.fn r.b.fc
 E:r.E=m.E
 cnt:r.cnt=m.cnt
 nxt:r.nxt=m.nxt
theorem Like.refl (m:Mc):Like m m:=⟨rfl,rfl,rfl,rfl,rfl⟩
structure CP (w:World) (N:Nat) (q:Option Addr) (c:Nat) (dv mv ov:Value) (p:Pt):Prop where
 fr:FT w N (.slice q p.F.length c) p.F
 d:OwnD w N dv p.D
 mm:OwnM w N mv p.M
 o:w.ownsRow N 65 3 ov p.O.length (oC p.O)
end Go.Proofs.YtplcfdnfeclpmaaGreatDoor
namespace Go.Proofs.YtplcfdnfeclpmaaGreatDoor.Wk
def nzV (n m:Int):Bool:=bits .and .u64 n m != 0
def bV (n b:Int):Bool:=bits .and .u64 (n / b) 1==1
def U64 (x:Int):Prop:=0≤x∧x<18446744073709551616
def bitT (x:Int) (i:Nat):Bool:=(BitVec.ofInt 64 x).getLsbD i
theorem zdy (y:BitVec 64):BitVec.ofInt 64 (IntKind.u64.wrap (y.toNat:Int))=y:=by
 have h:=y.isLt;have e:IntKind.u64.wrap (y.toNat:Int)=(y.toNat:Int):=by rw [IntKind.wrap_u64];omega
 rw [e,BitVec.ofInt_natCast]
 simp
theorem zfx (a b:Int):BitVec.ofInt 64 (bits .and .u64 a b)=BitVec.ofInt 64 a &&& BitVec.ofInt 64 b:=zdy _
theorem zf3 (a b:Int):BitVec.ofInt 64 (bits .or .u64 a b)=BitVec.ofInt 64 a ||| BitVec.ofInt 64 b:=zdy _
theorem zfS (a b:Int):BitVec.ofInt 64 (bits .andNot .u64 a b)=BitVec.ofInt 64 a &&& ~~~BitVec.ofInt 64 b:=zdy _
theorem zbd (a b:Int) (i:Nat):bitT (bits .and .u64 a b) i=(bitT a i && bitT b i):=by unfold bitT;rw [zfx,BitVec.getLsbD_and]
theorem zep (a b:Int) (i:Nat):bitT (bits .or .u64 a b) i=(bitT a i || bitT b i):=by unfold bitT;rw [zf3,BitVec.getLsbD_or]
theorem zcd (a b:Int) (i:Nat) (hi:i<64):bitT (bits .andNot .u64 a b) i=(bitT a i && !bitT b i):=by
 unfold bitT;rw [zfS,BitVec.getLsbD_and,BitVec.getLsbD_not]
 simp [hi]
theorem zad (op:BinOp) (a b:Int):U64 (bits op .u64 a b):=⟨bits_lo_u64 op a b,by have:=bits_hi_u64 op a b;omega⟩
theorem zci (a b:Int) (ha:U64 a) (hb:U64 b) (h:∀ i,i<64→bitT a i=bitT b i):a=b:=by
 have e:BitVec.ofInt 64 a=BitVec.ofInt 64 b:=BitVec.eq_of_getLsbD_eq fun i hi=>h i hi
 obtain ⟨n,rfl⟩:=Int.eq_ofNat_of_zero_le ha.1;obtain ⟨k,rfl⟩:=Int.eq_ofNat_of_zero_le hb.1;have e2:=congrArg BitVec.toNat e;rw [BitVec.ofInt_natCast,BitVec.ofInt_natCast,BitVec.toNat_ofNat,BitVec.toNat_ofNat] at e2;have h1:=ha.2;have h2:=hb.2;omega
theorem zee (x:Int) (hx:U64 x) (i:Nat) (hi:i<64):bitT x i=decide (x / (2:Int) ^ i % 2=1):=by
 obtain ⟨n,rfl⟩:=Int.eq_ofNat_of_zero_le hx.1;have h:=hx.2;unfold bitT;rw [BitVec.ofInt_natCast,BitVec.getLsbD_ofNat,Nat.testBit_eq_decide_div_mod_eq];simp only [hi,decide_true,Bool.true_and]
 apply decide_eq_decide.2
 have e:(n:Int) / (2:Int) ^ i % 2=((n / 2 ^ i % 2:Nat):Int):=by simp
 rw [e];omega
theorem zcv (i:Nat):bitT 0 i=false:=by unfold bitT;simp
theorem zap:U64 0:=⟨by omega,by omega⟩
structure zdT (C:Array Value) (ms sp:Int):Prop where
 size:C.size=16
 f0:C[0]?=some (.int .u64 ms)
 f15:C[15]?=some (.int .u64 sp)
theorem zc2:(Tryz.prog.info? 25).map (·.size)=some 16:=by kernel_rfl
end Go.Proofs.YtplcfdnfeclpmaaGreatDoor.Wk
namespace Go.Proofs.YtplcfdnfeclpmaaGreatDoor.Wk
def Box (w:World) (b:Nat) (C:Array Value):Prop:=w.heap[b]?=some (.cells C 25 (0,0))
theorem Box.lt {w:World} {b:Nat} {C:Array Value} (k:Box w b C):b<w.heap.size:=(Array.getElem?_eq_some_iff.1 k).1
theorem Box.next {w w':World} {b:Nat} {C:Array Value} (k:Box w b C) (j:Below w.heap.size w w'):Box w' b C:=(j.block b k.lt).trans k
theorem Box.alloc {w:World} {b:Nat} {C:Array Value} (k:Box w b C) (o:Obj):Box (w.alloc o) b C:=k.next ((Below.refl _ _).alloc (Nat.le_refl _) o)
theorem Box.new (w:World) (C:Array Value):Box (w.alloc (.cells C 25)) w.heap.size C:=heap_alloc_last w _
theorem Box.load {w:World} {b:Nat} {C:Array Value} (k:Box w b C) (h:C.size=16):(Instr.loadAt 25 (.pointer (some ⟨b,0,none⟩))).run Tryz.prog w=.ok (.agg C) w:=by
 simp only [Instr.loadAt,Instr.sureAddr,Sem.run_bind,Sem.run_pure,Result.andThen];exact run_loadVar_row w b 25 25 C (0,0) _ k underlying25 rfl (by rw [zc2,h])
theorem Box.cell {w:World} {b:Nat} {C:Array Value} (k:Box w b C) (i:Nat):w.cell? ⟨b,i,none⟩=C[i]?:=cell_of_row w b i C 25 (0,0) k
end Go.Proofs.YtplcfdnfeclpmaaGreatDoor.Wk
namespace Go.Proofs.YtplcfdnfeclpmaaGreatDoor.Wk
def zdQ (ms m kind:Int):Int:=if (m==3 && kind != 0 && nzV ms 131072)=true then bits .and .u64 (ms / 2048) 3 else m
theorem and3 (n:Int):0≤bits .and .u64 n 3∧bits .and .u64 n 3≤3:=by
 have u:=zad .and n 3;refine ⟨u.1,?_⟩
 have e:bits .and .u64 n 3=bits .and .u64 (bits .and .u64 n 3) 3:=by
  refine zci _ _ (zad _ _ _) (zad _ _ _) fun i _=>?_
  rw [zbd,zbd,zbd];cases bitT n i <;> cases bitT 3 i <;> rfl
 obtain ⟨k,hk⟩:=Int.eq_ofNat_of_zero_le u.1;have h2:=u.2;rw [hk] at e h2 ⊢;have h:=bits_and_u64_nat k 3 (by omega) (by omega);rw [show (3:Int)=((3:Nat):Int) from rfl,h] at e;have:k &&& 3≤3:=Nat.and_le_right;omega
theorem zAH (n:Int):wrap64 (bits .and .u64 n 3)=bits .and .u64 n 3:=by
 have h:=and3 n;generalize bits .and .u64 n 3=x at *;unfold wrap64;omega
def topV (t:Int):Int:=wrap64 t / 274877906944
def zfs (t:Int):Bool:=topV t==0 || topV t==-1
def zdE (kind:Int):Int:=if kind=0 then 12 else if kind=1 then 13 else 15
def accV (kind:Int):Int:=if kind=0 then 1 else if kind=1 then 5 else 7
def zcQ (n:Int):Int:=IntKind.u64.wrap (bits .and .u64 n 17592186044415*4096)
def zf0 (t:Int) (k:Nat):Int:=bits .and .u64 (t / 2 ^ (12+9*k)) 511
def zao (e:Int):Bool:=!(bits .and .u64 e 1==0 || e / 18014398509481984 != 0) && bits .and .u64 e 6 != 4
def mayB (ms mode:Int) (user:Bool) (kind:Int):Bool:=if mode=0 then user else if mode=1 then !user || (kind != 0 && nzV ms 262144) else true
def zdC (ms mode e kind:Int):Bool :=
 if (bits .and .u64 e 64==0 || !mayB ms mode (nzV e 16) kind)=true then false
 else if kind=0 then nzV e 8 else if kind=1 then nzV e 2 || (nzV e 8 && nzV ms 524288) else nzV e 4 && nzV e 128
theorem zcY (C:Array Value) (ms sp m kind:Int) (h:zdT C ms sp) (W:World):TB 160 #[.agg C,.int .i64 m,.int .i64 kind] W (.int .i64 (zdQ ms m kind)):=by
 have f0:=h.f0;have w3:=hid (zAH (ms / 2048));clear h;rcases Bool.eq_false_or_eq_true (m==3) with a | a
 all_goals rcases Bool.eq_false_or_eq_true (kind != 0) with b | b
 all_goals rcases Bool.eq_false_or_eq_true (bits .and .u64 ms 131072 != 0) with c | c
 all_goals
  go_enter func160,ntmps160
  go_wp2
  go_ret;exact ⟨zam (by unfold zdQ;simp [nzV,a,b,c,w3.out]),(Below.refl _ _).alloc (Nat.le_refl _) _⟩
theorem zhi (t:Int) (W:World):TW 161 #[.int .u64 t] W (.bool (zfs t)):=by
 rcases Bool.eq_false_or_eq_true (wrap64 t / 274877906944==0) with a | a
 all_goals rcases Bool.eq_false_or_eq_true (wrap64 t / 274877906944==-1) with b | b
 all_goals
  go_enter func161,ntmps161
  go_wp2
  go_ret;exact ⟨zaT (by unfold zfs topV;simp [a,b]),rfl⟩
theorem zdt (kind:Int) (h0:0≤kind) (h2:kind≤2) (W:World):TW 162 #[.int .i64 kind] W (.int .i64 (zdE kind)):=by
 have i0:∀ w:World,(Instr.index 192 (.agg #[.int .i64 12,.int .i64 13,.int .i64 15]) (.int .i64 0)).run Tryz.prog w=.ok (.int .i64 12) w:=fun _=>by kernel_rfl
 have i1:∀ w:World,(Instr.index 192 (.agg #[.int .i64 12,.int .i64 13,.int .i64 15]) (.int .i64 1)).run Tryz.prog w=.ok (.int .i64 13) w:=fun _=>by kernel_rfl
 have i2:∀ w:World,(Instr.index 192 (.agg #[.int .i64 12,.int .i64 13,.int .i64 15]) (.int .i64 2)).run Tryz.prog w=.ok (.int .i64 15) w:=fun _=>by kernel_rfl
 obtain rfl | rfl | rfl:kind=0∨kind=1∨kind=2:=by omega
 all_goals
  go_enter func162,ntmps162
  go_wp2
  go_ret;exact ⟨rfl,rfl⟩
theorem zh5 (kind:Int) (h0:0≤kind) (h2:kind≤2) (W:World):TW 165 #[.int .i64 kind] W (.int .i64 (accV kind)):=by
 have i0:∀ w:World,(Instr.index 192 (.agg #[.int .i64 1,.int .i64 5,.int .i64 7]) (.int .i64 0)).run Tryz.prog w=.ok (.int .i64 1) w:=fun _=>by kernel_rfl
 have i1:∀ w:World,(Instr.index 192 (.agg #[.int .i64 1,.int .i64 5,.int .i64 7]) (.int .i64 1)).run Tryz.prog w=.ok (.int .i64 5) w:=fun _=>by kernel_rfl
 have i2:∀ w:World,(Instr.index 192 (.agg #[.int .i64 1,.int .i64 5,.int .i64 7]) (.int .i64 2)).run Tryz.prog w=.ok (.int .i64 7) w:=fun _=>by kernel_rfl
 obtain rfl | rfl | rfl:kind=0∨kind=1∨kind=2:=by omega
 all_goals
  go_enter func165,ntmps165
  go_wp2
  go_ret;exact ⟨rfl,rfl⟩
theorem zc7 (n:Int) (W:World):TW 163 #[.int .u64 n] W (.int .u64 (zcQ n)):=by
 go_enter func163,ntmps163
 go_wp2
 go_ret;exact ⟨rfl,rfl⟩
theorem zin (t:Int) (k:Nat) (hk:k≤2) (W:World):TW 164 #[.int .u64 t,.int .i64 k] W (.int .u64 (zf0 t k)):=by
 obtain rfl | rfl | rfl:k=0∨k=1∨k=2:=by omega
 all_goals
  go_enter func164,ntmps164
  go_wp2
  go_ret;exact ⟨rfl,rfl⟩
theorem zbe (n:Int) (W:World):TW 166 #[.int .u64 n] W (.bool (zao n)):=by
 rcases Bool.eq_false_or_eq_true (bits .and .u64 n 1==0) with a | a
 all_goals rcases Bool.eq_false_or_eq_true (n / 18014398509481984 != 0) with b | b
 all_goals
  go_enter func166,ntmps166
  go_wp2
  go_ret;exact ⟨zaT (by unfold zao;simp [a,b]),rfl⟩
theorem zbb (C:Array Value) (ms sp mode:Int) (user:Bool) (kind:Int) (h:zdT C ms sp) (W:World):TB 212 #[.agg C,.int .i64 mode,.bool user,.int .i64 kind] W (.bool (mayB ms mode user kind)):=by
 have f0:=h.f0;clear h
 by_cases h0:mode=0
 ·subst h0
  go_enter func212,ntmps212
  go_wp2
  go_ret;exact ⟨rfl,(Below.refl _ _).alloc (Nat.le_refl _) _⟩
 have g0:(mode==0)=false:=by simpa using h0
 by_cases h1:mode=1
 ·subst h1
  clear h0 g0;rcases Bool.eq_false_or_eq_true (kind != 0) with a | a
  all_goals rcases Bool.eq_false_or_eq_true (bits .and .u64 ms 262144 != 0) with b | b
  all_goals cases user
  all_goals
   go_enter func212,ntmps212
   go_wp2
   go_ret;exact ⟨zaT (by simp [mayB,nzV,a,b]),(Below.refl _ _).alloc (Nat.le_refl _) _⟩
 have g1:(mode==1)=false:=by simpa using h1
 go_enter func212,ntmps212
 go_wp2
 go_ret;exact ⟨zaT (by simp [mayB,h0,h1]),(Below.refl _ _).alloc (Nat.le_refl _) _⟩
end Go.Proofs.YtplcfdnfeclpmaaGreatDoor.Wk
namespace Go.Proofs.YtplcfdnfeclpmaaGreatDoor.Wk
theorem zoH (C:Array Value) (ms sp mode e kind:Int) (h:zdT C ms sp) (h0:0≤kind) (h2:kind≤2) (W:World):Calls Tryz.prog 167 #[.agg C,.int .i64 mode,.int .u64 e,.int .i64 kind] W fun e' W'=>e'=.returned (.bool (zdC ms mode e kind))∧Below W.heap.size W W':=by
 have f0:=h.f0;have hC:=h.size;have b0:=hid (Box.new W C);have H:=hid h;clear h;have cM:=hid fun (m:Int) (u:Bool) (k:Int) W=>zbb C ms sp m u k H.out W
 clear H;rcases Bool.eq_false_or_eq_true (bits .and .u64 e 64==0) with a | a
 ·go_enter func167,ntmps167
  go_wp2
  go_ret;exact ⟨zaT (by simp [zdC, *]),zag W _⟩
 have HB:∀ b,mayB ms mode (bits .and .u64 e 16 != 0) kind=b→Hid (mayB ms mode (bits .and .u64 e 16 != 0) kind=b):=fun _ h=>hid h
 rcases Bool.eq_false_or_eq_true (mayB ms mode (bits .and .u64 e 16 != 0) kind) with b | b
 rotate_left
 ·replace b:=HB _ b
  clear HB;go_enter func167,ntmps167;go_wp2_with (first | (with_reducible show wpList _ _ _ (⟨some 13,Op.load 25 (.tmp 4),25,_,_,_⟩ :: _) _ _;refine zaU (by kernel_rfl) rfl (Box.load (b0.out) hC) rfl ?_;simp only [Act.put,List.setIfInBounds_toArray,List.set_cons_zero,List.set_cons_succ]) | (go_at_call 212;(with_reducible refine (cM.out _ _ _ _).mono ?_);rintro e' w1 ⟨rfl,k1⟩;rw [b.out];have c0:=hid ((((b0.out).next k1).cell 0).trans f0);have k1:=hid k1));go_ret;exact ⟨zaT (by have:=b.out;simp [zdC,nzV, *]),zac (zag W _) k1.out⟩
 replace b:=HB _ b
 clear HB;rcases (show kind=0∨kind=1∨kind=2 by omega) with hk | hk | hk
 ·subst hk
  rcases Bool.eq_false_or_eq_true (bits .and .u64 e 8 != 0) with c0 | c0
  all_goals
   go_enter func167,ntmps167;go_wp2_with (first | (with_reducible show wpList _ _ _ (⟨some 13,Op.load 25 (.tmp 4),25,_,_,_⟩ :: _) _ _;refine zaU (by kernel_rfl) rfl (Box.load (b0.out) hC) rfl ?_;simp only [Act.put,List.setIfInBounds_toArray,List.set_cons_zero,List.set_cons_succ]) | (go_at_call 212;(with_reducible refine (cM.out _ _ _ _).mono ?_);rintro e' w1 ⟨rfl,k1⟩;rw [b.out];have c0:=(((b0.out).next k1).cell 0).trans f0;have k1:=hid k1));go_ret;exact ⟨zaT (by have:=b.out;simp [zdC,nzV, *]),zac (zag W _) k1.out⟩
 ·subst hk
  rcases Bool.eq_false_or_eq_true (bits .and .u64 e 2 != 0) with c0 | c0
  all_goals rcases Bool.eq_false_or_eq_true (bits .and .u64 e 8 != 0) with c1 | c1
  all_goals rcases Bool.eq_false_or_eq_true (bits .and .u64 ms 524288 != 0) with c2 | c2
  all_goals
   go_enter func167,ntmps167;go_wp2_with (first | (with_reducible show wpList _ _ _ (⟨some 13,Op.load 25 (.tmp 4),25,_,_,_⟩ :: _) _ _;refine zaU (by kernel_rfl) rfl (Box.load (b0.out) hC) rfl ?_;simp only [Act.put,List.setIfInBounds_toArray,List.set_cons_zero,List.set_cons_succ]) | (go_at_call 212;(with_reducible refine (cM.out _ _ _ _).mono ?_);rintro e' w1 ⟨rfl,k1⟩;rw [b.out];have c0:=(((b0.out).next k1).cell 0).trans f0;have k1:=hid k1));go_ret;exact ⟨zaT (by have:=b.out;simp [zdC,nzV, *]),zac (zag W _) k1.out⟩
 ·subst hk
  rcases Bool.eq_false_or_eq_true (bits .and .u64 e 4 != 0) with c0 | c0
  all_goals rcases Bool.eq_false_or_eq_true (bits .and .u64 e 128 != 0) with c1 | c1
  all_goals
   go_enter func167,ntmps167;go_wp2_with (first | (with_reducible show wpList _ _ _ (⟨some 13,Op.load 25 (.tmp 4),25,_,_,_⟩ :: _) _ _;refine zaU (by kernel_rfl) rfl (Box.load (b0.out) hC) rfl ?_;simp only [Act.put,List.setIfInBounds_toArray,List.set_cons_zero,List.set_cons_succ]) | (go_at_call 212;(with_reducible refine (cM.out _ _ _ _).mono ?_);rintro e' w1 ⟨rfl,k1⟩;rw [b.out];have c0:=(((b0.out).next k1).cell 0).trans f0;have k1:=hid k1));go_ret;exact ⟨zaT (by have:=b.out;simp [zdC,nzV, *]),zac (zag W _) k1.out⟩
end Go.Proofs.YtplcfdnfeclpmaaGreatDoor.Wk
