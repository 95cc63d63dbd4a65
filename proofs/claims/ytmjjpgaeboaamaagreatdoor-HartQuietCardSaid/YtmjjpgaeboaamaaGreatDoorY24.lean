/- HartQuiet,part 24. -/
import Derived.Below
import Derived.Deep.Draws
import Derived.Deep.WholeRow
import Derived.IntWalk
import Derived.Laws.BitsAllLaws
import Derived.Laws.Bits64b
import Derived.Laws.Closers25b
import Derived.Laws.ResultCell
import Derived.ChangeKeysEq
import Derived.Test.YtmjjpgaeboaamaaGreatDoorY01
import Derived.Test.YtmjjpgaeboaamaaGreatDoorY03
import Derived.Test.YtmjjpgaeboaamaaGreatDoorY05
import Derived.Test.YtmjjpgaeboaamaaGreatDoorY07
import Derived.Test.YtmjjpgaeboaamaaGreatDoorY18
set_option maxHeartbeats 4000000
set_option maxRecDepth 100000
open Go.Lib (hid)
namespace Go.Proofs.YtmjjpgaeboaamaaGreatDoor
open Go.RowKit Go.Deep Go.Joins
def zju (w:World) (D:List UInt8) (M:List Int) (E er:Int) (e:Ending) (w':World):Prop :=
 ∃ dv mv,e=.returned (.tuple #[.agg #[dv,mv,.int .u64 E],.int .i64 er])∧OwnD w' w.heap.size dv D∧OwnM w' w.heap.size mv M∧Below w.heap.size w w'
theorem ztF (n:Nat) (s:ByteArray) (w:World) (h1:1≤n) (h2:n≤256) (hs:s.size≤n*256) :
  Calls Tryz.prog 40 #[.int .i64 n,.string s] w (zju w (spl (List.replicate (n*256) 0) 0 s) (List.replicate n 0) 0 0):=by
 have hmd:=zgZ (n*256) (by omega)
 have hmm:=zjb n (by omega)
 rw [show ((n*256:Nat):Int)=256*(n:Int) by omega] at hmd
 have hwr:IntKind.i64.wrap (256*(n:Int))=256*(n:Int):=IntWalk.i64_in _ (by omega)
 go_enter Tryz.func40,Tryz.ntmps40
 go_upto_region 5 with fail
 go_cut [6] (fun s6 wx=>Made w (n*256) n 0 s6 wx)
 case first =>
  go_region
  all_goals (go_wp2_with fail;go_meet)
  all_goals
   have hsz:(w.alloc (Obj.cells #[Value.slice none 0 0,Value.slice none 0 0,Value.int IntKind.u64 0] 39)).heap.size=w.heap.size+1:=World.size_alloc _ _
   have hx1:n*256≤maxLen:=by unfold maxLen;omega
   have hx2:n≤maxLen:=by unfold maxLen;omega
   have hbl:∀ o1 o2 o3,Below (w.heap.size+1) (w.alloc (.cells #[.slice none 0 0,.slice none 0 0,.int .u64 0] 39)) ((((w.alloc (.cells #[.slice none 0 0,.slice none 0 0,.int .u64 0] 39)).alloc o1).alloc o2).alloc o3).drew:=fun o1 o2 o3 =>
    ((((Below.refl _ _).alloc (by simp) _).alloc (by simp) _).alloc (by simp) _).drew
   first | exact zeo (new3 hsz).1 (new3 hsz).2.1 (new3 hsz).2.2 (by omega) (by omega) (by omega) hx1 hx2 (hbl _ _ _) | exact zeo (new3 hsz).1 (new3 hsz).2.2 (new3 hsz).2.1 (by omega) (by omega) (by omega) hx1 hx2 (hbl _ _ _) | exact zeo (new3 hsz).2.1 (new3 hsz).1 (new3 hsz).2.2 (by omega) (by omega) (by omega) hx1 hx2 (hbl _ _ _) | exact zeo (new3 hsz).2.1 (new3 hsz).2.2 (new3 hsz).1 (by omega) (by omega) (by omega) hx1 hx2 (hbl _ _ _) | exact zeo (new3 hsz).2.2 (new3 hsz).1 (new3 hsz).2.1 (by omega) (by omega) (by omega) hx1 hx2 (hbl _ _ _) | exact zeo (new3 hsz).2.2 (new3 hsz).2.1 (new3 hsz).1 (by omega) (by omega) (by omega) hx1 hx2 (hbl _ _ _) | fail
 case rest =>
  clear hmd hmm hwr
  obtain ⟨z,g,h,rfl,hv,hd,hm,hz,hg,hh,hb⟩:=hcut
  have hr:zbf wc w.heap.size (.slice none 0 0) (.slice none 0 0) 0:=(hb.block _ (Nat.lt_succ_self _)).trans (zc0 _ _)
  obtain ⟨c0,c1,c2⟩:=hv.cells
  have hl:(List.replicate (n*256) (0:UInt8)).length=n*256:=List.length_replicate ..
  generalize List.replicate (n*256) (0:UInt8)=Z at *
  generalize List.replicate n (0:Int)=Y at *
  have hzg:z≠g:=fun e=>zbE hd hv (by decide) (by rw [e];rfl)
  have hrg:w.heap.size≠g:=fun e=>zbE hd hr (by decide) (by rw [← e];rfl)
  have hhg:h≠g:=fun e=>zeh hm hd (by decide) rfl (by rw [e];rfl)
  have HV:=hid hv
  have HR:=hid hr
  have HM:=hid hm
  have HB:=hid hb
  have HD:=hid hd
  have HL:=hid hl
  clear hv hr hm hb hd hl
  go_wp2_with (with_reducible refine zsH rfl (.tmp 27) (.tmp 28) 36 9 rfl 5 Tryz.underlying36 (by kernel_rfl) _ _ g 0 rfl s rfl w.heap.size _ _ Z HD.out (by omega) (by rw [HL.out];omega) ?_;intro w2 hd2 ht2;obtain ⟨e0,e1,e2⟩:=(HV.out.touch ht2.out hzg).cells;have hr2:=hid (HR.out.touch ht2.out hrg);obtain ⟨r0,r1,r2⟩:=hr2.out.cells;have r3:=hr2.out.free 0;have r4:=hr2.out.free 1;have r5:=hr2.out.free 2)
  have hfin:=hr2.out.store (.slice (some ⟨g,0,none⟩) (n*256) (n*256)) (.slice (some ⟨h,0,none⟩) n n) 0
  obtain ⟨f0,f1,f2⟩:=hfin.cells
  clear e0 e1 e2 r0 r1 r2 r3 r4 r5 c0 c1 c2
  refine bodyPost_ret (v:=.tuple #[.agg #[.slice (some ⟨g,0,none⟩) (n*256) (n*256),.slice (some ⟨h,0,none⟩) n n,.int .u64 0],.int .i64 0]) (by simp [results,Tryz.results40,go_sem,f0,f1,f2]) rfl ?_
  refine ⟨_,_,rfl,?_,?_,?_⟩
  ·exact zb6 hd2.out ((((zan.refl w2 (fun k=>k=w.heap.size)).setCell (.inl rfl) _).setCell (.inl rfl) _).setCell (.inl rfl) _) (fun g' e e2=>hrg (by cases e;exact e2.symm))
  ·exact zb6 (zb6 HM.out ht2.out (fun g' e e2=>hhg (by cases e;exact e2))) ((((zan.refl w2 (fun k=>k=w.heap.size)).setCell (.inl rfl) _).setCell (.inl rfl) _).setCell (.inl rfl) _) (fun g' e e2=>by cases e;exact absurd e2 (show h≠w.heap.size by omega))
  ·have hb1:Below w.heap.size w wc:=(zaf w _).trans (HB.out.mono (Nat.le_succ _))
   have hb2:=zan.below hb1 ht2.out (fun k hk=>by omega) hb1.size
   exact ((hb2.setCell (Nat.le_refl _) _).setCell (Nat.le_refl _) _).setCell (Nat.le_refl _) _
def stB (n:Nat) (t size:Int):Bool:=zcU size && zbq n t size
def stE (n:Nat) (t size:Int):Int:=if zcU size then (if zbq n t size then 0 else 50) else 1
def ldV (D:List UInt8) (t size:Int):Int:=if stB D.length t size then (le ((D.drop (t - 2147483648).toNat).take size.toNat):Nat) else 0
theorem ziZ (dv mv ev:Value) (D:List UInt8) (t size:Int) (w:World) (hd:DAt w dv D) (ht0:0≤t) (ht1:t≤18446744073709551615) :
  TB 211 #[.agg #[dv,mv,ev],.int .u64 t,.int .i64 size] w (.tuple #[.int .u64 (ldV D t size),.int .i64 (stE D.length t size)]):=by
 unfold ldV stE stB
 rcases Bool.eq_false_or_eq_true (zcU size) with hl | hl
 ·rcases Bool.eq_false_or_eq_true (zbq D.length t size) with ht | ht
  ·rw [hl,ht];exact zgS dv D mv ev t size w hd ht0 ht1 hl ht
  ·rw [hl,ht]
   obtain ⟨p,cap,rfl⟩:=hd.is
   exact load_ram p D.length cap mv ev t size w hd.le ht0 ht1 hl ht
 ·rw [hl];exact zkv dv mv ev t size w hl
structure Pt where
 F:List ByteArray
 D:List UInt8
 M:List Int
 O:List Rec
def Ow (m:Mc) (z k:Nat):Prop:=k=z∨some k=m.dv.ownBlock∨some k=m.mv.ownBlock∨some k=m.ov.ownBlock∨some k=(Value.slice m.b.fp m.b.fn m.b.fc).ownBlock
structure MS (w:World) (B z:Nat) (m:Mc) (p:Pt):Prop where
 box:MBox w z m
 big:B≤z
 fr:FT w B (.slice m.b.fp m.b.fn m.b.fc) p.F
 d:OwnD w B m.dv p.D
 mm:OwnM w B m.mv p.M
 o:w.ownsRow B 80 3 m.ov p.O.length (oC p.O)
theorem MS.len {w:World} {B z:Nat} {m:Mc} {p:Pt} (h:MS w B z m p):m.b.fn=p.F.length:=h.fr.rd.len
theorem MS.lt {w:World} {B z:Nat} {m:Mc} {p:Pt} (h:MS w B z m p) {k:Nat} (hk:Ow m z k):B≤k∧k<w.heap.size:=by
 rcases hk with rfl | hk | hk | hk | hk
 ·exact ⟨h.big,h.box.lt⟩
 ·exact zbY h.d hk.symm
 ·exact zbY h.mm hk.symm
 ·exact zbY h.o hk.symm
 ·have hb:=h.fr.blk
  revert hk hb
  cases m.b.fp with
  | none=>intro hk;cases hk
  | some a =>
   intro hk hb
   simp only [Value.ownBlock,Option.some.injEq] at hk
   obtain ⟨h1,cur,h2⟩:=hb a _ _ rfl
   rw [hk]
   exact ⟨h1,(Array.getElem?_eq_some_iff.1 h2).1⟩
theorem FT.keep' {w w':World} {B:Nat} {v:Value} {F:List ByteArray} (h:FT w B v F) (hb:∀ g,v.ownBlock=some g→w'.heap[g]?=w.heap[g]?):FT w' B v F :=
 ⟨zaY.keep h.rd fun p n c hv=>hb _ (by rw [hv];rfl),fun p n c hv=>by obtain ⟨h1,cur,h2⟩:=h.blk p n c hv;exact ⟨h1,cur,(hb _ (by rw [hv];rfl)).trans h2⟩⟩
theorem MS.keep {w w':World} {B z:Nat} {m:Mc} {p:Pt} (h:MS w B z m p) (hb:∀ k,Ow m z k→w'.heap[k]?=w.heap[k]?):MS w' B z m p :=
 ⟨(hb z (.inl rfl)).trans h.box,h.big,h.fr.keep' fun g hg=>hb g (.inr (.inr (.inr (.inr hg.symm)))),zb1 h.d fun g hg=>hb g (.inr (.inl hg.symm)),zb1 h.mm fun g hg=>hb g (.inr (.inr (.inl hg.symm))),zb1 h.o fun g hg=>hb g (.inr (.inr (.inr (.inl hg.symm))))⟩
theorem MS.next {w w':World} {B z:Nat} {m:Mc} {p:Pt} (h:MS w B z m p) (hb:Below w.heap.size w w'):MS w' B z m p:=h.keep fun k hk=>hb.block k (h.lt hk).2
def Did (W W':World) (B z:Nat) (m r:Mc) (p:Pt):Prop :=
 ∃ q c dv mv ov,MS W' B z { r with b:=r.b.at q p.F.length c,dv:=dv,mv:=mv,ov:=ov } p∧zan W W' (Ow m z)∧∀ k,Ow { r with b:=r.b.at q p.F.length c,dv:=dv,mv:=mv,ov:=ov } z k→Ow m z k∨W.heap.size≤k
theorem Did.none {W W':World} {B z:Nat} {m:Mc} {p:Pt} (K:MS W B z m p) (hb:Below W.heap.size W W'):Did W W' B z m m p:=by
 have e:m.b.at m.b.fp p.F.length m.b.fc=m.b:=by rw [← K.len];rfl
 refine ⟨m.b.fp,m.b.fc,m.dv,m.mv,m.ov,?_,zcd hb _,?_⟩
 ·rw [e];exact K.next hb
 ·rw [e];exact fun k hk=>.inl hk
theorem Did.frames {W W' wx:World} {B z:Nat} {m:Mc} {p:Pt} {b:Bd} {F:List ByteArray} {q:Option Addr} {c:Nat} (K:MS W B z m p) (hB:B≤W.heap.size) (hb:Below W.heap.size W wx) (ho:OwnF wx W.heap.size (.slice q F.length c) F) (hw:W'=wx.setRow z (mcC { m with b:=b.at q F.length c })):Did W W' B z m { m with b:=b } { p with F:=F }:=by
 have k:=K.next hb
 refine ⟨q,c,m.dv,m.mv,m.ov,?_,(zcd hb (Ow m z)).trans (by subst hw;exact (zan.refl wx (Ow m z)).setRow (.inl (.inl rfl)) _),?_⟩
 ·have ne:∀ g,g≠z→W'.heap[g]?=wx.heap[g]?:=fun g hg=>by subst hw;exact setRow_other wx z g _ hg
  refine ⟨k.box.put hw,k.big,?_,zb1 k.d fun g hg=>ne g fun x=>zbE k.d k.box (by decide) (by rw [hg,x]),zb1 k.mm fun g hg=>ne g fun x=>zbE k.mm k.box (by decide) (by rw [hg,x]),zb1 k.o fun g hg=>ne g fun x=>zbE k.o k.box (by decide) (by rw [hg,x])⟩
  refine ((FT.of ho).base hB).keep fun g cur _ hg=>ne g fun x=>?_
  subst x
  have:=hg.symm.trans k.box
  simp at this
 ·intro k hk
  rcases hk with hk | hk | hk | hk | hk
  ·exact .inl (.inl hk)
  ·exact .inl (.inr (.inl hk))
  ·exact .inl (.inr (.inr (.inl hk)))
  ·exact .inl (.inr (.inr (.inr (.inl hk))))
  ·exact .inr (zbY ho hk.symm).1
structure POk (m:Mc) (p:Pt):Prop where
 bd:BdOk m.b
 c:Pc.U32 m.b.pl.c
 fz:∀ f∈p.F,f.size≤9223372036854775807
 fl:p.F.length≤8796093022208
 dl:p.D.length≤140737488351232
 ml:p.M.length≤17592186043904
abbrev rcC (r:Rec):Array Value:=#[.int .u64 r.1,.int .i64 r.2.1,.string r.2.2]
abbrev rcV (r:Rec):Value:=.agg (rcC r)
abbrev rcZ:Array Value:=#[.int .u64 0,.int .i64 0,.string ⟨#[]⟩]
abbrev rcO:Obj:=.cells rcZ 80
theorem zh0:∃ i,Tryz.prog.info? 80=some i∧i.zero=some (.agg rcZ)∧i.size=3∧i.bytes=32:=by
 obtain ⟨i,h1,h2,h3,h4⟩:=info_parts (show (Tryz.prog.info? 80).map (fun i=>(i.zero,i.size,i.bytes))=some (some (.agg rcZ),3,32) by kernel_rfl)
 exact ⟨i,h1,h2,h3,h4⟩
theorem Mem.swap {W w:World} {x y:Nat × Array Value × Nat} {l:List (Nat × Array Value × Nat)} {r:List (Nat × Value × Nat × List Value)} (h:Mem W w (x :: y :: l) r):Mem W w (y :: x :: l) r:=by
 have hm:∀ u,u∈y :: x :: l→u∈x :: y :: l:=fun u hu=>by simp only [List.mem_cons] at hu ⊢;rcases hu with h | h | h;exact .inr (.inl h);exact .inl h;exact .inr (.inr h)
 refine ⟨fun u hu=>h.cel u (hm u hu),?_,fun u hu=>h.typ u (hm u hu),fun u hu=>h.big u (hm u hu),h.own,h.row,h.below⟩
 have:=h.nod
 simp only [List.map_cons,List.nodup_cons,List.mem_cons,not_or] at this ⊢
 exact ⟨⟨fun e=>this.1.1 e.symm,this.2.1⟩,this.1.2,this.2.2⟩
theorem FT.over {w:World} {B g t:Nat} {v:Value} {F:List ByteArray} {cs:Array Value} (h:FT w B v F) (k:w.heap[g]?=some (.cells cs t (0,0))) (ht:t≠9) (cs':Array Value):FT (w.setRow g cs') B v F :=
 h.keep fun x cur _ hx=>setRow_other w g x cs' fun e=>by
  subst e
  have:=hx.symm.trans k
  simp only [Option.some.injEq,Obj.cells.injEq] at this
  exact ht this.2.1.symm
theorem zxs {w:World} {B n c sz e:Nat} {q:Option Addr} {xs:List Value} (h:w.ownsRow B e sz (.slice q n c) n xs):(q=none∨∃ g,q=some ⟨g,0,none⟩)∧n≤c:=by
 rcases h.2 with ⟨e1,e2⟩ | ⟨g,cap,cur,e1,_,_,h3,_⟩
 ·simp only [Value.slice.injEq] at e1
  exact ⟨.inl e1.1,by omega⟩
 ·simp only [Value.slice.injEq,true_and] at e1
  exact ⟨.inr ⟨g,e1.1⟩,by omega⟩
theorem zbB {w:World} {B n size g:Nat} {e t:TypeId} {v:Value} {xs:List Value} {c:Array Value} (h:w.ownsRow B e size v n xs) (hp:w.heap[g]?=some (.cells c t (0,0))) (hne:e≠t) (cs:Array Value):(w.setRow g cs).ownsRow B e size v n xs :=
 zb1 h fun x hx=>setRow_other w g x cs fun e=>zbE h hp hne (by rw [hx,e])
theorem zan.trans' {a b c:World} {S S':Nat→Prop} (h:zan a b S) (k:zan b c S') (hS:∀ x,x<a.heap.size→S' x→S x):zan a c S :=
 ⟨k.os.trans h.os,k.tape.trans h.tape,k.output.trans h.output,Nat.le_trans h.size k.size,fun x hx hn=>(k.block x (Nat.lt_of_lt_of_le hx h.size) (fun e=>hn (hS x hx e))).trans (h.block x hx hn)⟩
theorem MS.put {W W':World} {B z:Nat} {m:Mc} {p:Pt} {D:List UInt8} {M:List Int} (K:MS W B z m p) (h:zcz W W' B z 73 m.dv m.mv m.E D M):MS W' B z m { p with D:=D,M:=M }∧zan W W' (Ow m z):=by
 have nb:∀ (g:Nat) (t:TypeId) (cs:Array Value),W.heap[g]?=some (.cells cs t (0,0))→t≠5→t≠22→W'.heap[g]?=W.heap[g]?:=fun g t cs hg h5 h22 =>
  h.t.block g (Array.getElem?_eq_some_iff.1 hg).1 fun hS=>by
   rcases hS with hS | hS
   ·exact zbE K.d hg (fun x=>h5 x.symm) hS.symm
   ·exact zbE K.mm hg (fun x=>h22 x.symm) hS.symm
 refine ⟨⟨(nb z 42 _ K.box (by decide) (by decide)).trans K.box,K.big,K.fr.keep fun g cur _ hg=>nb g 9 cur hg (by decide) (by decide),h.d,h.m,zb1 K.o fun g hg=>?_⟩,h.t.mono fun k _ hk=>?_⟩
 ·obtain ⟨cur,hc⟩:=zdN K.o hg
  exact nb g 80 cur hc (by decide) (by decide)
 ·rcases hk with hk | hk
  ·exact .inr (.inl hk)
  ·exact .inr (.inr (.inl hk))
theorem Did.put {W W':World} {B z:Nat} {m:Mc} {p:Pt} {D:List UInt8} {M:List Int} (K:MS W B z m p) (h:zcz W W' B z 73 m.dv m.mv m.E D M):Did W W' B z m m { p with D:=D,M:=M }:=by
 have e:m.b.at m.b.fp p.F.length m.b.fc=m.b:=by rw [← K.len];rfl
 refine ⟨m.b.fp,m.b.fc,m.dv,m.mv,m.ov,?_,(K.put h).2,?_⟩
 ·show MS W' B z { m with b:=m.b.at m.b.fp p.F.length m.b.fc } { p with D:=D,M:=M }
  rw [e]
  exact (K.put h).1
 ·show ∀ k,Ow { m with b:=m.b.at m.b.fp p.F.length m.b.fc } z k→_
  rw [e]
  exact fun k hk=>.inl hk
theorem Did.before {W w W':World} {B z:Nat} {m r:Mc} {p:Pt} (h:Did w W' B z m r p) (ht:zan W w (Ow m z)):Did W W' B z m r p:=by
 obtain ⟨q,c,dv,mv,ov,h1,h2,h3⟩:=h
 exact ⟨q,c,dv,mv,ov,h1,ht.trans h2,fun k hk=>(h3 k hk).imp id (Nat.le_trans ht.size)⟩
structure MR (w:World) (m:Mc) (p:Pt):Prop where
 fr:FAt w (.slice m.b.fp m.b.fn m.b.fc) p.F
 d:DAt w m.dv p.D
 mm:MAt w m.mv p.M
 o:zaY w m.ov 3 p.O.length (oC p.O)
theorem MR.next {w w':World} {m:Mc} {p:Pt} (h:MR w m p) (hb:Below w.heap.size w w'):MR w' m p:=⟨h.fr.next hb,h.d.below hb,h.mm.below hb,h.o.below hb⟩
theorem MS.rd {w:World} {B z:Nat} {m:Mc} {p:Pt} (h:MS w B z m p):MR w m p:=⟨h.fr.rd,h.d.at,h.mm.at,zeE h.o⟩
theorem Mem.two {W:World} (cs cs':Array Value):Mem W ((W.alloc (.cells cs 42)).alloc (.cells cs' 42)) [(W.heap.size+1,cs',42),(W.heap.size,cs,42)] []:=by
 have h:=((Mem.start W).new cs 42 (by decide)).new cs' 42 (by decide)
 rwa [World.size_alloc] at h
theorem Mem.m1 {W w:World} {x0:Nat × Array Value × Nat} {k:Nat} {m:Mc} {l:List (Nat × Array Value × Nat)} {r:List (Nat × Value × Nat × List Value)} (h:Mem W w (x0 :: (k,mcC m,42) :: l) r):MBox w k m:=h.g1
theorem MBox.load_b' {w:World} {g:Nat} {m:Mc} (k:MBox w g m) {b:Bd} (e:m.b=b):(Instr.loadAt 35 (.pointer (some ⟨g,52,none⟩))).run Tryz.prog w=.ok (bdV b) w:=by subst e;exact k.load_b
theorem MBox.load_o' {w:World} {g:Nat} {m:Mc} (k:MBox w g m) {v:Value} (e:m.ov=v):(Instr.loadAt 40 (.pointer (some ⟨g,78,none⟩))).run Tryz.prog w=.ok v w:=by subst e;exact k.load_o
theorem zqO (w:World) (t ty e:TypeId) (i:TypeInfo) (z:Value) (size bytes:Nat) (ht:Tryz.prog.underlying t=some (.slice e)) (hi:Tryz.prog.info? e=some i) (hz:i.zero=some z) (hsize:i.size=size) (hby:i.bytes=bytes) (hzs:z.cells.size=size) (h0:0<size)
  (B g:Nat) (hg:w.heap[g]?=some (.cells #[] e (0,0))) (hB:B≤g) (q:Option Addr) (n c:Nat) (cells:List Value) (hr:zaY w (.slice q n c) size n cells) (h1:∀ u∈cells,u.oneCell'=true) (h63:n≤maxLen) (hbytes:n*bytes≤140737488355328) (hbase:B≤w.heap.size) :
  ∃ p cap w',(Builtin.append_ #[t,t] ty #[.slice (some ⟨g,0,none⟩) 0 0,.slice q n c]).run Tryz.prog w=.ok (.slice p n cap) w'∧w'.ownsRow B e size (.slice p n cap) n cells∧zan w w' (fun k=>k=g):=by
 have hown:=zjG (w:=w) (B:=B) (size:=size) hg hB
 have hl:=hr.1
 rcases hr.2 with ⟨e1,rfl⟩ | ⟨a,c2,e1,_,_,hc⟩
 ·simp only [Value.slice.injEq] at e1
  obtain ⟨rfl,_,rfl⟩:=e1
  obtain rfl:cells=[]:=List.eq_nil_of_length_eq_zero (by rw [hl,Nat.zero_mul])
  refine ⟨_,_,w,run_append_owned_none (P:=Tryz.prog) w B t ty e i size ht hi _ 0 [] hown,hown,zan.refl _ _⟩
 ·simp only [Value.slice.injEq,true_and] at e1
  obtain ⟨rfl,rfl⟩:=e1
  obtain ⟨v',w',hrun,ho,hgr,_⟩:=run_append_own (P:=Tryz.prog) w B t ty e i z size bytes ht hi hz hsize hby hzs h0 _ 0 [] hown a n c cells hl hc h1 (by omega) (by rw [Nat.zero_add];exact hbytes) hbase
  rw [Nat.zero_add,List.nil_append] at ho
  obtain ⟨p,cap,rfl⟩:=zbJ ho
  exact ⟨p,cap,w',hrun,ho,(ziJ hgr).mono (fun k _ hk=>by cases hk;rfl)⟩
theorem zlN (w:World) (q:Option Addr) (c:Nat) (O:List Rec) (hr:zaY w (.slice q O.length c) 3 O.length (oC O)) (hO:O.length*32≤140737488355328):∃ p cap w',(Builtin.append_ #[40,40] 40 #[.slice (some ⟨w.heap.size,0,none⟩) 0 0,.slice q O.length c]).run Tryz.prog (w.alloc (.cells #[] 80))=.ok (.slice p O.length cap) w'∧w'.ownsRow w.heap.size 80 3 (.slice p O.length cap) O.length (oC O)∧Below w.heap.size w w':=by
 obtain ⟨i,hi,hz,hs,hb⟩:=zh0
 obtain ⟨p,cap,w2,hrun,ho,ht⟩:=zqO (w.alloc (.cells #[] 80)) 40 40 80 i (.agg rcZ) 3 32 Tryz.underlying40 hi hz hs hb rfl (by omega) w.heap.size w.heap.size (heap_alloc_last w _) (Nat.le_refl _) q O.length c (oC O) (hr.below (zaf w _)) (zv3 O) (by unfold maxLen;omega) hO (by simp)
 exact ⟨p,cap,w2,hrun,ho,zan.below (zaf w _) ht (fun k hk=>by omega) (by simp)⟩
theorem zwu (m:Mc) (p:Pt) (W:World) (K:MR W m p) (hF:p.F.length≤8796093022208) (hD:p.D.length≤140737488351232) (hM:p.M.length≤17592186043904) (hO:p.O.length*32≤140737488355328):Calls Tryz.prog 26 #[mcV m] W fun e W' =>
  ∃ q c dv mv ov,e=.returned (mcV { m with b:=m.b.at q p.F.length c,dv:=dv,mv:=mv,ov:=ov })∧FT W' W.heap.size (.slice q p.F.length c) p.F∧OwnD W' W.heap.size dv p.D∧OwnM W' W.heap.size mv p.M∧W'.ownsRow W.heap.size 80 3 ov p.O.length (oC p.O)∧Below W.heap.size W W':=by
 obtain ⟨qo,co,hov⟩:=K.o.is
 have C1:=hid (fun W' (h:Below W.heap.size W W')=>ztP m.dv m.mv m.E p.D p.M W' (K.next h).d (K.next h).mm hD hM)
 have C2:=hid (fun W' (h:Below W.heap.size W W')=>zqh m.b p.F W' (K.next h).fr hF)
 have C3:=hid (fun W' (h:Below W.heap.size W W')=>zlN W' qo co p.O (hov ▸ (K.next h).o) hO)
 have HV:=hid hov
 clear K hF hD hM hO hov
 go_enter Tryz.func26,Tryz.ntmps26
 go_upto_region 1 with (fail)
 have X:=hid (Mem.two (W:=W) (mcC m) Tryz.zeroCells42)
 generalize (W.alloc (Obj.cells (mcC m) 42)).alloc (Obj.cells Tryz.zeroCells42 42)=wa at X ⊢
 go_upto_region 2 with (first | (with_reducible refine zaa rfl rfl (MBox.load_ram X.out.m1) rfl ?_) | (go_at_call 57;(with_reducible refine (C1.out _ X.out.below).mono ?_);rintro e wb ⟨dv,mv,rfl,hd,hm,kk⟩;obtain ⟨p2,c2,rfl⟩:=zbJ hd;obtain ⟨q2,d2,rfl⟩:=zbJ hm;have XB:=X.out.below.size;have X:=hid (((X.out.next kk).addrow hd XB (by decide)).addrow hm XB (by decide));clear kk hd hm XB) | (with_reducible refine zam rfl rfl (MBox.store_ram X.out.m1 p2 q2 p.D.length c2 p.M.length d2 m.E) rfl rfl ?_) | fail)
 have X:=hid (X.out.p1 (cs':=mcC { m with dv:=.slice p2 p.D.length c2,mv:=.slice q2 p.M.length d2 }) rfl)
 generalize wb.setRow W.heap.size (mcC { m with dv:=.slice p2 p.D.length c2,mv:=.slice q2 p.M.length d2 })=wc at X ⊢
 go_upto_region 3 with (first | (with_reducible refine zaa rfl rfl (MBox.load_b' (b:=m.b) X.out.m1 rfl) rfl ?_) | (go_at_call 58;(with_reducible refine (C2.out _ X.out.below).mono ?_);rintro e wd ⟨q,c,rfl,hf,kk⟩;have XB:=X.out.below.size;have X:=hid ((X.out.next kk).addrow hf XB (by decide));clear kk hf XB) | (with_reducible refine zam rfl rfl (MBox.store_b X.out.m1 (m.b.at q p.F.length c)) rfl rfl ?_) | fail)
 have X:=hid (X.out.p1 (cs':=mcC { m with b:=m.b.at q p.F.length c,dv:=.slice p2 p.D.length c2,mv:=.slice q2 p.M.length d2 }) rfl)
 generalize wd.setRow W.heap.size _=we at X ⊢
 generalize hm5:({ m with b:=m.b.at q p.F.length c,dv:=.slice p2 p.D.length c2,mv:=.slice q2 p.M.length d2 }:Mc)=m5 at X
 have hov:m5.ov=.slice qo p.O.length co:=by rw [← hm5];exact HV.out
 have X1:=hid (X.out.next (zaf we (.cells #[] 80)))
 obtain ⟨p4,c4,w4,hrun,ho,hb⟩:=C3.out we X.out.below
 have HR:=hid hrun
 have X4:=hid (X.out.next hb)
 have HO:=hid (zcL ho X.out.below.size)
 have HV5:=hid hov
 have HM:=hid hm5
 clear hrun ho hb hov hm5
 go_upto_region 4 with (first | (with_reducible refine zaa rfl rfl (MBox.load_o' X1.out.m1 HV5.out) rfl ?_) | (at_builtin;(refine zfy rfl _ _ 40 rfl _ _ _ rfl rfl _ HR.out ?_)) | (with_reducible refine zam rfl rfl (MBox.store_o X4.out.m1 p4 p.O.length c4) rfl rfl ?_) | fail)
 have X5:=hid (X4.out.p1 (cs':=mcC { m5 with ov:=.slice p4 p.O.length c4 }) rfl)
 have HO:=hid (zbB HO.out X4.out.g1 (by decide) (mcC { m5 with ov:=.slice p4 p.O.length c4 }))
 generalize hm6:({ m5 with ov:=.slice p4 p.O.length c4 }:Mc)=m6 at X5 HO ⊢
 generalize w4.setRow W.heap.size (mcC m6)=w5 at X5 HO ⊢
 have h1:Mc1 m6:=by subst hm6;rw [← HM.out];exact ⟨rfl,rfl,rfl⟩
 have HN:=hid h1
 have HM6:=hid hm6
 clear X X1 X4 h1 hm6 C1 C2 C3
 go_wp2_with (first | (with_reducible first | refine zaa rfl rfl (MBox.load X5.out.m1) rfl ?_ | refine zam rfl rfl (MBox.store m6 HN.out X5.out.g0 (by kernel_rfl)) rfl rfl ?_) | fail)
 have X6:=hid (X5.out.p0 (cs':=mcC m6) rfl)
 have HO:=hid (zbB HO.out X5.out.g0 (by decide) (mcC m6))
 generalize w5.setRow (W.heap.size+1) (mcC m6)=w6 at X6 HO ⊢
 refine bodyPost_ret (v:=mcV m6) (results_cell_row Tryz.results26 _ _ (W.heap.size+1) 42 (mcC m6) (0,0) _ rfl X6.out.g0 Tryz.underlying42 rfl (by rw [zgq,zcv])) rfl ⟨q,c,.slice p2 p.D.length c2,.slice q2 p.M.length d2,.slice p4 p.O.length c4,?_,FT.of X6.out.r0,X6.out.r2,X6.out.r1,HO.out,X6.out.below⟩
 rw [← HM6.out,← HM.out]
theorem znx {w:World} {p:Option Addr} {n cap:Nat} {D:List UInt8} (h:DAt w (.slice p n cap) D):(convert 36 9 (.slice p n cap)).run Tryz.prog w=.ok (.string ⟨D.toArray⟩) w:=by
 rcases h.2 with ⟨e,h0⟩ | ⟨a,c,e,_,_,hc⟩
 ·simp only [Value.slice.injEq] at e
  obtain ⟨rfl,rfl,rfl⟩:=e
  obtain rfl:D=[]:=List.eq_nil_of_length_eq_zero h0
  rw [run_convert_bytes_string w 36 9 5 none 0 0 Tryz.underlying36 Tryz.underlying5 Tryz.underlying9]
  rfl
 ·simp only [Value.slice.injEq] at e
  obtain ⟨rfl,rfl,rfl⟩:=e
  exact run_convert_bytes_back (P:=Tryz.prog) w 36 9 5 a cap D Tryz.underlying36 Tryz.underlying5 Tryz.underlying9 (fun j hj=>hc j _ (by simp [dC,hj]))
structure CP (w:World) (N:Nat) (q:Option Addr) (c:Nat) (dv mv ov:Value) (p:Pt):Prop where
 fr:FT w N (.slice q p.F.length c) p.F
 d:OwnD w N dv p.D
 mm:OwnM w N mv p.M
 o:w.ownsRow N 80 3 ov p.O.length (oC p.O)
theorem CP.next {w w':World} {N:Nat} {q:Option Addr} {c:Nat} {dv mv ov:Value} {p:Pt} (h:CP w N q c dv mv ov p) (hb:Below w.heap.size w w'):CP w' N q c dv mv ov p:=⟨h.fr.below hb,h.d.below hb,h.mm.below hb,zcY h.o hb⟩
theorem CP.base {w:World} {N B:Nat} {q:Option Addr} {c:Nat} {dv mv ov:Value} {p:Pt} (h:CP w N q c dv mv ov p) (hB:B≤N):CP w B q c dv mv ov p:=⟨h.fr.base hB,zcL h.d hB,zcL h.mm hB,zcL h.o hB⟩
theorem CP.over {w:World} {N g:Nat} {q:Option Addr} {c:Nat} {dv mv ov:Value} {p:Pt} {cs:Array Value} (h:CP w N q c dv mv ov p) (k:w.heap[g]?=some (.cells cs 42 (0,0))) (cs':Array Value):CP (w.setRow g cs') N q c dv mv ov p :=
 ⟨h.fr.over k (by decide) cs',zbB h.d k (by decide) cs',zbB h.mm k (by decide) cs',zbB h.o k (by decide) cs'⟩
abbrev atM (m:Mc) (n:Nat) (q:Option Addr) (c:Nat) (dv mv ov:Value):Mc:={ m with b:=m.b.at q n c,dv:=dv,mv:=mv,ov:=ov }
theorem CP.ms {w:World} {N z:Nat} {q:Option Addr} {c:Nat} {dv mv ov:Value} {p:Pt} {m:Mc} (h:CP w N q c dv mv ov p) (hz:N≤z) (k:MBox w z (atM m p.F.length q c dv mv ov)):MS w N z (atM m p.F.length q c dv mv ov) p:=⟨k,hz,h.fr,h.d,h.mm,h.o⟩
end Go.Proofs.YtmjjpgaeboaamaaGreatDoor
namespace Go.Proofs.YtmjjpgaeboaamaaGreatDoor.Wk
open Go.RowKit Go.Deep Go.Joins
set_option maxRecDepth 100000
def nzV (n m:Int):Bool:=bits .and .u64 n m != 0
def bV (n b:Int):Bool:=bits .and .u64 (n / b) 1==1
def U64 (x:Int):Prop:=0≤x∧x<18446744073709551616
def bitT (x:Int) (i:Nat):Bool:=(BitVec.ofInt 64 x).getLsbD i
theorem zdY (y:BitVec 64):BitVec.ofInt 64 (IntKind.u64.wrap (y.toNat:Int))=y:=by
 have h:=y.isLt
 have e:IntKind.u64.wrap (y.toNat:Int)=(y.toNat:Int):=by rw [IntKind.wrap_u64];omega
 rw [e,BitVec.ofInt_natCast]
 simp
theorem zfn (a b:Int):BitVec.ofInt 64 (bits .and .u64 a b)=BitVec.ofInt 64 a &&& BitVec.ofInt 64 b:=zdY _
theorem zfr (a b:Int):BitVec.ofInt 64 (bits .andNot .u64 a b)=BitVec.ofInt 64 a &&& ~~~BitVec.ofInt 64 b:=zdY _
theorem zdM (a b:Int) (i:Nat):bitT (bits .and .u64 a b) i=(bitT a i && bitT b i):=by unfold bitT;rw [zfn,BitVec.getLsbD_and]
theorem zg0 (a b:Int) (i:Nat) (hi:i<64):bitT (bits .andNot .u64 a b) i=(bitT a i && !bitT b i):=by
 unfold bitT
 rw [zfr,BitVec.getLsbD_and,BitVec.getLsbD_not]
 simp [hi]
theorem zag (op:BinOp) (a b:Int):U64 (bits op .u64 a b):=⟨bits_lo_u64 op a b,by have:=bits_hi_u64 op a b;omega⟩
theorem zdP (a b:Int) (ha:U64 a) (hb:U64 b) (h:∀ i,i<64→bitT a i=bitT b i):a=b:=by
 have e:BitVec.ofInt 64 a=BitVec.ofInt 64 b:=BitVec.eq_of_getLsbD_eq fun i hi=>h i hi
 obtain ⟨n,rfl⟩:=Int.eq_ofNat_of_zero_le ha.1
 obtain ⟨k,rfl⟩:=Int.eq_ofNat_of_zero_le hb.1
 have e2:=congrArg BitVec.toNat e
 rw [BitVec.ofInt_natCast,BitVec.ofInt_natCast,BitVec.toNat_ofNat,BitVec.toNat_ofNat] at e2
 have h1:=ha.2
 have h2:=hb.2
 omega
theorem zdF (i:Nat):bitT 0 i=false:=by unfold bitT;simp
theorem zap:U64 0:=⟨by omega,by omega⟩
structure zdv (C:Array Value) (ms sp:Int):Prop where
 size:C.size=16
 f0:C[0]?=some (.int .u64 ms)
 f15:C[15]?=some (.int .u64 sp)
theorem zc5:(Tryz.prog.info? 25).map (·.size)=some 16:=by kernel_rfl
end Go.Proofs.YtmjjpgaeboaamaaGreatDoor.Wk
namespace Go.Proofs.YtmjjpgaeboaamaaGreatDoor.Wk
open Go.RowKit Go.Deep Go.Joins
set_option maxRecDepth 100000
def Box (w:World) (b:Nat) (C:Array Value):Prop:=w.heap[b]?=some (.cells C 25 (0,0))
theorem Box.lt {w:World} {b:Nat} {C:Array Value} (k:Box w b C):b<w.heap.size:=(Array.getElem?_eq_some_iff.1 k).1
theorem Box.next {w w':World} {b:Nat} {C:Array Value} (k:Box w b C) (j:Below w.heap.size w w'):Box w' b C:=(j.block b k.lt).trans k
theorem Box.alloc {w:World} {b:Nat} {C:Array Value} (k:Box w b C) (o:Obj):Box (w.alloc o) b C:=k.next ((Below.refl _ _).alloc (Nat.le_refl _) o)
theorem Box.new (w:World) (C:Array Value):Box (w.alloc (.cells C 25)) w.heap.size C:=heap_alloc_last w _
theorem Box.load {w:World} {b:Nat} {C:Array Value} (k:Box w b C) (h:C.size=16):(Instr.loadAt 25 (.pointer (some ⟨b,0,none⟩))).run Tryz.prog w=.ok (.agg C) w:=by
 simp only [Instr.loadAt,Instr.sureAddr,Sem.run_bind,Sem.run_pure,Result.andThen]
 exact run_loadVar_row w b 25 25 C (0,0) _ k Tryz.underlying25 rfl (by rw [zc5,h])
theorem Box.cell {w:World} {b:Nat} {C:Array Value} (k:Box w b C) (i:Nat):w.cell? ⟨b,i,none⟩=C[i]?:=cell_of_row w b i C 25 (0,0) k
end Go.Proofs.YtmjjpgaeboaamaaGreatDoor.Wk
namespace Go.Proofs.YtmjjpgaeboaamaaGreatDoor.Wk
open Go.RowKit Go.Deep Go.Joins
set_option maxRecDepth 100000
def zdq (ms m kind:Int):Int:=if (m==3 && kind != 0 && nzV ms 131072)=true then bits .and .u64 (ms / 2048) 3 else m
theorem and3 (n:Int):0≤bits .and .u64 n 3∧bits .and .u64 n 3≤3:=by
 have u:=zag .and n 3
 refine ⟨u.1,?_⟩
 have e:bits .and .u64 n 3=bits .and .u64 (bits .and .u64 n 3) 3:=by
  refine zdP _ _ (zag _ _ _) (zag _ _ _) fun i _=>?_
  rw [zdM,zdM,zdM]
  cases bitT n i <;> cases bitT 3 i <;> rfl
 obtain ⟨k,hk⟩:=Int.eq_ofNat_of_zero_le u.1
 have h2:=u.2
 rw [hk] at e h2 ⊢
 have h:=bits_and_u64_nat k 3 (by omega) (by omega)
 rw [show (3:Int)=((3:Nat):Int) from rfl,h] at e
 have:k &&& 3≤3:=Nat.and_le_right
 omega
theorem zoT (n:Int):wrap64 (bits .and .u64 n 3)=bits .and .u64 n 3:=by
 have h:=and3 n
 generalize bits .and .u64 n 3=x at *
 unfold wrap64
 omega
def topV (t:Int):Int:=wrap64 t / 274877906944
def zeO (t:Int):Bool:=topV t==0 || topV t==-1
def zc9 (kind:Int):Int:=if kind=0 then 12 else if kind=1 then 13 else 15
def accV (kind:Int):Int:=if kind=0 then 1 else if kind=1 then 5 else 7
def zcA (n:Int):Int:=IntKind.u64.wrap (bits .and .u64 n 17592186044415*4096)
def zfh (t:Int) (k:Nat):Int:=bits .and .u64 (t / 2 ^ (12+9*k)) 511
def zeg (e:Int):Bool:=!(bits .and .u64 e 1==0 || e / 18014398509481984 != 0) && bits .and .u64 e 6 != 4
def mayB (ms mode:Int) (user:Bool) (kind:Int):Bool:=if mode=0 then user else if mode=1 then !user || (kind != 0 && nzV ms 262144) else true
def zdc (ms mode e kind:Int):Bool :=
 if (bits .and .u64 e 64==0 || !mayB ms mode (nzV e 16) kind)=true then false
 else if kind=0 then nzV e 8 else if kind=1 then nzV e 2 || (nzV e 8 && nzV ms 524288) else nzV e 4 && nzV e 128
theorem zfS (C:Array Value) (ms sp m kind:Int) (h:zdv C ms sp) (W:World):TB 256 #[.agg C,.int .i64 m,.int .i64 kind] W (.int .i64 (zdq ms m kind)):=by
 have f0:=h.f0
 have w3:=hid (zoT (ms / 2048))
 clear h
 rcases Bool.eq_false_or_eq_true (m==3) with a | a
 all_goals rcases Bool.eq_false_or_eq_true (kind != 0) with b | b
 all_goals rcases Bool.eq_false_or_eq_true (bits .and .u64 ms 131072 != 0) with c | c
 all_goals
  go_enter Tryz.func256,Tryz.ntmps256
  go_wp2
  go_ret
  exact ⟨zah (by unfold zdq;simp [nzV,a,b,c,w3.out]),(Below.refl _ _).alloc (Nat.le_refl _) _⟩
theorem zgl (t:Int) (W:World):TW 257 #[.int .u64 t] W (.bool (zeO t)):=by
 rcases Bool.eq_false_or_eq_true (wrap64 t / 274877906944==0) with a | a
 all_goals rcases Bool.eq_false_or_eq_true (wrap64 t / 274877906944==-1) with b | b
 all_goals
  go_enter Tryz.func257,Tryz.ntmps257
  go_wp2
  go_ret
  exact ⟨zbu (by unfold zeO topV;simp [a,b]),rfl⟩
theorem zde (kind:Int) (h0:0≤kind) (h2:kind≤2) (W:World):TW 258 #[.int .i64 kind] W (.int .i64 (zc9 kind)):=by
 have i0:∀ w:World,(Instr.index 224 (.agg #[.int .i64 12,.int .i64 13,.int .i64 15]) (.int .i64 0)).run Tryz.prog w=.ok (.int .i64 12) w:=fun _=>by kernel_rfl
 have i1:∀ w:World,(Instr.index 224 (.agg #[.int .i64 12,.int .i64 13,.int .i64 15]) (.int .i64 1)).run Tryz.prog w=.ok (.int .i64 13) w:=fun _=>by kernel_rfl
 have i2:∀ w:World,(Instr.index 224 (.agg #[.int .i64 12,.int .i64 13,.int .i64 15]) (.int .i64 2)).run Tryz.prog w=.ok (.int .i64 15) w:=fun _=>by kernel_rfl
 obtain rfl | rfl | rfl:kind=0∨kind=1∨kind=2:=by omega
 all_goals
  go_enter Tryz.func258,Tryz.ntmps258
  go_wp2
  go_ret
  exact ⟨rfl,rfl⟩
theorem zgz (kind:Int) (h0:0≤kind) (h2:kind≤2) (W:World):TW 261 #[.int .i64 kind] W (.int .i64 (accV kind)):=by
 have i0:∀ w:World,(Instr.index 224 (.agg #[.int .i64 1,.int .i64 5,.int .i64 7]) (.int .i64 0)).run Tryz.prog w=.ok (.int .i64 1) w:=fun _=>by kernel_rfl
 have i1:∀ w:World,(Instr.index 224 (.agg #[.int .i64 1,.int .i64 5,.int .i64 7]) (.int .i64 1)).run Tryz.prog w=.ok (.int .i64 5) w:=fun _=>by kernel_rfl
 have i2:∀ w:World,(Instr.index 224 (.agg #[.int .i64 1,.int .i64 5,.int .i64 7]) (.int .i64 2)).run Tryz.prog w=.ok (.int .i64 7) w:=fun _=>by kernel_rfl
 obtain rfl | rfl | rfl:kind=0∨kind=1∨kind=2:=by omega
 all_goals
  go_enter Tryz.func261,Tryz.ntmps261
  go_wp2
  go_ret
  exact ⟨rfl,rfl⟩
theorem zcP (n:Int) (W:World):TW 259 #[.int .u64 n] W (.int .u64 (zcA n)):=by
 go_enter Tryz.func259,Tryz.ntmps259
 go_wp2
 go_ret
 exact ⟨rfl,rfl⟩
theorem zgQ (t:Int) (k:Nat) (hk:k≤2) (W:World):TW 260 #[.int .u64 t,.int .i64 k] W (.int .u64 (zfh t k)):=by
 obtain rfl | rfl | rfl:k=0∨k=1∨k=2:=by omega
 all_goals
  go_enter Tryz.func260,Tryz.ntmps260
  go_wp2
  go_ret
  exact ⟨rfl,rfl⟩
theorem zcx (n:Int) (W:World):TW 262 #[.int .u64 n] W (.bool (zeg n)):=by
 rcases Bool.eq_false_or_eq_true (bits .and .u64 n 1==0) with a | a
 all_goals rcases Bool.eq_false_or_eq_true (n / 18014398509481984 != 0) with b | b
 all_goals
  go_enter Tryz.func262,Tryz.ntmps262
  go_wp2
  go_ret
  exact ⟨zbu (by unfold zeg;simp [a,b]),rfl⟩
theorem za4 (C:Array Value) (ms sp mode:Int) (user:Bool) (kind:Int) (h:zdv C ms sp) (W:World):TB 320 #[.agg C,.int .i64 mode,.bool user,.int .i64 kind] W (.bool (mayB ms mode user kind)):=by
 have f0:=h.f0
 clear h
 by_cases h0:mode=0
 ·subst h0
  go_enter Tryz.func320,Tryz.ntmps320
  go_wp2
  go_ret
  exact ⟨rfl,(Below.refl _ _).alloc (Nat.le_refl _) _⟩
 have g0:(mode==0)=false:=by simpa using h0
 by_cases h1:mode=1
 ·subst h1
  clear h0 g0
  rcases Bool.eq_false_or_eq_true (kind != 0) with a | a
  all_goals rcases Bool.eq_false_or_eq_true (bits .and .u64 ms 262144 != 0) with b | b
  all_goals cases user
  all_goals
   go_enter Tryz.func320,Tryz.ntmps320
   go_wp2
   go_ret
   exact ⟨zbu (by simp [mayB,nzV,a,b]),(Below.refl _ _).alloc (Nat.le_refl _) _⟩
 have g1:(mode==1)=false:=by simpa using h1
 go_enter Tryz.func320,Tryz.ntmps320
 go_wp2
 go_ret
 exact ⟨zbu (by simp [mayB,h0,h1]),(Below.refl _ _).alloc (Nat.le_refl _) _⟩
end Go.Proofs.YtmjjpgaeboaamaaGreatDoor.Wk
namespace Go.Proofs.YtmjjpgaeboaamaaGreatDoor.Wk
open Go.RowKit Go.Deep Go.Joins
set_option maxRecDepth 100000
theorem zuV (C:Array Value) (ms sp mode e kind:Int) (h:zdv C ms sp) (h0:0≤kind) (h2:kind≤2) (W:World):Calls Tryz.prog 263 #[.agg C,.int .i64 mode,.int .u64 e,.int .i64 kind] W fun e' W'=>e'=.returned (.bool (zdc ms mode e kind))∧Below W.heap.size W W':=by
 have f0:=h.f0
 have hC:=h.size
 have b0:=hid (Box.new W C)
 have H:=hid h
 clear h
 have cM:=hid fun (m:Int) (u:Bool) (k:Int) W=>za4 C ms sp m u k H.out W
 clear H
 rcases Bool.eq_false_or_eq_true (bits .and .u64 e 64==0) with a | a
 ·go_enter Tryz.func263,Tryz.ntmps263
  go_wp2
  go_ret
  exact ⟨zbu (by simp [zdc, *]),zaf W _⟩
 have HB:∀ b,mayB ms mode (bits .and .u64 e 16 != 0) kind=b→Hid (mayB ms mode (bits .and .u64 e 16 != 0) kind=b):=fun _ h=>hid h
 rcases Bool.eq_false_or_eq_true (mayB ms mode (bits .and .u64 e 16 != 0) kind) with b | b
 rotate_left
 ·replace b:=HB _ b
  clear HB
  go_enter Tryz.func263,Tryz.ntmps263
  go_wp2_with (first | (with_reducible show wpList _ _ _ (⟨some 13,Op.load 25 (.tmp 4),25,_,_,_⟩ :: _) _ _;refine zbO (by kernel_rfl) rfl (Box.load (b0.out) hC) rfl ?_;simp only [Act.put,List.setIfInBounds_toArray,List.set_cons_zero,List.set_cons_succ]) | (go_at_call 320;(with_reducible refine (cM.out _ _ _ _).mono ?_);rintro e' w1 ⟨rfl,k1⟩;rw [b.out];have c0:=hid ((((b0.out).next k1).cell 0).trans f0);have k1:=hid k1) | fail)
  go_ret
  exact ⟨zbu (by have:=b.out;simp [zdc,nzV, *]),zad (zaf W _) k1.out⟩
 replace b:=HB _ b
 clear HB
 rcases (show kind=0∨kind=1∨kind=2 by omega) with hk | hk | hk
 ·subst hk
  rcases Bool.eq_false_or_eq_true (bits .and .u64 e 8 != 0) with c0 | c0
  all_goals
   go_enter Tryz.func263,Tryz.ntmps263
   go_wp2_with (first | (with_reducible show wpList _ _ _ (⟨some 13,Op.load 25 (.tmp 4),25,_,_,_⟩ :: _) _ _;refine zbO (by kernel_rfl) rfl (Box.load (b0.out) hC) rfl ?_;simp only [Act.put,List.setIfInBounds_toArray,List.set_cons_zero,List.set_cons_succ]) | (go_at_call 320;(with_reducible refine (cM.out _ _ _ _).mono ?_);rintro e' w1 ⟨rfl,k1⟩;rw [b.out];have c0:=(((b0.out).next k1).cell 0).trans f0;have k1:=hid k1) | fail)
   go_ret
   exact ⟨zbu (by have:=b.out;simp [zdc,nzV, *]),zad (zaf W _) k1.out⟩
 ·subst hk
  rcases Bool.eq_false_or_eq_true (bits .and .u64 e 2 != 0) with c0 | c0
  all_goals rcases Bool.eq_false_or_eq_true (bits .and .u64 e 8 != 0) with c1 | c1
  all_goals rcases Bool.eq_false_or_eq_true (bits .and .u64 ms 524288 != 0) with c2 | c2
  all_goals
   go_enter Tryz.func263,Tryz.ntmps263
   go_wp2_with (first | (with_reducible show wpList _ _ _ (⟨some 13,Op.load 25 (.tmp 4),25,_,_,_⟩ :: _) _ _;refine zbO (by kernel_rfl) rfl (Box.load (b0.out) hC) rfl ?_;simp only [Act.put,List.setIfInBounds_toArray,List.set_cons_zero,List.set_cons_succ]) | (go_at_call 320;(with_reducible refine (cM.out _ _ _ _).mono ?_);rintro e' w1 ⟨rfl,k1⟩;rw [b.out];have c0:=(((b0.out).next k1).cell 0).trans f0;have k1:=hid k1) | fail)
   go_ret
   exact ⟨zbu (by have:=b.out;simp [zdc,nzV, *]),zad (zaf W _) k1.out⟩
 ·subst hk
  rcases Bool.eq_false_or_eq_true (bits .and .u64 e 4 != 0) with c0 | c0
  all_goals rcases Bool.eq_false_or_eq_true (bits .and .u64 e 128 != 0) with c1 | c1
  all_goals
   go_enter Tryz.func263,Tryz.ntmps263
   go_wp2_with (first | (with_reducible show wpList _ _ _ (⟨some 13,Op.load 25 (.tmp 4),25,_,_,_⟩ :: _) _ _;refine zbO (by kernel_rfl) rfl (Box.load (b0.out) hC) rfl ?_;simp only [Act.put,List.setIfInBounds_toArray,List.set_cons_zero,List.set_cons_succ]) | (go_at_call 320;(with_reducible refine (cM.out _ _ _ _).mono ?_);rintro e' w1 ⟨rfl,k1⟩;rw [b.out];have c0:=(((b0.out).next k1).cell 0).trans f0;have k1:=hid k1) | fail)
   go_ret
   exact ⟨zbu (by have:=b.out;simp [zdc,nzV, *]),zad (zaf W _) k1.out⟩
end Go.Proofs.YtmjjpgaeboaamaaGreatDoor.Wk
