/- MachineNumbers, part 23. -/
import Derived.Below
import Derived.Deep.Draws
import Derived.Deep.WholeRow
import Derived.IntWalk
import Derived.Laws.BitsAllLaws
import Derived.Laws.Bits64b
import Derived.Laws.Closers25b
import Derived.Laws.ResultCell
import Derived.ChangeKeysEq
import Derived.BigQuiet
import Derived.Test.YtplcfdnfeclpmaaGreatDoorV01
import Derived.Test.YtplcfdnfeclpmaaGreatDoorV02
import Derived.Test.YtplcfdnfeclpmaaGreatDoorV03
import Derived.Test.YtplcfdnfeclpmaaGreatDoorV05
import Derived.Test.YtplcfdnfeclpmaaGreatDoorV07
import Derived.Test.YtplcfdnfeclpmaaGreatDoorV18
set_option maxHeartbeats 4000000
set_option maxRecDepth 100000
open Go.Lib (hid)
open Go Go.RowKit Go.Deep Go.Joins Go.Proofs.Tryz
namespace Go.Proofs.YtplcfdnfeclpmaaGreatDoor
def zl4 (w:World) (D:List UInt8) (M:List Int) (E er:Int) (e:Ending) (w':World):Prop :=
 ∃ dv mv,e=.returned (.tuple #[.agg #[dv,mv,.int .u64 E],.int .i64 er])∧OwnD w' w.heap.size dv D∧OwnM w' w.heap.size mv M∧Below w.heap.size w w'
def stB (n:Nat) (t size:Int):Bool:=zc6 size && zbO n t size
def stE (n:Nat) (t size:Int):Int:=if zc6 size then (if zbO n t size then 0 else 50) else 1
def ldV (D:List UInt8) (t size:Int):Int:=if stB D.length t size then (le ((D.drop (t - 2147483648).toNat).take size.toNat):Nat) else 0
theorem zit (dv mv ev:Value) (D:List UInt8) (t size:Int) (w:World) (hd:DAt w dv D) (ht0:0≤t) (ht1:t≤18446744073709551615) :
  TB 138 #[.agg #[dv,mv,ev],.int .u64 t,.int .i64 size] w (.tuple #[.int .u64 (ldV D t size),.int .i64 (stE D.length t size)]):=by
 unfold ldV stE stB;rcases Bool.eq_false_or_eq_true (zc6 size) with hl | hl
 ·rcases Bool.eq_false_or_eq_true (zbO D.length t size) with ht | ht
  ·rw [hl,ht];exact zhO dv D mv ev t size w hd ht0 ht1 hl ht
  ·rw [hl,ht]
   obtain ⟨p,cap,rfl⟩:=hd.is;exact load_ram p D.length cap mv ev t size w hd.le ht0 ht1 hl ht
 ·rw [hl];exact zrk dv mv ev t size w hl
structure Pt where
 F:List ByteArray
 D:List UInt8
 M:List Int
 O:List Rec
def Ow (m:Mc) (z k:Nat):Prop:=k=z∨some k=m.dv.ownBlock∨some k=m.mv.ownBlock∨some k=m.ov.ownBlock∨some k=(Value.slice m.b.fp m.b.fn m.b.fc).ownBlock
structure MS (w:World) (B z:Nat) (m:Mc) (p:Pt):Prop where
 box:MBox w z m
 big:B≤z
 fr:FT w B (.slice m.b.fp m.b.fn m.b.fc) p.F
 d:OwnD w B m.dv p.D
 mm:OwnM w B m.mv p.M
 o:w.ownsRow B 65 3 m.ov p.O.length (oC p.O)
theorem MS.one {w:World} {B z:Nat} {m:Mc} {p:Pt} (h:MS w B z m p):Mc1 m:=⟨zdi h.d,zdi h.mm,zdi h.o⟩
theorem MS.len {w:World} {B z:Nat} {m:Mc} {p:Pt} (h:MS w B z m p):m.b.fn=p.F.length:=h.fr.rd.len
theorem MS.lt {w:World} {B z:Nat} {m:Mc} {p:Pt} (h:MS w B z m p) {k:Nat} (hk:Ow m z k):B≤k∧k<w.heap.size:=by
 rcases hk with rfl | hk | hk | hk | hk
 ·exact ⟨h.big,h.box.lt⟩
 ·exact zcm h.d hk.symm
 ·exact zcm h.mm hk.symm
 ·exact zcm h.o hk.symm
 ·have hb:=h.fr.blk
  revert hk hb
  cases m.b.fp with
  | none=>intro hk;cases hk
  | some a =>
   intro hk hb;simp only [Value.ownBlock,Option.some.injEq] at hk;obtain ⟨h1,cur,h2⟩:=hb a _ _ rfl;rw [hk];exact ⟨h1,(Array.getElem?_eq_some_iff.1 h2).1⟩
theorem FT.keep' {w w':World} {B:Nat} {v:Value} {F:List ByteArray} (h:FT w B v F) (hb:∀ g,v.ownBlock=some g→w'.heap[g]?=w.heap[g]?):FT w' B v F :=
 ⟨zbb.keep h.rd fun p n c hv=>hb _ (by rw [hv];rfl),fun p n c hv=>by obtain ⟨h1,cur,h2⟩:=h.blk p n c hv;exact ⟨h1,cur,(hb _ (by rw [hv];rfl)).trans h2⟩⟩
theorem MS.keep {w w':World} {B z:Nat} {m:Mc} {p:Pt} (h:MS w B z m p) (hb:∀ k,Ow m z k→w'.heap[k]?=w.heap[k]?):MS w' B z m p :=
 ⟨(hb z (.inl rfl)).trans h.box,h.big,h.fr.keep' fun g hg=>hb g (.inr (.inr (.inr (.inr hg.symm)))),zbR h.d fun g hg=>hb g (.inr (.inl hg.symm)),zbR h.mm fun g hg=>hb g (.inr (.inr (.inl hg.symm))),zbR h.o fun g hg=>hb g (.inr (.inr (.inr (.inl hg.symm))))⟩
theorem MS.next {w w':World} {B z:Nat} {m:Mc} {p:Pt} (h:MS w B z m p) (hb:Below w.heap.size w w'):MS w' B z m p:=h.keep fun k hk=>hb.block k (h.lt hk).2
def Did (W W':World) (B z:Nat) (m r:Mc) (p:Pt):Prop :=
 ∃ q c dv mv ov,MS W' B z { r with b:=r.b.at q p.F.length c,dv:=dv,mv:=mv,ov:=ov } p∧zar W W' (Ow m z)∧∀ k,Ow { r with b:=r.b.at q p.F.length c,dv:=dv,mv:=mv,ov:=ov } z k→Ow m z k∨W.heap.size≤k
theorem Did.none {W W':World} {B z:Nat} {m:Mc} {p:Pt} (K:MS W B z m p) (hb:Below W.heap.size W W'):Did W W' B z m m p:=by
 have e:m.b.at m.b.fp p.F.length m.b.fc=m.b:=by rw [← K.len];rfl
 refine ⟨m.b.fp,m.b.fc,m.dv,m.mv,m.ov,?_,zb5 hb _,?_⟩
 ·rw [e];exact K.next hb
 ·rw [e];exact fun k hk=>.inl hk
theorem Did.frames {W W' wx:World} {B z:Nat} {m:Mc} {p:Pt} {b:Bd} {F:List ByteArray} {q:Option Addr} {c:Nat} (K:MS W B z m p) (hB:B≤W.heap.size) (hb:Below W.heap.size W wx) (ho:OwnF wx W.heap.size (.slice q F.length c) F) (hw:W'=wx.setRow z (mcC { m with b:=b.at q F.length c })):Did W W' B z m { m with b:=b } { p with F:=F }:=by
 have k:=K.next hb;refine ⟨q,c,m.dv,m.mv,m.ov,?_,(zb5 hb (Ow m z)).trans (by subst hw;exact (zar.refl wx (Ow m z)).setRow (.inl (.inl rfl)) _),?_⟩
 ·have ne:∀ g,g≠z→W'.heap[g]?=wx.heap[g]?:=fun g hg=>by subst hw;exact setRow_other wx z g _ hg
  refine ⟨k.box.put hw,k.big,?_,zbR k.d fun g hg=>ne g fun x=>zbX k.d k.box (by decide) (by rw [hg,x]),zbR k.mm fun g hg=>ne g fun x=>zbX k.mm k.box (by decide) (by rw [hg,x]),zbR k.o fun g hg=>ne g fun x=>zbX k.o k.box (by decide) (by rw [hg,x])⟩
  refine ((FT.of ho).base hB).keep fun g cur _ hg=>ne g fun x=>?_
  subst x;have:=hg.symm.trans k.box
  simp at this
 ·intro k hk
  rcases hk with hk | hk | hk | hk | hk
  ·exact .inl (.inl hk)
  ·exact .inl (.inr (.inl hk))
  ·exact .inl (.inr (.inr (.inl hk)))
  ·exact .inl (.inr (.inr (.inr (.inl hk))))
  ·exact .inr (zcm ho hk.symm).1
structure POk (m:Mc) (p:Pt):Prop where
 bd:BdOk m.b
 c:Pc.U32 m.b.pl.c
 fz:∀ f∈p.F,f.size≤9223372036854775807
 fl:p.F.length≤8796093022208
 dl:p.D.length≤140737488351232
 ml:p.M.length≤17592186043904
abbrev rcC (r:Rec):Array Value:=#[.int .u64 r.1,.int .i64 r.2.1,.string r.2.2]
abbrev rcV (r:Rec):Value:=.agg (rcC r)
abbrev rcZ:Array Value:=#[.int .u64 0,.int .i64 0,.string ⟨#[]⟩]
abbrev rcO:Obj:=.cells rcZ 65
theorem zfZ:∃ i,Tryz.prog.info? 65=some i∧i.zero=some (.agg rcZ)∧i.size=3∧i.bytes=32:=by
 obtain ⟨i,h1,h2,h3,h4⟩:=info_parts (show (Tryz.prog.info? 65).map (fun i=>(i.zero,i.size,i.bytes))=some (some (.agg rcZ),3,32) by kernel_rfl);exact ⟨i,h1,h2,h3,h4⟩
theorem Mem.swap {W w:World} {x y:Nat × Array Value × Nat} {l:List (Nat × Array Value × Nat)} {r:List (Nat × Value × Nat × List Value)} (h:Mem W w (x :: y :: l) r):Mem W w (y :: x :: l) r:=by
 have hm:∀ u,u∈y :: x :: l→u∈x :: y :: l:=fun u hu=>by simp only [List.mem_cons] at hu ⊢;rcases hu with h | h | h;exact .inr (.inl h);exact .inl h;exact .inr (.inr h)
 refine ⟨fun u hu=>h.cel u (hm u hu),?_,fun u hu=>h.typ u (hm u hu),fun u hu=>h.big u (hm u hu),h.own,h.row,h.below⟩
 have:=h.nod;simp only [List.map_cons,List.nodup_cons,List.mem_cons,not_or] at this ⊢;exact ⟨⟨fun e=>this.1.1 e.symm,this.2.1⟩,this.1.2,this.2.2⟩
theorem FT.over {w:World} {B g t:Nat} {v:Value} {F:List ByteArray} {cs:Array Value} (h:FT w B v F) (k:w.heap[g]?=some (.cells cs t (0,0))) (ht:t≠9) (cs':Array Value):FT (w.setRow g cs') B v F :=
 h.keep fun x cur _ hx=>setRow_other w g x cs' fun e=>by
  subst e;have:=hx.symm.trans k;simp only [Option.some.injEq,Obj.cells.injEq] at this;exact ht this.2.1.symm
theorem zzu {w:World} {B n c sz e:Nat} {q:Option Addr} {xs:List Value} (h:w.ownsRow B e sz (.slice q n c) n xs):(q=none∨∃ g,q=some ⟨g,0,none⟩)∧n≤c:=by
 rcases h.2 with ⟨e1,e2⟩ | ⟨g,cap,cur,e1,_,_,h3,_⟩
 ·simp only [Value.slice.injEq] at e1
  exact ⟨.inl e1.1,by omega⟩
 ·simp only [Value.slice.injEq,true_and] at e1
  exact ⟨.inr ⟨g,e1.1⟩,by omega⟩
theorem zbd {w:World} {B n size g:Nat} {e t:TypeId} {v:Value} {xs:List Value} {c:Array Value} (h:w.ownsRow B e size v n xs) (hp:w.heap[g]?=some (.cells c t (0,0))) (hne:e≠t) (cs:Array Value):(w.setRow g cs).ownsRow B e size v n xs :=
 zbR h fun x hx=>setRow_other w g x cs fun e=>zbX h hp hne (by rw [hx,e])
theorem zar.trans' {a b c:World} {S S':Nat→Prop} (h:zar a b S) (k:zar b c S') (hS:∀ x,x<a.heap.size→S' x→S x):zar a c S :=
 ⟨k.os.trans h.os,k.tape.trans h.tape,k.output.trans h.output,Nat.le_trans h.size k.size,fun x hx hn=>(k.block x (Nat.lt_of_lt_of_le hx h.size) (fun e=>hn (hS x hx e))).trans (h.block x hx hn)⟩
theorem MS.put {W W':World} {B z:Nat} {m:Mc} {p:Pt} {D:List UInt8} {M:List Int} (K:MS W B z m p) (h:zc8 W W' B z 73 m.dv m.mv m.E D M):MS W' B z m { p with D:=D,M:=M }∧zar W W' (Ow m z):=by
 have nb:∀ (g:Nat) (t:TypeId) (cs:Array Value),W.heap[g]?=some (.cells cs t (0,0))→t≠5→t≠22→W'.heap[g]?=W.heap[g]?:=fun g t cs hg h5 h22 =>
  h.t.block g (Array.getElem?_eq_some_iff.1 hg).1 fun hS=>by
   rcases hS with hS | hS
   ·exact zbX K.d hg (fun x=>h5 x.symm) hS.symm
   ·exact zbX K.mm hg (fun x=>h22 x.symm) hS.symm
 refine ⟨⟨(nb z 42 _ K.box (by decide) (by decide)).trans K.box,K.big,K.fr.keep fun g cur _ hg=>nb g 9 cur hg (by decide) (by decide),h.d,h.m,zbR K.o fun g hg=>?_⟩,h.t.mono fun k _ hk=>?_⟩
 ·obtain ⟨cur,hc⟩:=zdc K.o hg
  exact nb g 65 cur hc (by decide) (by decide)
 ·rcases hk with hk | hk
  ·exact .inr (.inl hk)
  ·exact .inr (.inr (.inl hk))
theorem Did.put {W W':World} {B z:Nat} {m:Mc} {p:Pt} {D:List UInt8} {M:List Int} (K:MS W B z m p) (h:zc8 W W' B z 73 m.dv m.mv m.E D M):Did W W' B z m m { p with D:=D,M:=M }:=by
 have e:m.b.at m.b.fp p.F.length m.b.fc=m.b:=by rw [← K.len];rfl
 refine ⟨m.b.fp,m.b.fc,m.dv,m.mv,m.ov,?_,(K.put h).2,?_⟩
 ·show MS W' B z { m with b:=m.b.at m.b.fp p.F.length m.b.fc } { p with D:=D,M:=M }
  rw [e];exact (K.put h).1
 ·show ∀ k,Ow { m with b:=m.b.at m.b.fp p.F.length m.b.fc } z k→_
  rw [e];exact fun k hk=>.inl hk
theorem Did.before {W w W':World} {B z:Nat} {m r:Mc} {p:Pt} (h:Did w W' B z m r p) (ht:zar W w (Ow m z)):Did W W' B z m r p:=by
 obtain ⟨q,c,dv,mv,ov,h1,h2,h3⟩:=h;exact ⟨q,c,dv,mv,ov,h1,ht.trans h2,fun k hk=>(h3 k hk).imp id (Nat.le_trans ht.size)⟩
structure MR (w:World) (m:Mc) (p:Pt):Prop where
 fr:FAt w (.slice m.b.fp m.b.fn m.b.fc) p.F
 d:DAt w m.dv p.D
 mm:MAt w m.mv p.M
 o:zbb w m.ov 3 p.O.length (oC p.O)
theorem MR.next {w w':World} {m:Mc} {p:Pt} (h:MR w m p) (hb:Below w.heap.size w w'):MR w' m p:=⟨h.fr.next hb,h.d.below hb,h.mm.below hb,h.o.below hb⟩
theorem MS.rd {w:World} {B z:Nat} {m:Mc} {p:Pt} (h:MS w B z m p):MR w m p:=⟨h.fr.rd,h.d.at,h.mm.at,zfr h.o⟩
theorem Mem.two {W:World} (cs cs':Array Value):Mem W ((W.alloc (.cells cs 42)).alloc (.cells cs' 42)) [(W.heap.size+1,cs',42),(W.heap.size,cs,42)] []:=by
 have h:=((Mem.start W).new cs 42 (by decide)).new cs' 42 (by decide)
 rwa [World.size_alloc] at h
theorem Mem.m1 {W w:World} {x0:Nat × Array Value × Nat} {k:Nat} {m:Mc} {l:List (Nat × Array Value × Nat)} {r:List (Nat × Value × Nat × List Value)} (h:Mem W w (x0 :: (k,mcC m,42) :: l) r):MBox w k m:=h.g1
theorem MBox.load_b' {w:World} {g:Nat} {m:Mc} (k:MBox w g m) {b:Bd} (e:m.b=b):(Instr.loadAt 35 (.pointer (some ⟨g,52,none⟩))).run Tryz.prog w=.ok (bdV b) w:=by subst e;exact k.load_b
theorem MBox.load_o' {w:World} {g:Nat} {m:Mc} (k:MBox w g m) {v:Value} (e:m.ov=v):(Instr.loadAt 40 (.pointer (some ⟨g,78,none⟩))).run Tryz.prog w=.ok v w:=by subst e;exact k.load_o
theorem zzd {w:World} {p:Option Addr} {n cap:Nat} {D:List UInt8} (h:DAt w (.slice p n cap) D):(convert 36 9 (.slice p n cap)).run Tryz.prog w=.ok (.string ⟨D.toArray⟩) w:=by
 rcases h.2 with ⟨e,h0⟩ | ⟨a,c,e,_,_,hc⟩
 ·simp only [Value.slice.injEq] at e
  obtain ⟨rfl,rfl,rfl⟩:=e;obtain rfl:D=[]:=List.eq_nil_of_length_eq_zero h0;rw [run_convert_bytes_string w 36 9 5 none 0 0 underlying36 underlying5 underlying9];rfl
 ·simp only [Value.slice.injEq] at e
  obtain ⟨rfl,rfl,rfl⟩:=e;exact run_convert_bytes_back (P:=Tryz.prog) w 36 9 5 a cap D underlying36 underlying5 underlying9 (fun j hj=>hc j _ (by simp [dC,hj]))
theorem MAt.cell {w:World} {v:Value} {M:List Int} (h:MAt w v M) (h0:0<M.length) :
  ∃ b off cap,v=.slice (some ⟨b,off,none⟩) M.length cap∧M.length≤cap∧cap≤maxLen∧b<w.heap.size∧∀ j (hj:j<M.length),w.cell? ⟨b,off+j,none⟩=some (.int .u64 M[j]):=by
 obtain ⟨b,off,cap,h1,h2,h3,h4,h5⟩:=zbb.at h (by omega);exact ⟨b,off,cap,h1,h2,h3,h4,fun j hj=>h5 j _ (by simp [mC,hj])⟩
structure CP (w:World) (N:Nat) (q:Option Addr) (c:Nat) (dv mv ov:Value) (p:Pt):Prop where
 fr:FT w N (.slice q p.F.length c) p.F
 d:OwnD w N dv p.D
 mm:OwnM w N mv p.M
 o:w.ownsRow N 65 3 ov p.O.length (oC p.O)
end Go.Proofs.YtplcfdnfeclpmaaGreatDoor
namespace Go.Proofs.YtplcfdnfeclpmaaGreatDoor.Wk
def nzV (n m:Int):Bool:=bits .and .u64 n m != 0
def bV (n b:Int):Bool:=bits .and .u64 (n / b) 1==1
def U64 (x:Int):Prop:=0≤x∧x<18446744073709551616
def bitT (x:Int) (i:Nat):Bool:=(BitVec.ofInt 64 x).getLsbD i
theorem zdx (y:BitVec 64):BitVec.ofInt 64 (IntKind.u64.wrap (y.toNat:Int))=y:=by
 have h:=y.isLt;have e:IntKind.u64.wrap (y.toNat:Int)=(y.toNat:Int):=by rw [IntKind.wrap_u64];omega
 rw [e,BitVec.ofInt_natCast]
 simp
theorem zfA (a b:Int):BitVec.ofInt 64 (bits .and .u64 a b)=BitVec.ofInt 64 a &&& BitVec.ofInt 64 b:=zdx _
theorem zfD (a b:Int):BitVec.ofInt 64 (bits .or .u64 a b)=BitVec.ofInt 64 a ||| BitVec.ofInt 64 b:=zdx _
theorem zfV (a b:Int):BitVec.ofInt 64 (bits .andNot .u64 a b)=BitVec.ofInt 64 a &&& ~~~BitVec.ofInt 64 b:=zdx _
theorem zbc (a b:Int) (i:Nat):bitT (bits .and .u64 a b) i=(bitT a i && bitT b i):=by unfold bitT;rw [zfA,BitVec.getLsbD_and]
theorem zd8 (a b:Int) (i:Nat):bitT (bits .or .u64 a b) i=(bitT a i || bitT b i):=by unfold bitT;rw [zfD,BitVec.getLsbD_or]
theorem zb8 (a b:Int) (i:Nat) (hi:i<64):bitT (bits .andNot .u64 a b) i=(bitT a i && !bitT b i):=by
 unfold bitT;rw [zfV,BitVec.getLsbD_and,BitVec.getLsbD_not]
 simp [hi]
theorem zae (op:BinOp) (a b:Int):U64 (bits op .u64 a b):=⟨bits_lo_u64 op a b,by have:=bits_hi_u64 op a b;omega⟩
theorem zce (a b:Int) (ha:U64 a) (hb:U64 b) (h:∀ i,i<64→bitT a i=bitT b i):a=b:=by
 have e:BitVec.ofInt 64 a=BitVec.ofInt 64 b:=BitVec.eq_of_getLsbD_eq fun i hi=>h i hi
 obtain ⟨n,rfl⟩:=Int.eq_ofNat_of_zero_le ha.1;obtain ⟨k,rfl⟩:=Int.eq_ofNat_of_zero_le hb.1;have e2:=congrArg BitVec.toNat e;rw [BitVec.ofInt_natCast,BitVec.ofInt_natCast,BitVec.toNat_ofNat,BitVec.toNat_ofNat] at e2;have h1:=ha.2;have h2:=hb.2;omega
theorem zd4 (x:Int) (hx:U64 x) (i:Nat) (hi:i<64):bitT x i=decide (x / (2:Int) ^ i % 2=1):=by
 obtain ⟨n,rfl⟩:=Int.eq_ofNat_of_zero_le hx.1;have h:=hx.2;unfold bitT;rw [BitVec.ofInt_natCast,BitVec.getLsbD_ofNat,Nat.testBit_eq_decide_div_mod_eq];simp only [hi,decide_true,Bool.true_and]
 apply decide_eq_decide.2
 have e:(n:Int) / (2:Int) ^ i % 2=((n / 2 ^ i % 2:Nat):Int):=by simp
 rw [e];omega
theorem zco (i:Nat):bitT 0 i=false:=by unfold bitT;simp
theorem zao:U64 0:=⟨by omega,by omega⟩
structure zdB (C:Array Value) (ms sp:Int):Prop where
 size:C.size=16
 f0:C[0]?=some (.int .u64 ms)
 f15:C[15]?=some (.int .u64 sp)
theorem zda:(Tryz.prog.info? 25).map (·.size)=some 16:=by kernel_rfl
end Go.Proofs.YtplcfdnfeclpmaaGreatDoor.Wk
namespace Go.Proofs.YtplcfdnfeclpmaaGreatDoor.Wk
def Box (w:World) (b:Nat) (C:Array Value):Prop:=w.heap[b]?=some (.cells C 25 (0,0))
theorem Box.lt {w:World} {b:Nat} {C:Array Value} (k:Box w b C):b<w.heap.size:=(Array.getElem?_eq_some_iff.1 k).1
theorem Box.next {w w':World} {b:Nat} {C:Array Value} (k:Box w b C) (j:Below w.heap.size w w'):Box w' b C:=(j.block b k.lt).trans k
theorem Box.alloc {w:World} {b:Nat} {C:Array Value} (k:Box w b C) (o:Obj):Box (w.alloc o) b C:=k.next ((Below.refl _ _).alloc (Nat.le_refl _) o)
theorem Box.new (w:World) (C:Array Value):Box (w.alloc (.cells C 25)) w.heap.size C:=heap_alloc_last w _
theorem Box.load {w:World} {b:Nat} {C:Array Value} (k:Box w b C) (h:C.size=16):(Instr.loadAt 25 (.pointer (some ⟨b,0,none⟩))).run Tryz.prog w=.ok (.agg C) w:=by
 simp only [Instr.loadAt,Instr.sureAddr,Sem.run_bind,Sem.run_pure,Result.andThen];exact run_loadVar_row w b 25 25 C (0,0) _ k underlying25 rfl (by rw [zda,h])
theorem Box.cell {w:World} {b:Nat} {C:Array Value} (k:Box w b C) (i:Nat):w.cell? ⟨b,i,none⟩=C[i]?:=cell_of_row w b i C 25 (0,0) k
end Go.Proofs.YtplcfdnfeclpmaaGreatDoor.Wk
namespace Go.Proofs.YtplcfdnfeclpmaaGreatDoor.Wk
def zdA (ms m kind:Int):Int:=if (m==3 && kind != 0 && nzV ms 131072)=true then bits .and .u64 (ms / 2048) 3 else m
theorem and3 (n:Int):0≤bits .and .u64 n 3∧bits .and .u64 n 3≤3:=by
 have u:=zae .and n 3;refine ⟨u.1,?_⟩
 have e:bits .and .u64 n 3=bits .and .u64 (bits .and .u64 n 3) 3:=by
  refine zce _ _ (zae _ _ _) (zae _ _ _) fun i _=>?_
  rw [zbc,zbc,zbc];cases bitT n i <;> cases bitT 3 i <;> rfl
 obtain ⟨k,hk⟩:=Int.eq_ofNat_of_zero_le u.1;have h2:=u.2;rw [hk] at e h2 ⊢;have h:=bits_and_u64_nat k 3 (by omega) (by omega);rw [show (3:Int)=((3:Nat):Int) from rfl,h] at e;have:k &&& 3≤3:=Nat.and_le_right;omega
theorem zwN (n:Int):wrap64 (bits .and .u64 n 3)=bits .and .u64 n 3:=by
 have h:=and3 n;generalize bits .and .u64 n 3=x at *;unfold wrap64;omega
def topV (t:Int):Int:=wrap64 t / 274877906944
def zeT (t:Int):Bool:=topV t==0 || topV t==-1
def zdy (kind:Int):Int:=if kind=0 then 12 else if kind=1 then 13 else 15
def accV (kind:Int):Int:=if kind=0 then 1 else if kind=1 then 5 else 7
def zcJ (n:Int):Int:=IntKind.u64.wrap (bits .and .u64 n 17592186044415*4096)
def zfx (t:Int) (k:Nat):Int:=bits .and .u64 (t / 2 ^ (12+9*k)) 511
def zax (e:Int):Bool:=!(bits .and .u64 e 1==0 || e / 18014398509481984 != 0) && bits .and .u64 e 6 != 4
def mayB (ms mode:Int) (user:Bool) (kind:Int):Bool:=if mode=0 then user else if mode=1 then !user || (kind != 0 && nzV ms 262144) else true
def zdw (ms mode e kind:Int):Bool :=
 if (bits .and .u64 e 64==0 || !mayB ms mode (nzV e 16) kind)=true then false
 else if kind=0 then nzV e 8 else if kind=1 then nzV e 2 || (nzV e 8 && nzV ms 524288) else nzV e 4 && nzV e 128
theorem ze9 (C:Array Value) (ms sp m kind:Int) (h:zdB C ms sp) (W:World):TB 160 #[.agg C,.int .i64 m,.int .i64 kind] W (.int .i64 (zdA ms m kind)):=by
 have f0:=h.f0;have w3:=hid (zwN (ms / 2048));clear h;rcases Bool.eq_false_or_eq_true (m==3) with a | a
 all_goals rcases Bool.eq_false_or_eq_true (kind != 0) with b | b
 all_goals rcases Bool.eq_false_or_eq_true (bits .and .u64 ms 131072 != 0) with c | c
 all_goals
  go_enter func160,ntmps160
  go_wp2
  go_ret;exact ⟨zal (by unfold zdA;simp [nzV,a,b,c,w3.out]),(Below.refl _ _).alloc (Nat.le_refl _) _⟩
theorem zgm (t:Int) (W:World):TW 161 #[.int .u64 t] W (.bool (zeT t)):=by
 rcases Bool.eq_false_or_eq_true (wrap64 t / 274877906944==0) with a | a
 all_goals rcases Bool.eq_false_or_eq_true (wrap64 t / 274877906944==-1) with b | b
 all_goals
  go_enter func161,ntmps161
  go_wp2
  go_ret;exact ⟨zaX (by unfold zeT topV;simp [a,b]),rfl⟩
theorem zds (kind:Int) (h0:0≤kind) (h2:kind≤2) (W:World):TW 162 #[.int .i64 kind] W (.int .i64 (zdy kind)):=by
 have i0:∀ w:World,(Instr.index 192 (.agg #[.int .i64 12,.int .i64 13,.int .i64 15]) (.int .i64 0)).run Tryz.prog w=.ok (.int .i64 12) w:=fun _=>by kernel_rfl
 have i1:∀ w:World,(Instr.index 192 (.agg #[.int .i64 12,.int .i64 13,.int .i64 15]) (.int .i64 1)).run Tryz.prog w=.ok (.int .i64 13) w:=fun _=>by kernel_rfl
 have i2:∀ w:World,(Instr.index 192 (.agg #[.int .i64 12,.int .i64 13,.int .i64 15]) (.int .i64 2)).run Tryz.prog w=.ok (.int .i64 15) w:=fun _=>by kernel_rfl
 obtain rfl | rfl | rfl:kind=0∨kind=1∨kind=2:=by omega
 all_goals
  go_enter func162,ntmps162
  go_wp2
  go_ret;exact ⟨rfl,rfl⟩
theorem zhx (kind:Int) (h0:0≤kind) (h2:kind≤2) (W:World):TW 165 #[.int .i64 kind] W (.int .i64 (accV kind)):=by
 have i0:∀ w:World,(Instr.index 192 (.agg #[.int .i64 1,.int .i64 5,.int .i64 7]) (.int .i64 0)).run Tryz.prog w=.ok (.int .i64 1) w:=fun _=>by kernel_rfl
 have i1:∀ w:World,(Instr.index 192 (.agg #[.int .i64 1,.int .i64 5,.int .i64 7]) (.int .i64 1)).run Tryz.prog w=.ok (.int .i64 5) w:=fun _=>by kernel_rfl
 have i2:∀ w:World,(Instr.index 192 (.agg #[.int .i64 1,.int .i64 5,.int .i64 7]) (.int .i64 2)).run Tryz.prog w=.ok (.int .i64 7) w:=fun _=>by kernel_rfl
 obtain rfl | rfl | rfl:kind=0∨kind=1∨kind=2:=by omega
 all_goals
  go_enter func165,ntmps165
  go_wp2
  go_ret;exact ⟨rfl,rfl⟩
theorem zcT (n:Int) (W:World):TW 163 #[.int .u64 n] W (.int .u64 (zcJ n)):=by
 go_enter func163,ntmps163
 go_wp2
 go_ret;exact ⟨rfl,rfl⟩
theorem zhQ (t:Int) (k:Nat) (hk:k≤2) (W:World):TW 164 #[.int .u64 t,.int .i64 k] W (.int .u64 (zfx t k)):=by
 obtain rfl | rfl | rfl:k=0∨k=1∨k=2:=by omega
 all_goals
  go_enter func164,ntmps164
  go_wp2
  go_ret;exact ⟨rfl,rfl⟩
theorem zcp (n:Int) (W:World):TW 166 #[.int .u64 n] W (.bool (zax n)):=by
 rcases Bool.eq_false_or_eq_true (bits .and .u64 n 1==0) with a | a
 all_goals rcases Bool.eq_false_or_eq_true (n / 18014398509481984 != 0) with b | b
 all_goals
  go_enter func166,ntmps166
  go_wp2
  go_ret;exact ⟨zaX (by unfold zax;simp [a,b]),rfl⟩
theorem za8 (C:Array Value) (ms sp mode:Int) (user:Bool) (kind:Int) (h:zdB C ms sp) (W:World):TB 212 #[.agg C,.int .i64 mode,.bool user,.int .i64 kind] W (.bool (mayB ms mode user kind)):=by
 have f0:=h.f0;clear h
 by_cases h0:mode=0
 ·subst h0
  go_enter func212,ntmps212
  go_wp2
  go_ret;exact ⟨rfl,(Below.refl _ _).alloc (Nat.le_refl _) _⟩
 have g0:(mode==0)=false:=by simpa using h0
 by_cases h1:mode=1
 ·subst h1
  clear h0 g0;rcases Bool.eq_false_or_eq_true (kind != 0) with a | a
  all_goals rcases Bool.eq_false_or_eq_true (bits .and .u64 ms 262144 != 0) with b | b
  all_goals cases user
  all_goals
   go_enter func212,ntmps212
   go_wp2
   go_ret;exact ⟨zaX (by simp [mayB,nzV,a,b]),(Below.refl _ _).alloc (Nat.le_refl _) _⟩
 have g1:(mode==1)=false:=by simpa using h1
 go_enter func212,ntmps212
 go_wp2
 go_ret;exact ⟨zaX (by simp [mayB,h0,h1]),(Below.refl _ _).alloc (Nat.le_refl _) _⟩
end Go.Proofs.YtplcfdnfeclpmaaGreatDoor.Wk
namespace Go.Proofs.YtplcfdnfeclpmaaGreatDoor.Wk
theorem zt7 (C:Array Value) (ms sp mode e kind:Int) (h:zdB C ms sp) (h0:0≤kind) (h2:kind≤2) (W:World):Calls Tryz.prog 167 #[.agg C,.int .i64 mode,.int .u64 e,.int .i64 kind] W fun e' W'=>e'=.returned (.bool (zdw ms mode e kind))∧Below W.heap.size W W':=by
 have f0:=h.f0;have hC:=h.size;have b0:=hid (Box.new W C);have H:=hid h;clear h;have cM:=hid fun (m:Int) (u:Bool) (k:Int) W=>za8 C ms sp m u k H.out W
 clear H;rcases Bool.eq_false_or_eq_true (bits .and .u64 e 64==0) with a | a
 ·go_enter func167,ntmps167
  go_wp2
  go_ret;exact ⟨zaX (by simp [zdw, *]),zah W _⟩
 have HB:∀ b,mayB ms mode (bits .and .u64 e 16 != 0) kind=b→Hid (mayB ms mode (bits .and .u64 e 16 != 0) kind=b):=fun _ h=>hid h
 rcases Bool.eq_false_or_eq_true (mayB ms mode (bits .and .u64 e 16 != 0) kind) with b | b
 rotate_left
 ·replace b:=HB _ b
  clear HB;go_enter func167,ntmps167;go_wp2_with (first | (with_reducible show wpList _ _ _ (⟨some 13,Op.load 25 (.tmp 4),25,_,_,_⟩ :: _) _ _;refine zbs (by kernel_rfl) rfl (Box.load (b0.out) hC) rfl ?_;simp only [Act.put,List.setIfInBounds_toArray,List.set_cons_zero,List.set_cons_succ]) | (go_at_call 212;(with_reducible refine (cM.out _ _ _ _).mono ?_);rintro e' w1 ⟨rfl,k1⟩;rw [b.out];have c0:=hid ((((b0.out).next k1).cell 0).trans f0);have k1:=hid k1));go_ret;exact ⟨zaX (by have:=b.out;simp [zdw,nzV, *]),zac (zah W _) k1.out⟩
 replace b:=HB _ b
 clear HB;rcases (show kind=0∨kind=1∨kind=2 by omega) with hk | hk | hk
 ·subst hk
  rcases Bool.eq_false_or_eq_true (bits .and .u64 e 8 != 0) with c0 | c0
  all_goals
   go_enter func167,ntmps167;go_wp2_with (first | (with_reducible show wpList _ _ _ (⟨some 13,Op.load 25 (.tmp 4),25,_,_,_⟩ :: _) _ _;refine zbs (by kernel_rfl) rfl (Box.load (b0.out) hC) rfl ?_;simp only [Act.put,List.setIfInBounds_toArray,List.set_cons_zero,List.set_cons_succ]) | (go_at_call 212;(with_reducible refine (cM.out _ _ _ _).mono ?_);rintro e' w1 ⟨rfl,k1⟩;rw [b.out];have c0:=(((b0.out).next k1).cell 0).trans f0;have k1:=hid k1));go_ret;exact ⟨zaX (by have:=b.out;simp [zdw,nzV, *]),zac (zah W _) k1.out⟩
 ·subst hk
  rcases Bool.eq_false_or_eq_true (bits .and .u64 e 2 != 0) with c0 | c0
  all_goals rcases Bool.eq_false_or_eq_true (bits .and .u64 e 8 != 0) with c1 | c1
  all_goals rcases Bool.eq_false_or_eq_true (bits .and .u64 ms 524288 != 0) with c2 | c2
  all_goals
   go_enter func167,ntmps167;go_wp2_with (first | (with_reducible show wpList _ _ _ (⟨some 13,Op.load 25 (.tmp 4),25,_,_,_⟩ :: _) _ _;refine zbs (by kernel_rfl) rfl (Box.load (b0.out) hC) rfl ?_;simp only [Act.put,List.setIfInBounds_toArray,List.set_cons_zero,List.set_cons_succ]) | (go_at_call 212;(with_reducible refine (cM.out _ _ _ _).mono ?_);rintro e' w1 ⟨rfl,k1⟩;rw [b.out];have c0:=(((b0.out).next k1).cell 0).trans f0;have k1:=hid k1));go_ret;exact ⟨zaX (by have:=b.out;simp [zdw,nzV, *]),zac (zah W _) k1.out⟩
 ·subst hk
  rcases Bool.eq_false_or_eq_true (bits .and .u64 e 4 != 0) with c0 | c0
  all_goals rcases Bool.eq_false_or_eq_true (bits .and .u64 e 128 != 0) with c1 | c1
  all_goals
   go_enter func167,ntmps167;go_wp2_with (first | (with_reducible show wpList _ _ _ (⟨some 13,Op.load 25 (.tmp 4),25,_,_,_⟩ :: _) _ _;refine zbs (by kernel_rfl) rfl (Box.load (b0.out) hC) rfl ?_;simp only [Act.put,List.setIfInBounds_toArray,List.set_cons_zero,List.set_cons_succ]) | (go_at_call 212;(with_reducible refine (cM.out _ _ _ _).mono ?_);rintro e' w1 ⟨rfl,k1⟩;rw [b.out];have c0:=(((b0.out).next k1).cell 0).trans f0;have k1:=hid k1));go_ret;exact ⟨zaX (by have:=b.out;simp [zdw,nzV, *]),zac (zah W _) k1.out⟩
end Go.Proofs.YtplcfdnfeclpmaaGreatDoor.Wk
namespace Go.Proofs.YtplcfdnfeclpmaaGreatDoor.Wk
theorem zfL:(Tryz.prog.info? 39).map (·.size)=some 3:=by kernel_rfl
def MBox (w:World) (b:Nat) (V:Array Value):Prop:=w.heap[b]?=some (.cells V 39 (0,0))
theorem MBox.lt {w:World} {b:Nat} {C:Array Value} (k:MBox w b C):b<w.heap.size:=(Array.getElem?_eq_some_iff.1 k).1
theorem MBox.next {w w':World} {b:Nat} {C:Array Value} (k:MBox w b C) (j:Below w.heap.size w w'):MBox w' b C:=(j.block b k.lt).trans k
theorem MBox.load {w:World} {b:Nat} {C:Array Value} (k:MBox w b C) (h:C.size=3):(Instr.loadAt 39 (.pointer (some ⟨b,0,none⟩))).run Tryz.prog w=.ok (.agg C) w:=by
 simp only [Instr.loadAt,Instr.sureAddr,Sem.run_bind,Sem.run_pure,Result.andThen];exact run_loadVar_row w b 39 39 C (0,0) _ k underlying39 rfl (by rw [zfL,h])
structure Near (w:World) where
 wx:World
 near:Below w.heap.size w wx
theorem zbK {P:Program} {id:Nat} {Q:Exit→Act→World→Prop} {a:Act} {w:World} {l:List Oper} (hm:P.follows .mixedOrders=true) (hB:Region.lexB .any l.toArray=true)
  (h:wpQuiet P l.toArray (fun w'=>∃ p:Near w,w'=p.wx) (fun a'=>∀ w',(∃ p:Near w,w'=p.wx)→Q .normal a' w') l a):(Code.region id l.toArray true).wp P Q a w :=
 wp_region_quiet (C:=fun w'=>∃ p:Near w,w'=p.wx) hm hB ⟨⟨w.drew,(Below.refl _ _).drew⟩,rfl⟩ (by simpa using h)
theorem zaZ {P:Program} {f:FuncId} {args:Array Value} {w:World} {p:Near w} {v:Value} (h:Calls P f args p.wx fun e w'=>e=.returned v∧Below p.wx.heap.size p.wx w') :
  Calls P f args p.wx fun e w''=>e=.returned v∧∃ p:Near w,w''=p.wx :=
 h.mono fun _ _ ⟨he,hb⟩=>⟨he,⟨_,zac p.near hb⟩,rfl⟩
theorem zbt {P:Program} {a:Act} {C:World→Prop} {o:Oper} {K:Act→Prop} (r:Value) (hrun:∀ w,C w→(execOp a.eval o).run P w=.ok (.value r) w) (hk:K (a.put o.dst r)):o.quiet P a C K :=
 ⟨r,fun w hw=>by unfold Oper.quietAt;rw [hrun w hw];exact ⟨rfl,rfl⟩,hk⟩
theorem zbe {P:Program} {ρ:Operand→Value} {o:Oper} {t:TypeId} {p:Operand} (ho:o.op=.load t p) {v r:Value} {w:World} (hrun:(Instr.loadAt t v).run P w=.ok r w) (hp:ρ p=v):(execOp ρ o).run P w=.ok (.value r) w:=by
 unfold execOp
 simp [ho,hp,hrun,Result.andThen]
theorem zb1 {w:World} {b:Nat} {V:Array Value} (k:MBox w b V) (h:V.size=3) (w':World) (hw:∃ p:Near w,w'=p.wx):(Instr.loadAt 39 (.pointer (some ⟨b,0,none⟩))).run Tryz.prog w'=.ok (.agg V) w':=by
 obtain ⟨p,rfl⟩:=hw;exact (k.next p.near).load h
theorem zcl {P:Program} {f:FuncId} {args:Array Value} {w:World} {v:Value} (h:Calls P f args w fun e w'=>e=.returned v∧w=w'):Calls P f args w fun e w'=>e=.returned v∧Below w.heap.size w w' :=
 h.mono fun _ _ ⟨he,hb⟩=>⟨he,hb ▸ Below.refl _ _⟩
def zjQ (f:Nat) (V:Array Value) (D:List UInt8) (w0:World):Prop:=∀ W,Below w0.heap.size w0 W→∀ t:Int,0≤t→t≤18446744073709551615 →
 TB f #[.agg V,.int .u64 t,.int .i64 8] W (.tuple #[.int .u64 (ldV D t 8),.int .i64 (stE D.length t 8)])
def lowV (k:Nat):Int:=2 ^ (12+9*k) - 1
def zb9 (tb t:Int) (k:Nat):Int:=IntKind.u64.wrap (tb+IntKind.u64.wrap (8*zfx t k))
def goF (D:List UInt8) (ms md t kind:Int):Nat→Int→Int × Int
 | 0,_=>(0,zdy kind)
 | k+1,tb =>
  if stE D.length (zb9 tb t k) 8≠0 then (0,accV kind) else
  if zax (ldV D (zb9 tb t k) 8)=false then (0,zdy kind) else
  if (bits .and .u64 (ldV D (zb9 tb t k) 8) 10==0)=true then goF D ms md t kind k (zcJ (ldV D (zb9 tb t k) 8 / 1024)) else
  if (bits .and .u64 (zcJ (ldV D (zb9 tb t k) 8 / 1024)) (lowV k) != 0)=true then (0,zdy kind) else
  if zdw ms md (ldV D (zb9 tb t k) 8) kind=false then (0,zdy kind) else
  (bits .or .u64 (zcJ (ldV D (zb9 tb t k) 8 / 1024)) (bits .and .u64 t (lowV k)),-1)
def zbp (D:List UInt8) (ms sp m t kind:Int):Int × Int :=
 if kind<0∨2<kind then (0,0) else
 if 3≤zdA ms m kind then (t,-1) else
 if (sp / 1152921504606846976 != 8)=true then (t,-1) else
 if zeT t=false then (0,zdy kind) else
 goF D ms (zdA ms m kind) t kind 3 (zcJ sp)
def zes (r:Int × Int):Value:=.tuple #[.int .u64 r.1,.int .i64 r.2]
theorem zaQ {r:Int × Int} {a b:Int} (h:r=(a,b)):Ending.returned (.tuple #[.int .u64 a,.int .i64 b])=.returned (zes r):=by rw [h];rfl
theorem zv5 (C V:Array Value) (ms sp m t kind:Int) (D:List UInt8) (W:World) (h:zdB C ms sp) (hV:V.size=3) (k:kind<0):TB 116 #[.agg C,.int .i64 m,.agg V,.int .u64 t,.int .i64 kind] W (zes (zbp D ms sp m t kind)):=by
 have HE:Hid (zbp D ms sp m t kind=(0,0)):=hid (if_pos (Or.inl k));have g:decide (kind<0)=true:=decide_eq_true k;have hH:=And.intro h hV;clear hH h hV;go_enter func116,ntmps116;go_wp2_with fail;go_ret2;exact ⟨zaQ HE.out,zbl W _ _⟩
theorem zvl (C V:Array Value) (ms sp m t kind:Int) (D:List UInt8) (W:World) (h:zdB C ms sp) (hV:V.size=3) (k:2<kind):TB 116 #[.agg C,.int .i64 m,.agg V,.int .u64 t,.int .i64 kind] W (zes (zbp D ms sp m t kind)):=by
 have HE:Hid (zbp D ms sp m t kind=(0,0)):=hid (if_pos (Or.inr k));have g:decide (kind<0)=false:=decide_eq_false (by omega);have g2:decide (2<kind)=true:=decide_eq_true k;have hH:=And.intro h hV;clear hH h hV;go_enter func116,ntmps116;go_wp2_with fail;go_ret2;exact ⟨zaQ HE.out,zbl W _ _⟩
theorem zgr (W:World) (C V:Array Value):Box ((W.alloc (.cells C 25)).alloc (.cells V 39)) W.heap.size C∧MBox ((W.alloc (.cells C 25)).alloc (.cells V 39)) (W.heap.size+1) V∧Below W.heap.size W ((W.alloc (.cells C 25)).alloc (.cells V 39)) :=
 ⟨(Box.new W C).alloc _,by
  have e:(W.alloc (.cells C 25)).heap.size=W.heap.size+1:=by simp
  have:=heap_alloc_last (W.alloc (.cells C 25)) (.cells V 39);rw [e] at this;exact this,zbl W _ _⟩
theorem zlf (C V:Array Value) (ms sp m t kind:Int) (D:List UInt8) (W:World) (h:zdB C ms sp) (hV:V.size=3) (M:Int) (h0:0≤kind) (h2:kind≤2) (hM:zdA ms m kind=M) (k:3≤M):TB 116 #[.agg C,.int .i64 m,.agg V,.int .u64 t,.int .i64 kind] W (zes (zbp D ms sp m t kind)):=by
 have HE:Hid (zbp D ms sp m t kind=(t,-1)):=hid ((if_neg (by omega)).trans (if_pos (by rw [hM];exact k)));have g:decide (kind<0)=false:=decide_eq_false (by omega);have g2:decide (2<kind)=false:=decide_eq_false (by omega);have f15:=h.f15;have hC:=h.size;have hW:=hid (zgr W C V);have cM:=hid fun W=>ze9 C ms sp m kind h W
 clear h;have hV2:=And.intro hV hV;clear hV2 hV
 replace hM:=hid hM
 have g3:decide (3≤M)=true:=decide_eq_true k;go_enter func116,ntmps116;go_wp2_with (first | (with_reducible show wpList _ _ _ (⟨some 24,Op.load 25 (.tmp 5),25,_,_,_⟩ :: _) _ _;refine zbs (by kernel_rfl) rfl (Box.load (hW.out.1) hC) rfl ?_;simp only [Act.put,List.setIfInBounds_toArray,List.set_cons_zero,List.set_cons_succ]) | (go_at_call 160;(with_reducible refine (cM.out _).mono ?_);rintro e' w1 ⟨rfl,k1⟩;rw [hM.out];have c15:=(((hW.out.1).next k1).cell 15).trans f15;have k1:=hid k1));go_ret2;exact ⟨zaQ HE.out,zac hW.out.2.2 k1.out⟩
theorem zw9 (C V:Array Value) (ms sp m t kind:Int) (D:List UInt8) (W:World) (h:zdB C ms sp) (hV:V.size=3) (M:Int) (h0:0≤kind) (h2:kind≤2) (hM:zdA ms m kind=M) (k:¬ 3≤M) (s:(sp / 1152921504606846976 != 8)=true):TB 116 #[.agg C,.int .i64 m,.agg V,.int .u64 t,.int .i64 kind] W (zes (zbp D ms sp m t kind)):=by
 have HE:Hid (zbp D ms sp m t kind=(t,-1)):=hid ((if_neg (by omega)).trans ((if_neg (by rw [hM];exact k)).trans (if_pos s)));have g:decide (kind<0)=false:=decide_eq_false (by omega);have g2:decide (2<kind)=false:=decide_eq_false (by omega);have f15:=h.f15;have hC:=h.size;have hW:=hid (zgr W C V);have cM:=hid fun W=>ze9 C ms sp m kind h W
 clear h;have hV2:=And.intro hV hV;clear hV2 hV
 replace hM:=hid hM
 have g3:decide (3≤M)=false:=decide_eq_false k;go_enter func116,ntmps116;go_wp2_with (first | (with_reducible show wpList _ _ _ (⟨some 24,Op.load 25 (.tmp 5),25,_,_,_⟩ :: _) _ _;refine zbs (by kernel_rfl) rfl (Box.load (hW.out.1) hC) rfl ?_;simp only [Act.put,List.setIfInBounds_toArray,List.set_cons_zero,List.set_cons_succ]) | (go_at_call 160;(with_reducible refine (cM.out _).mono ?_);rintro e' w1 ⟨rfl,k1⟩;rw [hM.out];have c15:=(((hW.out.1).next k1).cell 15).trans f15;have k1:=hid k1));go_ret2;exact ⟨zaQ HE.out,zac hW.out.2.2 k1.out⟩
theorem zuv (C V:Array Value) (ms sp m t kind:Int) (D:List UInt8) (W:World) (h:zdB C ms sp) (hV:V.size=3) (M:Int) (h0:0≤kind) (h2:kind≤2) (hM:zdA ms m kind=M) (k:¬ 3≤M) (s:(sp / 1152921504606846976 != 8)=false) (hS:zeT t=false):TB 116 #[.agg C,.int .i64 m,.agg V,.int .u64 t,.int .i64 kind] W (zes (zbp D ms sp m t kind)):=by
 have HE:Hid (zbp D ms sp m t kind=(0,zdy kind)):=hid ((if_neg (by omega)).trans ((if_neg (by rw [hM];exact k)).trans ((if_neg (by rw [s];decide)).trans (if_pos hS))));have g:decide (kind<0)=false:=decide_eq_false (by omega);have g2:decide (2<kind)=false:=decide_eq_false (by omega);have f15:=h.f15;have hC:=h.size;have hW:=hid (zgr W C V);have cM:=hid fun W=>ze9 C ms sp m kind h W
 clear h;have hV2:=And.intro hV hV;clear hV2 hV
 replace hM:=hid hM
 have g3:decide (3≤M)=false:=decide_eq_false k
 replace hS:=hid hS
 go_enter func116,ntmps116;go_wp2_with (first | (with_reducible show wpList _ _ _ (⟨some 24,Op.load 25 (.tmp 5),25,_,_,_⟩ :: _) _ _;refine zbs (by kernel_rfl) rfl (Box.load (hW.out.1) hC) rfl ?_;simp only [Act.put,List.setIfInBounds_toArray,List.set_cons_zero,List.set_cons_succ]) | (go_at_call 160;(with_reducible refine (cM.out _).mono ?_);rintro e' w1 ⟨rfl,k1⟩;rw [hM.out];have c15:=(((hW.out.1).next k1).cell 15).trans f15;have k1:=hid k1) | (go_at_call 161;(with_reducible refine (zgm t _).mono ?_);rintro e' w' ⟨rfl,rfl⟩;rw [hS.out]) | (go_at_call 162;(with_reducible refine (zds kind h0 h2 _).mono ?_);rintro e' w' ⟨rfl,rfl⟩));go_ret2;exact ⟨zaQ HE.out,zac hW.out.2.2 k1.out⟩
end Go.Proofs.YtplcfdnfeclpmaaGreatDoor.Wk
