/- MachineOn, part 32. -/
import Derived.Test.YtplcfdnfeclpmaaGreatDoorV01
import Derived.Test.YtplcfdnfeclpmaaGreatDoorV03
import Derived.Test.YtplcfdnfeclpmaaGreatDoorV04
import Derived.Test.YtplcfdnfeclpmaaGreatDoorV06
import Derived.Test.YtplcfdnfeclpmaaGreatDoorV18
import Derived.Test.YtplcfdnfeclpmaaGreatDoorV23
import Derived.Test.YtplcfdnfeclpmaaGreatDoorV27
import Derived.Test.YtplcfdnfeclpmaaGreatDoorV31
set_option maxHeartbeats 4000000
set_option maxRecDepth 100000
open Go.Lib (hid)
namespace Go.Proofs.YtplcfdnfeclpmaaGreatDoor
open Go.RowKit Go.Deep Go.Joins
def zcJ (m:Mc) (p:Pt):Int:=bits .or .u64 (zfC m.b m.cnt) (Pc.zcO m.b.pl (zbB m.b p.F))
theorem zxK (m:Mc) (p:Pt) (W:World) (hl:m.b.fn=p.F.length):TB 27 #[mcV m] W (.int .u64 (zcJ m p)):=by
 have C1:=hid (fun W=>zqc m.b m.cnt W);have C2:=hid (fun W=>zlz m.b p.F W hl);have C3:=hid (fun W=>Pc.zpH m.b.pl (zbB m.b p.F) W);unfold zcJ;generalize zbB m.b p.F=sv at C2 C3 ⊢;generalize zfC m.b m.cnt=cv at C1 ⊢;generalize Pc.zcO m.b.pl sv=lv at C3 ⊢;clear hl;go_enter Tryz.func27,Tryz.ntmps27;have X:=hid ((Mem.start W).new (mcC m) 42 (by decide));go_upto_region 1 with (fail);generalize W.alloc (.cells (mcC m) 42)=wa at X ⊢;refine dr (fun w=>MBox w W.heap.size m) fun wz hzz=>?_
 have X:=hid (X.out.next hzz);clear hzz;have hS:MBox wz W.heap.size m:=X.out.g0;refine tk 0 hS ?_
 refine tl 1 hS (fun w hw=>MBox.load_b hw) ?_
 refine tk 2 hS ?_
 refine tl 3 hS (fun w hw=>MBox.load_cnt hw) ?_
 refine tk 5 hS ?_
 refine tk 6 hS ?_
 refine tl 7 hS (fun w hw=>MBox.load_pl hw) ?_
 refine tk 8 hS ?_
 refine tl 9 hS (fun w hw=>MBox.load_b hw) ?_
 refine hc 4 (zbL (C1.out _)) ?_
 rintro v' wb ⟨rfl,kk⟩
 have X:=hid (X.out.next kk);refine ⟨X.out.g0,fun hS=>?_⟩
 clear kk;simp only [puts];refine hc 10 (zbL (C2.out _)) ?_
 rintro v' wb ⟨rfl,kk⟩
 have X:=hid (X.out.next kk);refine ⟨X.out.g0,fun hS=>?_⟩
 clear kk;simp only [puts];refine hc 11 (zbL (C3.out _)) ?_
 rintro v' wb ⟨rfl,kk⟩
 have X:=hid (X.out.next kk);refine ⟨X.out.g0,fun hS=>?_⟩
 clear kk;simp only [puts];refine tk 12 hS ?_
 refine tk 13 hS ?_
 refine wpAnyH_done (by kernel_rfl) ?_ _
 go_wp2_with fail;go_ret;exact ⟨rfl,X.out.below⟩
theorem MBox.hcell {w:World} {g:Nat} {m:Mc} (k:MBox w g m) (j:Nat) (hj:j<20):w.cell? ⟨g,32+j,none⟩=(zbA m.h)[j]? :=
 (cell_of_row w g (32+j) (mcC m) 42 (0,0) k).trans ((zf1 m (32+j) (by omega)).trans (zas m.h j))
theorem MBox.store_hart {w:World} {g:Nat} {m:Mc} (k:MBox w g m) (h:Hart):(Instr.storeAt 27 (.pointer (some ⟨g,0,none⟩)) (zat h)).run Tryz.prog w=.ok () (w.setRow g (mcC { m with h:=h })) :=
 zfk w g 0 42 27 (mcC m) (mcC { m with h:=h }) (zai h) k (by rw [zcU,zcn]) (zhN h) (by rw [zcn,zcA];omega)
  (by
   show mcL _=(mcL m).take 0 ++ _ ++ (mcL m).drop _
   rw [zcn];exact zfF [] (zby m.h) ((bdC m.b).toList ++ mcT m) (zby h) 0 52 rfl (zcD _))
theorem zlr (m m':Mc) (k:Nat) (v:Value) (hk:k<52) (hb:m'.b=m.b) (ht:mcT m'=mcT m) (he:zby m'.h=(zby m.h).set k v):(mcC m).setIfInBounds k v=mcC m':=by
 unfold mcC mcL;rw [List.setIfInBounds_toArray,List.set_append_left _ _ (by rw [zcD];exact hk),he,hb,ht]
theorem zwU (h g:Hart) (j:Nat) (v:Value) (hx:g.x=h.x) (ht:zbA g=(zbA h).set j v):zby g=(zby h).set (32+j) v:=by
 unfold zby;rw [List.set_append_right _ _ (by rw [zdS];omega),zdS,ht];unfold xL;rw [hx]
 congr 2
 omega
theorem MBox.store_h {w:World} {g:Nat} {m m':Mc} (k:MBox w g m) (ty j:Nat) (v:Value) (hu:(Tryz.prog.info? ty).map (·.size)=some 1) (hc:v.cells=#[v]) (h1:v.oneCell'=true) (hj:j<20) (hb:m'.b=m.b) (ht:mcT m'=mcT m) (hx:m'.h.x=m.h.x) (he:zbA m'.h=(zbA m.h).set j v):(Instr.storeAt ty (.pointer (some ⟨g,32+j,none⟩)) v).run Tryz.prog w=.ok () (w.setRow g (mcC m')):=by
 rw [← zlr m m' (32+j) v (by omega) hb ht (zwU m.h m'.h j v hx he)];exact zbQ w g (32+j) ty 42 (mcC m) v k hu (by rw [zcA];omega) h1 hc
theorem MBox.store_cnt {w:World} {g:Nat} {m:Mc} (k:MBox w g m) (n:Int):(Instr.storeAt 22 (.pointer (some ⟨g,76,none⟩)) (.int .u64 n)).run Tryz.prog w=.ok () (w.setRow g (mcC { m with cnt:=n })):=by
 exact (zbQ w g 76 22 42 (mcC m) _ k zbX (by rw [zcA];omega) rfl rfl).trans (by rw [zie m { m with cnt:=n } 3 _ rfl rfl rfl])
theorem MS.turn {W w:World} {B z:Nat} {m m':Mc} {p:Pt} (K:MS W B z m p) (hb:m'.b=m.b) (hd:m'.dv=m.dv) (hm:m'.mv=m.mv) (ho:m'.ov=m.ov) (h:zau W w (fun k=>k=z)) (hx:MBox w z m'):MS w B z m' p:=by
 have ne:∀ (g:Nat) (cs:Array Value) (t:TypeId),W.heap[g]?=some (.cells cs t (0,0))→t≠42→w.heap[g]?=W.heap[g]?:=fun g cs t hg ht=>h.block g (Array.getElem?_eq_some_iff.1 hg).1 fun e=>by
  rw [e,K.box] at hg;simp only [Option.some.injEq,Obj.cells.injEq] at hg;exact ht hg.2.1.symm
 have d1:OwnD w B m.dv p.D:=zbW K.d fun g hg=>by
  obtain ⟨cur,hc⟩:=zdp K.d hg;exact ne g cur 5 hc (by decide)
 have d2:OwnM w B m.mv p.M:=zbW K.mm fun g hg=>by
  obtain ⟨cur,hc⟩:=zdp K.mm hg;exact ne g cur 22 hc (by decide)
 have d3:w.ownsRow B 65 3 m.ov p.O.length (oC p.O):=zbW K.o fun g hg=>by
  obtain ⟨cur,hc⟩:=zdp K.o hg;exact ne g cur 65 hc (by decide)
 have d4:FT w B (.slice m.b.fp m.b.fn m.b.fc) p.F:=K.fr.keep fun g cur _ hg=>ne g cur 9 hg (by decide)
 refine ⟨hx,K.big,?_,?_,?_,?_⟩
 ·rw [hb];exact d4
 ·rw [hd];exact d1
 ·rw [hm];exact d2
 ·rw [ho];exact d3
abbrev turn (m:Mc) (h:Hart):Mc:={ m with h:=h }
theorem zga {P:Program} (w:World) (b k:Nat) (t:TypeId) (v:Value) (d:TypeDesc) (hu:P.underlying t=some d) (hd:(match d with | .struct _ | .array _ _=>true | _=>false)=false) (hcell:w.cell? ⟨b,k,none⟩=some v) :
  (Instr.loadAt t (.pointer (some ⟨b,k,none⟩))).run P w=.ok v w:=by
 have hagg:(isAgg t).run P w=.ok false w:=by
  unfold isAgg;rw [Sem.run_bind,run_underlying hu w];cases d <;> simp_all
 simp [Instr.loadAt,Instr.sureAddr,loadVar,Sem.run_bind,Result.andThen,hagg,run_load,hcell]
structure Wk where
 o:Int
 r:Int
 a:Int
 b:Int
 i:Int
 wd:Int
 np:Int
 l:Int
abbrev wgC (z:Nat) (g:Wk):Array Value:=#[.pointer (some ⟨z,0,none⟩),.int .i64 g.o,.int .i64 g.r,.int .i64 g.a,.int .i64 g.b,.int .i64 g.i,.int .u32 g.wd,.int .u64 g.np,.int .u64 g.l]
def KW (w:World) (k z:Nat) (g:Wk):Prop:=w.heap[k]?=some (.cells (wgC z g) 82 (0,0))
theorem KW.lt {w:World} {k z:Nat} {g:Wk} (h:KW w k z g):k<w.heap.size:=(Array.getElem?_eq_some_iff.1 h).1
theorem KW.next {w w':World} {k z:Nat} {g:Wk} (h:KW w k z g) (j:Below w.heap.size w w'):KW w' k z g:=(j.block k h.lt).trans h
theorem KW.touch {w w':World} {k z:Nat} {g:Wk} {S:Nat→Prop} (h:KW w k z g) (j:zau w w' S) (hS:¬ S k):KW w' k z g:=(j.block k h.lt hS).trans h
theorem KW.put {w:World} {k z:Nat} {g:Wk} (h:KW w k z g) (g':Wk):KW (w.setRow k (wgC z g')) k z g':=setRow_heap w k _ (wgC z g') 82 (0,0) h
abbrev rgC (z:Nat):Array Value:=#[.pointer (some ⟨z,0,none⟩)]
abbrev rgV (z:Nat):Value:=.agg (rgC z)
abbrev rgO (z:Nat):Obj:=.cells (rgC z) 77
theorem zk6:(Tryz.prog.info? 77).map (·.size)=some 1:=by kernel_rfl
theorem zib:(Tryz.prog.info? 80).map (·.size)=some 5:=by kernel_rfl
theorem zgR {w:World} {g z:Nat} (h:w.heap[g]?=some (rgO z)):(Instr.loadAt 77 (.pointer (some ⟨g,0,none⟩))).run Tryz.prog w=.ok (rgV z) w:=by
 simp only [Instr.loadAt,Instr.sureAddr,Sem.run_bind,Sem.run_pure,Result.andThen];exact run_loadVar_row w g 77 77 (rgC z) (0,0) _ h Tryz.underlying77 rfl (by rw [zk6];rfl)
theorem zdF {w:World} {g z:Nat} (h:w.heap[g]?=some (rgO z)):(Instr.loadAt 48 (.pointer (some ⟨g,0,none⟩))).run Tryz.prog w=.ok (.pointer (some ⟨z,0,none⟩)) w:=za0 w g 0 48 77 _ _ _ h Tryz.underlying48 rfl rfl
section
variable {w : World} {k z : Nat} {g : Wk}
theorem KW.op (h:KW w k z g):(Instr.loadAt 3 (.pointer (some ⟨k,1,none⟩))).run Tryz.prog w=.ok (.int .i64 g.o) w:=za0 w k 1 3 82 _ _ _ h Tryz.underlying3 rfl rfl
theorem KW.rd (h:KW w k z g):(Instr.loadAt 3 (.pointer (some ⟨k,2,none⟩))).run Tryz.prog w=.ok (.int .i64 g.r) w:=za0 w k 2 3 82 _ _ _ h Tryz.underlying3 rfl rfl
theorem KW.rs1 (h:KW w k z g):(Instr.loadAt 3 (.pointer (some ⟨k,3,none⟩))).run Tryz.prog w=.ok (.int .i64 g.a) w:=za0 w k 3 3 82 _ _ _ h Tryz.underlying3 rfl rfl
theorem KW.rs2 (h:KW w k z g):(Instr.loadAt 3 (.pointer (some ⟨k,4,none⟩))).run Tryz.prog w=.ok (.int .i64 g.b) w:=za0 w k 4 3 82 _ _ _ h Tryz.underlying3 rfl rfl
theorem KW.imm (h:KW w k z g):(Instr.loadAt 2 (.pointer (some ⟨k,5,none⟩))).run Tryz.prog w=.ok (.int .i64 g.i) w:=za0 w k 5 2 82 _ _ _ h Tryz.underlying2 rfl rfl
theorem KW.wd (h:KW w k z g):(Instr.loadAt 29 (.pointer (some ⟨k,6,none⟩))).run Tryz.prog w=.ok (.int .u32 g.wd) w:=za0 w k 6 29 82 _ _ _ h Tryz.underlying29 rfl rfl
theorem KW.np (h:KW w k z g):(Instr.loadAt 22 (.pointer (some ⟨k,7,none⟩))).run Tryz.prog w=.ok (.int .u64 g.np) w:=za0 w k 7 22 82 _ _ _ h Tryz.underlying22 rfl rfl
theorem KW.l (h:KW w k z g):(Instr.loadAt 22 (.pointer (some ⟨k,8,none⟩))).run Tryz.prog w=.ok (.int .u64 g.l) w:=za0 w k 8 22 82 _ _ _ h Tryz.underlying22 rfl rfl
theorem KW.ptr (h:KW w k z g):(Instr.loadAt 48 (.pointer (some ⟨k,0,none⟩))).run Tryz.prog w=.ok (.pointer (some ⟨z,0,none⟩)) w:=za0 w k 0 48 82 _ _ _ h Tryz.underlying48 rfl rfl
theorem KW.rg (h:KW w k z g):(Instr.loadAt 77 (.pointer (some ⟨k,0,none⟩))).run Tryz.prog w=.ok (rgV z) w :=
 zd2 w k 0 82 77 _ [.pointer (some ⟨z,0,none⟩)] _ h Tryz.underlying77 rfl (by rw [zk6];rfl) fun j v hv=>by
  match j,hv with
  | 0,hv=>exact hv
  | j+1,hv=>simp at hv
theorem KW.setwd (h:KW w k z g) (v:Int):(Instr.storeAt 29 (.pointer (some ⟨k,6,none⟩)) (.int .u32 v)).run Tryz.prog w=.ok () (w.setRow k (wgC z { g with wd:=v })):=zbQ w k 6 29 82 _ _ h (by kernel_rfl) (show 6<9 by decide) rfl rfl
theorem KW.setnp (h:KW w k z g) (v:Int):(Instr.storeAt 22 (.pointer (some ⟨k,7,none⟩)) (.int .u64 v)).run Tryz.prog w=.ok () (w.setRow k (wgC z { g with np:=v })):=zbQ w k 7 22 82 _ _ h zbX (show 7<9 by decide) rfl rfl
abbrev inC (o r a b i:Int):Array Value:=#[.int .i64 o,.int .i64 r,.int .i64 a,.int .i64 b,.int .i64 i]
theorem KW.setin (h:KW w k z g) (o r a b i:Int):(Instr.storeAt 80 (.pointer (some ⟨k,1,none⟩)) (.agg (inC o r a b i))).run Tryz.prog w=.ok () (w.setRow k (wgC z { g with o:=o,r:=r,a:=a,b:=b,i:=i })) :=
 zfk w k 1 82 80 (wgC z g) (wgC z { g with o:=o,r:=r,a:=a,b:=b,i:=i }) (inC o r a b i) h (by rw [zib];rfl) (by simp [Value.oneCell']) (show 1+5≤9 by decide) rfl
end
def Ms (w:World) (B z:Nat) (v:Mc) (p:Pt) (T:Nat→Prop):Prop:=∃ m,Same v m∧MS w B z m p∧∀ x,Ow m z x→T x
theorem Same.refl (m:Mc):Same m m:=⟨fun _ _ _ _ _ _=>rfl⟩
theorem Same.trans {a b c:Mc} (h:Same a b) (k:Same b c):Same a c:=⟨fun q n e x y u=>(k.s q n e x y u).trans (h.s q n e x y u)⟩
theorem Same.h {a b:Mc} (k:Same a b):b.h=a.h:=by have:=congrArg Mc.h (k.s none 0 0 undef undef undef);exact this
theorem Same.cnt {a b:Mc} (k:Same a b):b.cnt=a.cnt:=by have:=congrArg Mc.cnt (k.s none 0 0 undef undef undef);exact this
theorem Same.re {a b:Mc} (k:Same a b):b=reM a b.b.fp b.b.fn b.b.fc b.dv b.mv b.ov :=
 Eq.trans (show b=reM b b.b.fp b.b.fn b.b.fc b.dv b.mv b.ov from rfl) (k.s b.b.fp b.b.fn b.b.fc b.dv b.mv b.ov)
theorem Same.turn {a b:Mc} (k:Same a b) (h:Hart):Same (turn a h) (turn b h):=⟨fun q n e x y u=>by
 have:=congrArg (fun m:Mc=>({ m with h:=h }:Mc)) (k.s q n e x y u);exact this⟩
theorem Same.count {a b:Mc} (k:Same a b) (n:Int):Same { a with cnt:=n } { b with cnt:=n }:=⟨fun q c e x y u=>by
 have:=congrArg (fun m:Mc=>({ m with cnt:=n }:Mc)) (k.s q c e x y u);exact this⟩
theorem Ms.mono {w:World} {B z:Nat} {v:Mc} {p:Pt} {T T':Nat→Prop} (h:Ms w B z v p T) (k:∀ x,T x→T' x):Ms w B z v p T':=by
 obtain ⟨m,h1,h2,h3⟩:=h;exact ⟨m,h1,h2,fun x hx=>k x (h3 x hx)⟩
theorem Ms.next {w w':World} {B z:Nat} {v:Mc} {p:Pt} {T:Nat→Prop} (h:Ms w B z v p T) (hb:Below w.heap.size w w'):Ms w' B z v p T:=by
 obtain ⟨m,h1,h2,h3⟩:=h;exact ⟨m,h1,h2.next hb,h3⟩
def Ch (W W':World) (B z:Nat) (T:Nat→Prop) (v:Mc) (p:Pt):Prop:=Ms W' B z v p T∧zau W W' T
theorem Ch.below {W W':World} {B z:Nat} {v:Mc} {p:Pt} {T:Nat→Prop} (K:Ms W B z v p T) (hb:Below W.heap.size W W'):Ch W W' B z T v p:=⟨K.next hb,zcr hb T⟩
theorem Ch.before {W w W':World} {B z:Nat} {v:Mc} {p:Pt} {T:Nat→Prop} (h:Ch w W' B z T v p) (hb:zau W w T):Ch W W' B z T v p:=⟨h.1,hb.trans h.2⟩
theorem Chg.ch {W W':World} {B z:Nat} {v m:Mc} {p:Pt} {T:Nat→Prop} {h:Hart} (k:Same v m) (K:MS W B z m p) (hT:∀ x,Ow m z x→T x) (c:Chg W W' z (turn m h)):Ch W W' B z T (turn v h) p:=by
 have hz:=c.box K.box;have ht:=c.touch;exact ⟨⟨turn m h,k.turn h,K.turn rfl rfl rfl rfl ht hz,hT⟩,ht.mono fun x _ hx=>hT x (.inl hx)⟩
theorem Chg.count {W W':World} {B z:Nat} {v m:Mc} {p:Pt} {T:Nat→Prop} {n:Int} (k:Same v m) (K:MS W B z m p) (hT:∀ x,Ow m z x→T x) (c:Chg W W' z { m with cnt:=n }):Ch W W' B z T { v with cnt:=n } p:=by
 have hz:=c.box K.box;have ht:=c.touch;exact ⟨⟨{ m with cnt:=n },k.count n,K.turn rfl rfl rfl rfl ht hz,hT⟩,ht.mono fun x _ hx=>hT x (.inl hx)⟩
theorem Did.ch {W W':World} {B z:Nat} {m r rv:Mc} {p':Pt} {T:Nat→Prop} (d:Did W W' B z m r p') (k:Same rv r) (hT:∀ x,Ow m z x→T x) (up:∀ x,W.heap.size≤x→T x):Ch W W' B z T rv p':=by
 obtain ⟨q,c,dv,mv,ov,h1,h2,h3⟩:=d;refine ⟨⟨_,⟨fun q' n' c' x y u=>?_⟩,h1,fun x hx=>(h3 x hx).elim (hT x) (up x)⟩,h2.mono fun x _ hx=>hT x hx⟩
 exact k.s q' n' c' x y u
structure St (w:World) (B z k:Nat) (T:Nat→Prop) (v:Mc) (p:Pt) (g:Wk):Prop where
 ms:Ms w B z v p T
 hB:B≤w.heap.size
 up:∀ x,w.heap.size≤x→T x
 kw:KW w k z g
 nk:¬ T k
section
variable {w w' : World} {B z k : Nat} {T : Nat → Prop} {v v' : Mc} {p p' : Pt} {g g' : Wk}
theorem St.next (h:St w B z k T v p g) (hb:Below w.heap.size w w'):St w' B z k T v p g:=⟨h.ms.next hb,Nat.le_trans h.hB hb.size,fun x hx=>h.up x (Nat.le_trans hb.size hx),h.kw.next hb,h.nk⟩
theorem St.ch (h:St w B z k T v p g) (c:Ch w w' B z T v' p'):St w' B z k T v' p' g:=⟨c.1,Nat.le_trans h.hB c.2.size,fun x hx=>h.up x (Nat.le_trans c.2.size hx),h.kw.touch c.2 h.nk,h.nk⟩
def Cw (W W':World) (B z k:Nat) (T:Nat→Prop) (v:Mc) (p:Pt) (g:Wk):Prop:=St W' B z k T v p g∧zau W W' (fun x=>T x∨x=k)
theorem Cw.of (h:St w B z k T v p g) (c:Ch w w' B z T v' p'):Cw w w' B z k T v' p' g:=⟨h.ch c,c.2.mono fun _ _ hx=>.inl hx⟩
theorem Cw.trans {w'':World} {v'':Mc} {p'':Pt} {g'':Wk} (h:Cw w w' B z k T v p g) (c:Cw w' w'' B z k T v'' p'' g''):Cw w w'' B z k T v'' p'' g'':=⟨c.1,h.2.trans c.2⟩
theorem Cw.below (h:St w B z k T v p g) (hb:Below w.heap.size w w'):Cw w w' B z k T v p g:=Cw.of h (Ch.below h.ms hb)
theorem Cw.before {w0:World} (h:Cw w w' B z k T v p g) (hb:Below w0.heap.size w0 w):Cw w0 w' B z k T v p g:=⟨h.1,(zcr hb _).trans h.2⟩
theorem Cw.ch {w'':World} (h:Cw w w' B z k T v p g) (c:Ch w' w'' B z T v' p'):Cw w w'' B z k T v' p' g:=h.trans (Cw.of h.1 c)
theorem St.setwk (h:St w B z k T v p g) (g':Wk):Cw w (w.setRow k (wgC z g')) B z k T v p g':=by
 obtain ⟨m,h1,h2,h3⟩:=h.ms;have ht:zau w (w.setRow k (wgC z g')) (fun x=>x=k):=(zau.refl w (fun x=>x=k)).setRow (.inl rfl) _;refine ⟨⟨⟨m,h1,h2.keep fun x hx=>ht.block x (h2.lt hx).2 fun e=>?_,h3⟩,Nat.le_trans h.hB ht.size,fun x hx=>h.up x (Nat.le_trans ht.size hx),h.kw.put g',h.nk⟩,ht.mono fun x _ hx=>.inr hx⟩
 exact h.nk (e ▸ h3 x hx)
theorem St.box (h:St w B z k T v p g):∃ m,Same v m∧MBox w z m:=by
 obtain ⟨m,h1,h2,h3⟩:=h.ms;exact ⟨m,h1,h2.box⟩
theorem MBox.load_reg {m:Mc} (k:MBox w z m):(Instr.loadAt 25 (.pointer (some ⟨z,34,none⟩))).run Tryz.prog w=.ok (regV m.h.c) w :=
 zd2 w z 34 42 25 (mcC m) (((zbA m.h).drop 2).take 16) _ k Tryz.underlying25 rfl (by rw [zc2];rfl) fun j v hv=>by
  have hj:j<16:=by have:=(List.getElem?_eq_some_iff.1 hv).1;simpa [zbA] using this
  rw [List.getElem?_take_of_lt hj,List.getElem?_drop] at hv;rw [show 34+j=32+(2+j) by omega,zf1 m (32+(2+j)) (by omega),zas];exact hv
theorem MBox.load_mode {m:Mc} (k:MBox w z m):(Instr.loadAt 3 (.pointer (some ⟨z,33,none⟩))).run Tryz.prog w=.ok (.int .i64 m.h.mode) w :=
 zga w z 33 3 _ _ Tryz.underlying3 rfl ((MBox.hcell k 1 (by decide)).trans rfl)
theorem MBox.load_pc {m:Mc} (k:MBox w z m):(Instr.loadAt 22 (.pointer (some ⟨z,32,none⟩))).run Tryz.prog w=.ok (.int .u64 m.h.pc) w :=
 zga w z 32 22 _ _ Tryz.underlying22 rfl ((MBox.hcell k 0 (by decide)).trans rfl)
theorem MBox.load_held {m:Mc} (k:MBox w z m):(Instr.loadAt 4 (.pointer (some ⟨z,50,none⟩))).run Tryz.prog w=.ok (.bool m.h.held) w :=
 zga w z 50 4 _ _ Tryz.underlying4 rfl ((MBox.hcell k 18 (by decide)).trans rfl)
theorem MBox.load_rat {m:Mc} (k:MBox w z m):(Instr.loadAt 22 (.pointer (some ⟨z,51,none⟩))).run Tryz.prog w=.ok (.int .u64 m.h.rat) w :=
 zga w z 51 22 _ _ Tryz.underlying22 rfl ((MBox.hcell k 19 (by decide)).trans rfl)
def xV (h:Hart) (n:Int):Int:=h.x.getD n.toNat 0
theorem MBox.load_xn {m:Mc} (k:MBox w z m) (n:Nat) (hn:n<32):(Instr.loadAt 22 (.pointer (some ⟨z,n,none⟩))).run Tryz.prog w=.ok (.int .u64 (xV m.h n)) w :=
 za0 w z n 22 42 (mcC m) _ _ k Tryz.underlying22 rfl ((zf1 m n (by omega)).trans ((zho m.h n hn).trans (by
  have hl:n<m.h.x.length:=by rw [m.h.hx];exact hn
  unfold xL xV;rw [List.getElem?_map,Int.toNat_natCast,List.getElem?_eq_getElem hl,List.getD_eq_getElem?_getD,List.getElem?_eq_getElem hl];rfl)))
theorem St.l_hart (h:St w B z k T v p g):(Instr.loadAt 27 (.pointer (some ⟨z,0,none⟩))).run Tryz.prog w=.ok (zat v.h) w:=by
 obtain ⟨m,s,b⟩:=h.box;rw [← s.h];exact b.load_hart
theorem St.l_reg (h:St w B z k T v p g):(Instr.loadAt 25 (.pointer (some ⟨z,34,none⟩))).run Tryz.prog w=.ok (regV v.h.c) w:=by
 obtain ⟨m,s,b⟩:=h.box;rw [← s.h];exact b.load_reg
theorem St.l_mode (h:St w B z k T v p g):(Instr.loadAt 3 (.pointer (some ⟨z,33,none⟩))).run Tryz.prog w=.ok (.int .i64 v.h.mode) w:=by
 obtain ⟨m,s,b⟩:=h.box;rw [← s.h];exact b.load_mode
theorem St.l_pc (h:St w B z k T v p g):(Instr.loadAt 22 (.pointer (some ⟨z,32,none⟩))).run Tryz.prog w=.ok (.int .u64 v.h.pc) w:=by
 obtain ⟨m,s,b⟩:=h.box;rw [← s.h];exact b.load_pc
theorem St.l_held (h:St w B z k T v p g):(Instr.loadAt 4 (.pointer (some ⟨z,50,none⟩))).run Tryz.prog w=.ok (.bool v.h.held) w:=by
 obtain ⟨m,s,b⟩:=h.box;rw [← s.h];exact b.load_held
theorem St.l_rat (h:St w B z k T v p g):(Instr.loadAt 22 (.pointer (some ⟨z,51,none⟩))).run Tryz.prog w=.ok (.int .u64 v.h.rat) w:=by
 obtain ⟨m,s,b⟩:=h.box;rw [← s.h];exact b.load_rat
theorem St.l_cnt (h:St w B z k T v p g):(Instr.loadAt 22 (.pointer (some ⟨z,76,none⟩))).run Tryz.prog w=.ok (.int .u64 v.cnt) w:=by
 obtain ⟨m,s,b⟩:=h.box;rw [← s.cnt];exact b.load_cnt
theorem St.l_x (h:St w B z k T v p g) (n:Nat) (hn:n<32):(Instr.loadAt 22 (.pointer (some ⟨z,n,none⟩))).run Tryz.prog w=.ok (.int .u64 (xV v.h n)) w:=by
 obtain ⟨m,s,b⟩:=h.box;rw [← s.h];exact b.load_xn n hn
end
theorem zbC {f:FuncId} {args:Array Value} {w:World} {v:Value} {R:World→Prop} (h:Calls Tryz.prog f args w fun e w'=>e=.returned v∧R w'):Calls Tryz.prog f args w fun e w'=>∃ u,e=.returned u∧(u=v∧R w'):=h.mono fun _ _ h=>⟨_,h.1,rfl,h.2⟩
theorem zdn {f:FuncId} {args:Array Value} {w:World} {v:Value} (h:Calls Tryz.prog f args w fun e w'=>e=.returned v∧w=w'):Calls Tryz.prog f args w fun e w'=>∃ u,e=.returned u∧(u=v∧w=w'):=h.mono fun _ _ h=>⟨_,h.1,rfl,h.2⟩
end Go.Proofs.YtplcfdnfeclpmaaGreatDoor

namespace Go.Proofs.YtplcfdnfeclpmaaGreatDoor
open Go.RowKit Go.Deep Go.Joins
set_option maxRecDepth 100000
theorem zmj (n:Nat) (s:ByteArray) (w:World) (h1:1≤n) (h2:n≤256) (hs:s.size≤n*256) :
  Calls Tryz.prog 55 #[.int .i64 n,.string s] w (zrA w (spl (List.replicate (n*256) 0) 0 s) (List.replicate n 0) 0 0):=by
 have hmd:=zhx (n*256) (by omega);have hmm:=zk7 n (by omega);rw [show ((n*256:Nat):Int)=(n:Int)*256 by simp] at hmd;have hwr:IntKind.i64.wrap ((n:Int)*256)=(n:Int)*256:=IntWalk.i64_in _ (by omega);go_enter Tryz.func55,Tryz.ntmps55;go_upto_region 5 with fail
 go_cut [6] (fun s6 wx=>Made w (n*256) n 0 s6 wx)
 case first =>
  go_region
  all_goals (go_wp2_with fail;go_meet)
  all_goals
   have hsz:(w.alloc (Obj.cells #[Value.slice none 0 0,Value.slice none 0 0,Value.int IntKind.u64 0] 39)).heap.size=w.heap.size+1:=World.size_alloc _ _;have hx1:n*256≤maxLen:=by unfold maxLen;omega
   have hx2:n≤maxLen:=by unfold maxLen;omega
   have hbl:∀ o1 o2 o3,Below (w.heap.size+1) (w.alloc (.cells #[.slice none 0 0,.slice none 0 0,.int .u64 0] 39)) ((((w.alloc (.cells #[.slice none 0 0,.slice none 0 0,.int .u64 0] 39)).alloc o1).alloc o2).alloc o3).drew:=fun o1 o2 o3 =>
    ((((Below.refl _ _).alloc (by simp) _).alloc (by simp) _).alloc (by simp) _).drew
   first | exact zfl (new3 hsz).1 (new3 hsz).2.1 (new3 hsz).2.2 (by omega) (by omega) (by omega) hx1 hx2 (hbl _ _ _) | exact zfl (new3 hsz).1 (new3 hsz).2.2 (new3 hsz).2.1 (by omega) (by omega) (by omega) hx1 hx2 (hbl _ _ _) | exact zfl (new3 hsz).2.1 (new3 hsz).1 (new3 hsz).2.2 (by omega) (by omega) (by omega) hx1 hx2 (hbl _ _ _) | exact zfl (new3 hsz).2.1 (new3 hsz).2.2 (new3 hsz).1 (by omega) (by omega) (by omega) hx1 hx2 (hbl _ _ _) | exact zfl (new3 hsz).2.2 (new3 hsz).1 (new3 hsz).2.1 (by omega) (by omega) (by omega) hx1 hx2 (hbl _ _ _) | exact zfl (new3 hsz).2.2 (new3 hsz).2.1 (new3 hsz).1 (by omega) (by omega) (by omega) hx1 hx2 (hbl _ _ _) | fail
 case rest =>
  clear hmd hmm hwr;obtain ⟨z,g,h,rfl,hv,hd,hm,hz,hg,hh,hb⟩:=hcut;have hr:zca wc w.heap.size (.slice none 0 0) (.slice none 0 0) 0:=(hb.block _ (Nat.lt_succ_self _)).trans (zdI _ _);obtain ⟨c0,c1,c2⟩:=hv.cells;have hl:(List.replicate (n*256) (0:UInt8)).length=n*256:=List.length_replicate ..;generalize List.replicate (n*256) (0:UInt8)=Z at *;generalize List.replicate n (0:Int)=Y at *;have hzg:z≠g:=fun e=>zb8 hd hv (by decide) (by rw [e];rfl)
  have hrg:w.heap.size≠g:=fun e=>zb8 hd hr (by decide) (by rw [← e];rfl)
  have hhg:h≠g:=fun e=>ze4 hm hd (by decide) rfl (by rw [e];rfl)
  have HV:=hid hv;have HR:=hid hr;have HM:=hid hm;have HB:=hid hb;have HD:=hid hd;have HL:=hid hl;clear hv hr hm hb hd hl;go_wp2_with (with_reducible refine zmq rfl (.tmp 27) (.tmp 28) 36 9 rfl 5 Tryz.underlying36 (by kernel_rfl) _ _ g 0 rfl s rfl w.heap.size _ _ Z HD.out (by omega) (by rw [HL.out];omega) ?_;intro w2 hd2 ht2;obtain ⟨e0,e1,e2⟩:=(HV.out.touch ht2.out hzg).cells;have hr2:=hid (HR.out.touch ht2.out hrg);obtain ⟨r0,r1,r2⟩:=hr2.out.cells;have r3:=hr2.out.free 0;have r4:=hr2.out.free 1;have r5:=hr2.out.free 2);have hfin:=hr2.out.store (.slice (some ⟨g,0,none⟩) (n*256) (n*256)) (.slice (some ⟨h,0,none⟩) n n) 0;obtain ⟨f0,f1,f2⟩:=hfin.cells;clear e0 e1 e2 r0 r1 r2 r3 r4 r5 c0 c1 c2;refine bodyPost_ret (v:=.tuple #[.agg #[.slice (some ⟨g,0,none⟩) (n*256) (n*256),.slice (some ⟨h,0,none⟩) n n,.int .u64 0],.int .i64 0]) (by simp [results,Tryz.results55,go_sem,f0,f1,f2]) rfl ?_
  refine ⟨_,_,rfl,?_,?_,?_⟩
  ·exact zc1 hd2.out ((((zau.refl w2 (fun k=>k=w.heap.size)).setCell (.inl rfl) _).setCell (.inl rfl) _).setCell (.inl rfl) _) (fun g' e e2=>hrg (by cases e;exact e2.symm))
  ·exact zc1 (zc1 HM.out ht2.out (fun g' e e2=>hhg (by cases e;exact e2))) ((((zau.refl w2 (fun k=>k=w.heap.size)).setCell (.inl rfl) _).setCell (.inl rfl) _).setCell (.inl rfl) _) (fun g' e e2=>by cases e;exact absurd e2 (show h≠w.heap.size by omega))
  ·have hb1:Below w.heap.size w wc:=(zag w _).trans (HB.out.mono (Nat.le_succ _))
   have hb2:=zau.below hb1 ht2.out (fun k hk=>by omega) hb1.size;exact ((hb2.setCell (Nat.le_refl _) _).setCell (Nat.le_refl _) _).setCell (Nat.le_refl _) _
end Go.Proofs.YtplcfdnfeclpmaaGreatDoor
namespace Go.Proofs.YtplcfdnfeclpmaaGreatDoor
open Go.RowKit Go.Deep Go.Joins
def zer:ByteArray:=⟨(List.replicate 1024 (0:UInt8)).toArray⟩
theorem zzd (w:World) (D:List UInt8) (hD:D.length≤maxLen):(convert 36 9 (.slice (some ⟨w.heap.size,0,none⟩) D.length D.length)).run Tryz.prog (w.alloc (.cells (dC D).toArray 5))=.ok (.string ⟨D.toArray⟩) (w.alloc (.cells (dC D).toArray 5)):=by
 have hown:=zf9 (w:=w.alloc (.cells (dC D).toArray 5)) (B:=0) (Nat.zero_le _) (zdI w (.cells (dC D).toArray 5)) (by rw [List.size_toArray,zeU]) hD;rw [List.toList_toArray] at hown;exact zhQ (OwnD.at (B:=0) hown)
def bdN:Bd:={ bdZ with cmp:=18446744073709551615,sec:=zer }
theorem zyw (W:World):TB 56 #[] W (bdV bdN):=by
 have X:=hid (show Box (W.alloc zaj) W.heap.size bdZ from Box.new W bdZ);have hb0:=zag W zaj;have hmd:(Instr.makeSlice 36 (.int .i64 1024) (.int .i64 1024)).run Tryz.prog (W.alloc zaj)=.ok (.slice (some ⟨(W.alloc zaj).heap.size,0,none⟩) 1024 1024) ((W.alloc zaj).alloc (.cells (dC (List.replicate 1024 0)).toArray 5)):=zhx 1024 (by omega) (W.alloc zaj);have hstr:=zzd (W.alloc zaj) (List.replicate 1024 0) (by rw [List.length_replicate];unfold maxLen;omega);rw [List.length_replicate] at hstr;have Y:=hid (X.out.next (zag _ (.cells (dC (List.replicate 1024 0)).toArray 5)));have HB:=hid (zac hb0 (zag _ (.cells (dC (List.replicate 1024 0)).toArray 5)));obtain ⟨z,hz⟩:∃ z,z=(⟨(List.replicate 1024 (0:UInt8)).toArray⟩:ByteArray):=⟨_,rfl⟩;rw [← hz] at hstr;obtain ⟨r,hr⟩:∃ r,r=(dC (List.replicate 1024 0)).toArray:=⟨_,rfl⟩;rw [← hr] at hmd hstr Y HB;have HZ:Hid (({ bdZ with cmp:=18446744073709551615,sec:=z }:Bd)=bdN):=hid (by subst hz;rfl);clear hz hr hb0;go_enter Tryz.func56,Tryz.ntmps56;go_upto_region 1 with (fail);clear X;generalize W.alloc zaj=u at hmd hstr Y HB ⊢;go_wp2_with (refine zaB (b:={ bdZ with cmp:=18446744073709551615,sec:=z }) Y.out rfl rfl rfl (by rfl) ?_;intro wz hwz;have K:=hid (Box.put Y.out hwz);have KB2:=hid (znp HB.out (Nat.le_refl _) hwz);clear hwz)
 exact bodyPost_ret (v:=bdV ({ bdZ with cmp:=18446744073709551615,sec:=z })) (results_cell_row Tryz.results56 _ _ W.heap.size 35 (bdC ({ bdZ with cmp:=18446744073709551615,sec:=z })) (0,0) _ rfl K.out Tryz.underlying35 rfl (by rw [zeK,zaN])) rfl ⟨by rw [HZ.out],KB2.out⟩
def frB (F:List ByteArray):Bool:=F.all fun f=>decide (f.size≤64)
def zao (b:Bd) (F:List ByteArray):Bool:=hasB b && decide (b.inn.size≤1024) && decide (F.length≤64) && frB F
theorem ztY {F:List ByteArray} (k:Nat) (hk:k<F.length) (h:64<F[k].size):frB F=false:=by
 unfold frB;rw [List.all_eq_false];exact ⟨F[k],List.getElem_mem _,by simp;omega⟩
theorem ziY {F:List ByteArray} (h:∀ j (hj:j<F.length),F[j].size≤64):frB F=true:=by
 unfold frB;rw [List.all_eq_true];intro f hf;obtain ⟨j,hj,rfl⟩:=List.getElem_of_mem hf;exact decide_eq_true (h j hj)
theorem zxY (b:Bd) (F:List ByteArray) (W:World) (h0:hasB b=false):TB 35 #[bdV b] W (.bool (zao b F)):=by
 have HE:Hid (zao b F=false):=hid (by unfold zao;simp [*]);have c26:=hid (fun W=>h0 ▸ zd9 b W);have X:=hid (Box.new W b);have HB:=hid (zag W (bdO b));go_enter Tryz.func35,Tryz.ntmps35;go_upto_region 1 with (fail);generalize W.alloc (bdO b)=wx at X HB ⊢;go_wp2_with (first | (with_reducible refine zaa rfl rfl (Box.load X.out) rfl ?_) | (go_at_call 59;(with_reducible refine (c26.out _).mono ?_);rintro e w2 ⟨rfl,k2⟩;have X2:=hid (X.out.next k2);have HB2:=hid (zac HB.out k2);clear k2;have mi:=X2.out.cell_inn;have mf:=X2.out.cell_fr));go_ret;exact ⟨zaT HE.out.symm,HB2.out⟩
theorem zzA (b:Bd) (F:List ByteArray) (W:World) (h0:hasB b=true) (h1:¬ b.inn.size≤1024):TB 35 #[bdV b] W (.bool (zao b F)):=by
 have HE:Hid (zao b F=false):=hid (by unfold zao;simp [*]);have c26:=hid (fun W=>h0 ▸ zd9 b W);have hi:decide (1024<b.inn.size)=true:=decide_eq_true (by omega);have X:=hid (Box.new W b);have HB:=hid (zag W (bdO b));go_enter Tryz.func35,Tryz.ntmps35;go_upto_region 1 with (fail);generalize W.alloc (bdO b)=wx at X HB ⊢;go_wp2_with (first | (with_reducible refine zaa rfl rfl (Box.load X.out) rfl ?_) | (go_at_call 59;(with_reducible refine (c26.out _).mono ?_);rintro e w2 ⟨rfl,k2⟩;have X2:=hid (X.out.next k2);have HB2:=hid (zac HB.out k2);clear k2;have mi:=X2.out.cell_inn;have mf:=X2.out.cell_fr));go_ret;exact ⟨zaT HE.out.symm,HB2.out⟩
theorem zmP (b:Bd) (F:List ByteArray) (W:World) (hl:b.fn=F.length) (h0:hasB b=true) (h1:b.inn.size≤1024) (h2:¬ F.length≤64):TB 35 #[bdV b] W (.bool (zao b F)):=by
 have HE:Hid (zao b F=false):=hid (by unfold zao;simp [*]);have c26:=hid (fun W=>h0 ▸ zd9 b W);have hi:decide (1024<b.inn.size)=false:=decide_eq_false (by omega);have hf:decide (64<b.fn)=true:=decide_eq_true (by omega);have X:=hid (Box.new W b);have HB:=hid (zag W (bdO b));go_enter Tryz.func35,Tryz.ntmps35;go_upto_region 1 with (fail);generalize W.alloc (bdO b)=wx at X HB ⊢;go_wp2_with (first | (with_reducible refine zaa rfl rfl (Box.load X.out) rfl ?_) | (go_at_call 59;(with_reducible refine (c26.out _).mono ?_);rintro e w2 ⟨rfl,k2⟩;have X2:=hid (X.out.next k2);have HB2:=hid (zac HB.out k2);clear k2;have mi:=X2.out.cell_inn;have mf:=X2.out.cell_fr));go_ret;exact ⟨zaT HE.out.symm,HB2.out⟩
theorem zlx (b:Bd) (F:List ByteArray) (W:World) (hl:b.fn=F.length) (h0:hasB b=true) (h1:b.inn.size≤1024) (h3:F.length=0):TB 35 #[bdV b] W (.bool (zao b F)):=by
 have HE:Hid (∀ x,frB F=x→zao b F=x):=hid (by rintro x rfl;unfold zao;simp [*]);have c26:=hid (fun W=>h0 ▸ zd9 b W);have hi:decide (1024<b.inn.size)=false:=decide_eq_false (by omega);have hff:decide (64<F.length)=false:=decide_eq_false (by omega);have X:=hid (Box.new W b);have HB:=hid (zag W (bdO b));go_enter Tryz.func35,Tryz.ntmps35;go_upto_region 1 with (fail);generalize W.alloc (bdO b)=wx at X HB ⊢;go_upto_region 3 with (first | (with_reducible refine zaa rfl rfl (Box.load X.out) rfl ?_) | (go_at_call 59;(with_reducible refine (c26.out _).mono ?_);rintro e w2 ⟨rfl,k2⟩;have X2:=hid (X.out.next k2);have HB2:=hid (zac HB.out k2);clear k2;have mi:=X2.out.cell_inn;have mf:=X2.out.cell_fr;rw [hl] at mf));have hz:(F.length:Int)=0:=by omega
 go_wp2_with fail
 go_loop [23] (fun i=>i=.int .i64 0) (fun _=>0)
 case atStart=>rfl
 case round =>
  subst hrel;have hlt:decide ((0:Int)<F.length)=false:=decide_eq_false (by omega);have hlt2:decide (0<F.length)=false:=decide_eq_false (by omega);have HF:=hid (HE.out true (ziY (fun j hj=>absurd hj (by omega))));clear hz;go_wp2_with fail;go_ret;exact ⟨zaT HF.out.symm,HB2.out⟩
theorem zjh (b:Bd) (F:List ByteArray) (W:World) (hl:b.fn=F.length) (h0:hasB b=true) (h1:b.inn.size≤1024) (h2:F.length≤64) (hf:FAt W (.slice b.fp b.fn b.fc) F) (h3:0<F.length):TB 35 #[bdV b] W (.bool (zao b F)):=by
 have HE:Hid (∀ x,frB F=x→zao b F=x):=hid (by rintro x rfl;unfold zao;simp [*]);have c26:=hid (fun W=>h0 ▸ zd9 b W);have hi:decide (1024<b.inn.size)=false:=decide_eq_false (by omega);have hff:decide (64<F.length)=false:=decide_eq_false (by omega);obtain ⟨g,off,cap,e,_,_,hg,hc⟩:=hf.cell h3;simp only [Value.slice.injEq] at e;obtain ⟨e1,_,e3⟩:=e;clear hf;have X:=hid (Box.new W b);have HB:=hid (zag W (bdO b));go_enter Tryz.func35,Tryz.ntmps35;go_upto_region 1 with (fail);generalize W.alloc (bdO b)=wx at X HB ⊢;go_upto_region 3 with (first | (with_reducible refine zaa rfl rfl (Box.load X.out) rfl ?_) | (go_at_call 59;(with_reducible refine (c26.out _).mono ?_);rintro e w2 ⟨rfl,k2⟩;have X2:=hid (X.out.next k2);have HB2:=hid (zac HB.out k2);clear k2;have mi:=X2.out.cell_inn;have mf:=X2.out.cell_fr;rw [hl,e1] at mf));have HC:=hid (fun j (hj:j<F.length)=>((HB2.out.cell (p:=⟨g,off+j,none⟩) hg).trans (hc j hj)));have HL:=hid (And.intro h2 h3);clear hc h2 h3 hff hi hg;go_wp2_with fail
 go_loop [23] (fun i=>∃ j:Nat,j≤F.length∧i=.int .i64 j∧Hid (∀ k (hk:k<F.length),k<j→F[k].size≤64)) (fun i=>F.length - (intOf i).toNat)
 case atStart=>exact ⟨0,Nat.zero_le _,rfl,hid (fun k _ hk=>absurd hk (Nat.not_lt_zero _))⟩
 case round =>
  obtain ⟨j,hj,rfl,hall⟩:=hrel;have hb64:F.length≤64:=HL.out.1
  by_cases hlt:j<F.length
  ·have c1:=HC.out j hlt
   have HN:=hid (fun h=>ztY (F:=F) j hlt h)
   have HS:=hid (show F[j].size≤64→∀ k (hk:k<F.length),k<j+1→F[k].size≤64 from fun h k hk hkj=>by
    by_cases e:k<j
    ·exact hall.out k hk e
    ·obtain rfl:k=j:=by omega
     exact h)
   generalize F[j]=X1 at *
   by_cases hx:64<X1.size
   ·go_wp2_with fail
    go_ret;exact ⟨zaT (HE.out _ (HN.out hx)).symm,HB2.out⟩
   ·go_wp2_with fail
    go_round
    case rel=>exact ⟨j+1,by omega,by go_num,hid (HS.out (by omega))⟩
    case measure=>simp [intOf];omega
  ·go_wp2_with fail
   go_ret;exact ⟨zaT (HE.out _ (ziY (fun k hk=>hall.out k hk (by omega)))).symm,HB2.out⟩
theorem zbe (b:Bd) (F:List ByteArray) (W:World) (hf:FAt W (.slice b.fp b.fn b.fc) F):TB 35 #[bdV b] W (.bool (zao b F)):=by
 have hl:=hf.len;rcases Bool.eq_false_or_eq_true (hasB b) with h0 | h0
 ·by_cases h1:b.inn.size≤1024
  ·by_cases h2:F.length≤64
   ·by_cases h3:F.length=0
    ·exact zlx b F W hl h0 h1 h3
    ·exact zjh b F W hl h0 h1 h2 hf (by omega)
   ·exact zmP b F W hl h0 h1 h2
  ·exact zzA b F W h0 h1
 ·exact zxY b F W h0
end Go.Proofs.YtplcfdnfeclpmaaGreatDoor

namespace Go.Proofs.YtplcfdnfeclpmaaGreatDoor
open Go.RowKit Go.Deep Go.Joins
theorem zaW.le {w:World} {v:Value} {size n:Nat} {cells:List Value} (h:zaW w v size n cells):n≤9223372036854775807:=by
 rcases h.2 with ⟨_,h⟩ | ⟨a,cap,_,h1,h2,_⟩
 ·omega
 ·unfold maxLen at h2;omega
noncomputable abbrev mcZO:Obj:=.cells Tryz.zeroCells42 42
theorem Mem.newM {W w:World} {l:List (Nat × Array Value × Nat)} {r:List (Nat × Value × Nat × List Value)} (h:Mem W w l r):Mem W (w.alloc mcZO) ((w.heap.size,Tryz.zeroCells42,42) :: l) r:=h.new _ 42 (by decide)
theorem zvD (h g:Hart) (j:Nat) (v:Int) (hj:j<32) (hx:g.x=h.x.set j v) (ht:zbA g=zbA h):zby g=(zby h).set j (.int .u64 v):=by
 unfold zby;rw [List.set_append_left _ _ (by rw [zdS];exact hj),ht];unfold xL;rw [hx,List.map_set]
theorem MBox.store_x {w:World} {g:Nat} {m m':Mc} (k:MBox w g m) (j:Nat) (v:Int) (hj:j<32) (hb:m'.b=m.b) (ht:mcT m'=mcT m) (hx:m'.h.x=m.h.x.set j v) (he:zbA m'.h=zbA m.h):(Instr.storeAt 22 (.pointer (some ⟨g,j,none⟩)) (.int .u64 v)).run Tryz.prog w=.ok () (w.setRow g (mcC m')):=by
 rw [← zlr m m' j (.int .u64 v) (by omega) hb ht (zvD m.h m'.h j v hj hx he)];exact zbQ w g j 22 42 (mcC m) _ k zbX (by rw [zcA];omega) rfl rfl
end Go.Proofs.YtplcfdnfeclpmaaGreatDoor
