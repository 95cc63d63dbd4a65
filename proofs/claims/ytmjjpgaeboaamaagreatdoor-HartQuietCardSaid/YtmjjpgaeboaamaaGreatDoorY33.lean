/- HartQuiet,part 33. -/
import Derived.Test.YtmjjpgaeboaamaaGreatDoorY01
import Derived.Test.YtmjjpgaeboaamaaGreatDoorY04
import Derived.Test.YtmjjpgaeboaamaaGreatDoorY07
import Derived.Test.YtmjjpgaeboaamaaGreatDoorY19
import Derived.Test.YtmjjpgaeboaamaaGreatDoorY24
import Derived.Test.YtmjjpgaeboaamaaGreatDoorY28
import Derived.Test.YtmjjpgaeboaamaaGreatDoorY32
set_option maxHeartbeats 4000000
set_option maxRecDepth 100000
open Go.Lib (hid)
namespace Go.Proofs.YtmjjpgaeboaamaaGreatDoor
open Go.RowKit Go.Deep Go.Joins
def zcG (m:Mc) (p:Pt):Int:=bits .or .u64 (zfc m.b m.cnt) (Pc.zcF m.b.pl (zbv m.b p.F))
theorem ztl (m:Mc) (p:Pt) (W:World) (hl:m.b.fn=p.F.length):TB 45 #[mcV m] W (.int .u64 (zcG m p)):=by
 have C1:=hid (fun W=>zs4 m.b m.cnt W)
 have C2:=hid (fun W=>zjB m.b p.F W hl)
 have C3:=hid (fun W=>Pc.zm8 m.b.pl (zbv m.b p.F) W)
 unfold zcG
 generalize zbv m.b p.F=sv at C2 C3 ⊢
 generalize zfc m.b m.cnt=cv at C1 ⊢
 generalize Pc.zcF m.b.pl sv=lv at C3 ⊢
 clear hl
 go_enter Tryz.func45,Tryz.ntmps45
 have X:=hid ((Mem.start W).new (mcC m) 42 (by decide))
 go_upto_region 1 with (fail)
 generalize W.alloc (.cells (mcC m) 42)=wa at X ⊢
 refine dr (fun w=>MBox w W.heap.size m) fun wz hzz=>?_
 have X:=hid (X.out.next hzz)
 clear hzz
 have hS:MBox wz W.heap.size m:=X.out.g0
 refine tk 0 hS ?_
 refine tl 1 hS (fun w hw=>MBox.load_b hw) ?_
 refine tk 2 hS ?_
 refine tl 3 hS (fun w hw=>MBox.load_cnt hw) ?_
 refine tk 5 hS ?_
 refine tk 6 hS ?_
 refine tl 7 hS (fun w hw=>MBox.load_pl hw) ?_
 refine tk 8 hS ?_
 refine tl 9 hS (fun w hw=>MBox.load_b hw) ?_
 refine hc 4 (zbG (C1.out _)) ?_
 rintro v' wb ⟨rfl,kk⟩
 have X:=hid (X.out.next kk)
 refine ⟨X.out.g0,fun hS=>?_⟩
 clear kk
 simp only [puts]
 refine hc 10 (zbG (C2.out _)) ?_
 rintro v' wb ⟨rfl,kk⟩
 have X:=hid (X.out.next kk)
 refine ⟨X.out.g0,fun hS=>?_⟩
 clear kk
 simp only [puts]
 refine hc 11 (zbG (C3.out _)) ?_
 rintro v' wb ⟨rfl,kk⟩
 have X:=hid (X.out.next kk)
 refine ⟨X.out.g0,fun hS=>?_⟩
 clear kk
 simp only [puts]
 refine tk 12 hS ?_
 refine tk 13 hS ?_
 refine wpAnyH_done (by kernel_rfl) ?_ _
 go_wp2_with fail
 go_ret
 exact ⟨rfl,X.out.below⟩
theorem MBox.hcell {w:World} {g:Nat} {m:Mc} (k:MBox w g m) (j:Nat) (hj:j<20):w.cell? ⟨g,32+j,none⟩=(zbp m.h)[j]? :=
 (cell_of_row w g (32+j) (mcC m) 42 (0,0) k).trans ((zeu m (32+j) (by omega)).trans (za7 m.h j))
theorem MBox.store_hart {w:World} {g:Nat} {m:Mc} (k:MBox w g m) (h:Hart):(Instr.storeAt 27 (.pointer (some ⟨g,0,none⟩)) (zas h)).run Tryz.prog w=.ok () (w.setRow g (mcC { m with h:=h })) :=
 zeV w g 0 42 27 (mcC m) (mcC { m with h:=h }) (zar h) k (by rw [zcH,zch]) (zgE h) (by rw [zch,zcv];omega)
  (by
   show mcL _=(mcL m).take 0 ++ _ ++ (mcL m).drop _
   rw [zch]
   exact zfm [] (zbk m.h) ((bdC m.b).toList ++ mcT m) (zbk h) 0 52 rfl (zcq _))
theorem zin (m m':Mc) (k:Nat) (v:Value) (hk:k<52) (hb:m'.b=m.b) (ht:mcT m'=mcT m) (he:zbk m'.h=(zbk m.h).set k v):(mcC m).setIfInBounds k v=mcC m':=by
 unfold mcC mcL
 rw [List.setIfInBounds_toArray,List.set_append_left _ _ (by rw [zcq];exact hk),he,hb,ht]
theorem zv5 (h g:Hart) (j:Nat) (v:Value) (hx:g.x=h.x) (ht:zbp g=(zbp h).set j v):zbk g=(zbk h).set (32+j) v:=by
 unfold zbk
 rw [List.set_append_right _ _ (by rw [zdt];omega),zdt,ht]
 unfold xL
 rw [hx]
 congr 2
 omega
theorem MBox.store_h {w:World} {g:Nat} {m m':Mc} (k:MBox w g m) (ty j:Nat) (v:Value) (hu:(Tryz.prog.info? ty).map (·.size)=some 1) (hc:v.cells=#[v]) (h1:v.oneCell'=true) (hj:j<20) (hb:m'.b=m.b) (ht:mcT m'=mcT m) (hx:m'.h.x=m.h.x) (he:zbp m'.h=(zbp m.h).set j v):(Instr.storeAt ty (.pointer (some ⟨g,32+j,none⟩)) v).run Tryz.prog w=.ok () (w.setRow g (mcC m')):=by
 rw [← zin m m' (32+j) v (by omega) hb ht (zv5 m.h m'.h j v hx he)]
 exact zbL w g (32+j) ty 42 (mcC m) v k hu (by rw [zcv];omega) h1 hc
theorem MBox.store_cnt {w:World} {g:Nat} {m:Mc} (k:MBox w g m) (n:Int):(Instr.storeAt 22 (.pointer (some ⟨g,76,none⟩)) (.int .u64 n)).run Tryz.prog w=.ok () (w.setRow g (mcC { m with cnt:=n })):=by
 exact (zbL w g 76 22 42 (mcC m) _ k zbQ (by rw [zcv];omega) rfl rfl).trans (by rw [zg5 m { m with cnt:=n } 3 _ rfl rfl rfl])
theorem MS.turn {W w:World} {B z:Nat} {m m':Mc} {p:Pt} (K:MS W B z m p) (hb:m'.b=m.b) (hd:m'.dv=m.dv) (hm:m'.mv=m.mv) (ho:m'.ov=m.ov) (h:zan W w (fun k=>k=z)) (hx:MBox w z m'):MS w B z m' p:=by
 have ne:∀ (g:Nat) (cs:Array Value) (t:TypeId),W.heap[g]?=some (.cells cs t (0,0))→t≠42→w.heap[g]?=W.heap[g]?:=fun g cs t hg ht=>h.block g (Array.getElem?_eq_some_iff.1 hg).1 fun e=>by
  rw [e,K.box] at hg
  simp only [Option.some.injEq,Obj.cells.injEq] at hg
  exact ht hg.2.1.symm
 have d1:OwnD w B m.dv p.D:=zb1 K.d fun g hg=>by
  obtain ⟨cur,hc⟩:=zdN K.d hg
  exact ne g cur 5 hc (by decide)
 have d2:OwnM w B m.mv p.M:=zb1 K.mm fun g hg=>by
  obtain ⟨cur,hc⟩:=zdN K.mm hg
  exact ne g cur 22 hc (by decide)
 have d3:w.ownsRow B 80 3 m.ov p.O.length (oC p.O):=zb1 K.o fun g hg=>by
  obtain ⟨cur,hc⟩:=zdN K.o hg
  exact ne g cur 80 hc (by decide)
 have d4:FT w B (.slice m.b.fp m.b.fn m.b.fc) p.F:=K.fr.keep fun g cur _ hg=>ne g cur 9 hg (by decide)
 refine ⟨hx,K.big,?_,?_,?_,?_⟩
 ·rw [hb];exact d4
 ·rw [hd];exact d1
 ·rw [hm];exact d2
 ·rw [ho];exact d3
abbrev turn (m:Mc) (h:Hart):Mc:={ m with h:=h }
theorem zeX {P:Program} (w:World) (b k:Nat) (t:TypeId) (v:Value) (d:TypeDesc) (hu:P.underlying t=some d) (hd:(match d with | .struct _ | .array _ _=>true | _=>false)=false) (hcell:w.cell? ⟨b,k,none⟩=some v) :
  (Instr.loadAt t (.pointer (some ⟨b,k,none⟩))).run P w=.ok v w:=by
 have hagg:(isAgg t).run P w=.ok false w:=by
  unfold isAgg
  rw [Sem.run_bind,run_underlying hu w]
  cases d <;> simp_all
 simp [Instr.loadAt,Instr.sureAddr,loadVar,Sem.run_bind,Result.andThen,hagg,run_load,hcell]
structure Wk where
 o:Int
 r:Int
 a:Int
 b:Int
 i:Int
 wd:Int
 np:Int
 l:Int
abbrev wgC (z:Nat) (g:Wk):Array Value:=#[.pointer (some ⟨z,0,none⟩),.int .i64 g.o,.int .i64 g.r,.int .i64 g.a,.int .i64 g.b,.int .i64 g.i,.int .u32 g.wd,.int .u64 g.np,.int .u64 g.l]
def KW (w:World) (k z:Nat) (g:Wk):Prop:=w.heap[k]?=some (.cells (wgC z g) 94 (0,0))
theorem KW.lt {w:World} {k z:Nat} {g:Wk} (h:KW w k z g):k<w.heap.size:=(Array.getElem?_eq_some_iff.1 h).1
theorem KW.next {w w':World} {k z:Nat} {g:Wk} (h:KW w k z g) (j:Below w.heap.size w w'):KW w' k z g:=(j.block k h.lt).trans h
theorem KW.touch {w w':World} {k z:Nat} {g:Wk} {S:Nat→Prop} (h:KW w k z g) (j:zan w w' S) (hS:¬ S k):KW w' k z g:=(j.block k h.lt hS).trans h
theorem KW.put {w:World} {k z:Nat} {g:Wk} (h:KW w k z g) (g':Wk):KW (w.setRow k (wgC z g')) k z g':=setRow_heap w k _ (wgC z g') 94 (0,0) h
abbrev rgC (z:Nat):Array Value:=#[.pointer (some ⟨z,0,none⟩)]
abbrev rgV (z:Nat):Value:=.agg (rgC z)
abbrev rgO (z:Nat):Obj:=.cells (rgC z) 89
theorem ziL:(Tryz.prog.info? 89).map (·.size)=some 1:=by kernel_rfl
theorem zgN:(Tryz.prog.info? 92).map (·.size)=some 5:=by kernel_rfl
theorem zf0 {w:World} {g z:Nat} (h:w.heap[g]?=some (rgO z)):(Instr.loadAt 89 (.pointer (some ⟨g,0,none⟩))).run Tryz.prog w=.ok (rgV z) w:=by
 simp only [Instr.loadAt,Instr.sureAddr,Sem.run_bind,Sem.run_pure,Result.andThen]
 exact run_loadVar_row w g 89 89 (rgC z) (0,0) _ h Tryz.underlying89 rfl (by rw [ziL];rfl)
theorem zda {w:World} {g z:Nat} (h:w.heap[g]?=some (rgO z)):(Instr.loadAt 48 (.pointer (some ⟨g,0,none⟩))).run Tryz.prog w=.ok (.pointer (some ⟨z,0,none⟩)) w:=zaU w g 0 48 89 _ _ _ h Tryz.underlying48 rfl rfl
section
variable {w : World} {k z : Nat} {g : Wk}
theorem KW.op (h:KW w k z g):(Instr.loadAt 3 (.pointer (some ⟨k,1,none⟩))).run Tryz.prog w=.ok (.int .i64 g.o) w:=zaU w k 1 3 94 _ _ _ h Tryz.underlying3 rfl rfl
theorem KW.rd (h:KW w k z g):(Instr.loadAt 3 (.pointer (some ⟨k,2,none⟩))).run Tryz.prog w=.ok (.int .i64 g.r) w:=zaU w k 2 3 94 _ _ _ h Tryz.underlying3 rfl rfl
theorem KW.rs1 (h:KW w k z g):(Instr.loadAt 3 (.pointer (some ⟨k,3,none⟩))).run Tryz.prog w=.ok (.int .i64 g.a) w:=zaU w k 3 3 94 _ _ _ h Tryz.underlying3 rfl rfl
theorem KW.rs2 (h:KW w k z g):(Instr.loadAt 3 (.pointer (some ⟨k,4,none⟩))).run Tryz.prog w=.ok (.int .i64 g.b) w:=zaU w k 4 3 94 _ _ _ h Tryz.underlying3 rfl rfl
theorem KW.imm (h:KW w k z g):(Instr.loadAt 2 (.pointer (some ⟨k,5,none⟩))).run Tryz.prog w=.ok (.int .i64 g.i) w:=zaU w k 5 2 94 _ _ _ h Tryz.underlying2 rfl rfl
theorem KW.wd (h:KW w k z g):(Instr.loadAt 29 (.pointer (some ⟨k,6,none⟩))).run Tryz.prog w=.ok (.int .u32 g.wd) w:=zaU w k 6 29 94 _ _ _ h Tryz.underlying29 rfl rfl
theorem KW.np (h:KW w k z g):(Instr.loadAt 22 (.pointer (some ⟨k,7,none⟩))).run Tryz.prog w=.ok (.int .u64 g.np) w:=zaU w k 7 22 94 _ _ _ h Tryz.underlying22 rfl rfl
theorem KW.l (h:KW w k z g):(Instr.loadAt 22 (.pointer (some ⟨k,8,none⟩))).run Tryz.prog w=.ok (.int .u64 g.l) w:=zaU w k 8 22 94 _ _ _ h Tryz.underlying22 rfl rfl
theorem KW.ptr (h:KW w k z g):(Instr.loadAt 48 (.pointer (some ⟨k,0,none⟩))).run Tryz.prog w=.ok (.pointer (some ⟨z,0,none⟩)) w:=zaU w k 0 48 94 _ _ _ h Tryz.underlying48 rfl rfl
theorem KW.rg (h:KW w k z g):(Instr.loadAt 89 (.pointer (some ⟨k,0,none⟩))).run Tryz.prog w=.ok (rgV z) w :=
 zdS w k 0 94 89 _ [.pointer (some ⟨z,0,none⟩)] _ h Tryz.underlying89 rfl (by rw [ziL];rfl) fun j v hv=>by
  match j,hv with
  | 0,hv=>exact hv
  | j+1,hv=>simp at hv
theorem KW.setwd (h:KW w k z g) (v:Int):(Instr.storeAt 29 (.pointer (some ⟨k,6,none⟩)) (.int .u32 v)).run Tryz.prog w=.ok () (w.setRow k (wgC z { g with wd:=v })):=zbL w k 6 29 94 _ _ h (by kernel_rfl) (show 6<9 by decide) rfl rfl
theorem KW.setnp (h:KW w k z g) (v:Int):(Instr.storeAt 22 (.pointer (some ⟨k,7,none⟩)) (.int .u64 v)).run Tryz.prog w=.ok () (w.setRow k (wgC z { g with np:=v })):=zbL w k 7 22 94 _ _ h zbQ (show 7<9 by decide) rfl rfl
abbrev inC (o r a b i:Int):Array Value:=#[.int .i64 o,.int .i64 r,.int .i64 a,.int .i64 b,.int .i64 i]
theorem KW.setin (h:KW w k z g) (o r a b i:Int):(Instr.storeAt 92 (.pointer (some ⟨k,1,none⟩)) (.agg (inC o r a b i))).run Tryz.prog w=.ok () (w.setRow k (wgC z { g with o:=o,r:=r,a:=a,b:=b,i:=i })) :=
 zeV w k 1 94 92 (wgC z g) (wgC z { g with o:=o,r:=r,a:=a,b:=b,i:=i }) (inC o r a b i) h (by rw [zgN];rfl) (by simp [Value.oneCell']) (show 1+5≤9 by decide) rfl
end
def Ms (w:World) (B z:Nat) (v:Mc) (p:Pt) (T:Nat→Prop):Prop:=∃ m,Same v m∧MS w B z m p∧∀ x,Ow m z x→T x
theorem Same.refl (m:Mc):Same m m:=⟨fun _ _ _ _ _ _=>rfl⟩
theorem Same.h {a b:Mc} (k:Same a b):b.h=a.h:=by have:=congrArg Mc.h (k.s none 0 0 undef undef undef);exact this
theorem Same.cnt {a b:Mc} (k:Same a b):b.cnt=a.cnt:=by have:=congrArg Mc.cnt (k.s none 0 0 undef undef undef);exact this
theorem Same.re {a b:Mc} (k:Same a b):b=reM a b.b.fp b.b.fn b.b.fc b.dv b.mv b.ov :=
 Eq.trans (show b=reM b b.b.fp b.b.fn b.b.fc b.dv b.mv b.ov from rfl) (k.s b.b.fp b.b.fn b.b.fc b.dv b.mv b.ov)
theorem Same.turn {a b:Mc} (k:Same a b) (h:Hart):Same (turn a h) (turn b h):=⟨fun q n e x y u=>by
 have:=congrArg (fun m:Mc=>({ m with h:=h }:Mc)) (k.s q n e x y u)
 exact this⟩
theorem Same.count {a b:Mc} (k:Same a b) (n:Int):Same { a with cnt:=n } { b with cnt:=n }:=⟨fun q c e x y u=>by
 have:=congrArg (fun m:Mc=>({ m with cnt:=n }:Mc)) (k.s q c e x y u)
 exact this⟩
theorem Ms.mono {w:World} {B z:Nat} {v:Mc} {p:Pt} {T T':Nat→Prop} (h:Ms w B z v p T) (k:∀ x,T x→T' x):Ms w B z v p T':=by
 obtain ⟨m,h1,h2,h3⟩:=h
 exact ⟨m,h1,h2,fun x hx=>k x (h3 x hx)⟩
theorem Ms.next {w w':World} {B z:Nat} {v:Mc} {p:Pt} {T:Nat→Prop} (h:Ms w B z v p T) (hb:Below w.heap.size w w'):Ms w' B z v p T:=by
 obtain ⟨m,h1,h2,h3⟩:=h
 exact ⟨m,h1,h2.next hb,h3⟩
def Ch (W W':World) (B z:Nat) (T:Nat→Prop) (v:Mc) (p:Pt):Prop:=Ms W' B z v p T∧zan W W' T
theorem Ch.below {W W':World} {B z:Nat} {v:Mc} {p:Pt} {T:Nat→Prop} (K:Ms W B z v p T) (hb:Below W.heap.size W W'):Ch W W' B z T v p:=⟨K.next hb,zcd hb T⟩
theorem Ch.before {W w W':World} {B z:Nat} {v:Mc} {p:Pt} {T:Nat→Prop} (h:Ch w W' B z T v p) (hb:zan W w T):Ch W W' B z T v p:=⟨h.1,hb.trans h.2⟩
theorem Chg.ch {W W':World} {B z:Nat} {v m:Mc} {p:Pt} {T:Nat→Prop} {h:Hart} (k:Same v m) (K:MS W B z m p) (hT:∀ x,Ow m z x→T x) (c:Chg W W' z (turn m h)):Ch W W' B z T (turn v h) p:=by
 have hz:=c.box K.box
 have ht:=c.touch
 exact ⟨⟨turn m h,k.turn h,K.turn rfl rfl rfl rfl ht hz,hT⟩,ht.mono fun x _ hx=>hT x (.inl hx)⟩
theorem Chg.count {W W':World} {B z:Nat} {v m:Mc} {p:Pt} {T:Nat→Prop} {n:Int} (k:Same v m) (K:MS W B z m p) (hT:∀ x,Ow m z x→T x) (c:Chg W W' z { m with cnt:=n }):Ch W W' B z T { v with cnt:=n } p:=by
 have hz:=c.box K.box
 have ht:=c.touch
 exact ⟨⟨{ m with cnt:=n },k.count n,K.turn rfl rfl rfl rfl ht hz,hT⟩,ht.mono fun x _ hx=>hT x (.inl hx)⟩
theorem Did.ch {W W':World} {B z:Nat} {m r rv:Mc} {p':Pt} {T:Nat→Prop} (d:Did W W' B z m r p') (k:Same rv r) (hT:∀ x,Ow m z x→T x) (up:∀ x,W.heap.size≤x→T x):Ch W W' B z T rv p':=by
 obtain ⟨q,c,dv,mv,ov,h1,h2,h3⟩:=d
 refine ⟨⟨_,⟨fun q' n' c' x y u=>?_⟩,h1,fun x hx=>(h3 x hx).elim (hT x) (up x)⟩,h2.mono fun x _ hx=>hT x hx⟩
 exact k.s q' n' c' x y u
structure St (w:World) (B z k:Nat) (T:Nat→Prop) (v:Mc) (p:Pt) (g:Wk):Prop where
 ms:Ms w B z v p T
 hB:B≤w.heap.size
 up:∀ x,w.heap.size≤x→T x
 kw:KW w k z g
 nk:¬ T k
section
variable {w w' : World} {B z k : Nat} {T : Nat → Prop} {v v' : Mc} {p p' : Pt} {g g' : Wk}
theorem St.next (h:St w B z k T v p g) (hb:Below w.heap.size w w'):St w' B z k T v p g:=⟨h.ms.next hb,Nat.le_trans h.hB hb.size,fun x hx=>h.up x (Nat.le_trans hb.size hx),h.kw.next hb,h.nk⟩
theorem St.ch (h:St w B z k T v p g) (c:Ch w w' B z T v' p'):St w' B z k T v' p' g:=⟨c.1,Nat.le_trans h.hB c.2.size,fun x hx=>h.up x (Nat.le_trans c.2.size hx),h.kw.touch c.2 h.nk,h.nk⟩
def Cw (W W':World) (B z k:Nat) (T:Nat→Prop) (v:Mc) (p:Pt) (g:Wk):Prop:=St W' B z k T v p g∧zan W W' (fun x=>T x∨x=k)
theorem Cw.of (h:St w B z k T v p g) (c:Ch w w' B z T v' p'):Cw w w' B z k T v' p' g:=⟨h.ch c,c.2.mono fun _ _ hx=>.inl hx⟩
theorem Cw.trans {w'':World} {v'':Mc} {p'':Pt} {g'':Wk} (h:Cw w w' B z k T v p g) (c:Cw w' w'' B z k T v'' p'' g''):Cw w w'' B z k T v'' p'' g'':=⟨c.1,h.2.trans c.2⟩
theorem Cw.below (h:St w B z k T v p g) (hb:Below w.heap.size w w'):Cw w w' B z k T v p g:=Cw.of h (Ch.below h.ms hb)
theorem Cw.before {w0:World} (h:Cw w w' B z k T v p g) (hb:Below w0.heap.size w0 w):Cw w0 w' B z k T v p g:=⟨h.1,(zcd hb _).trans h.2⟩
theorem Cw.ch {w'':World} (h:Cw w w' B z k T v p g) (c:Ch w' w'' B z T v' p'):Cw w w'' B z k T v' p' g:=h.trans (Cw.of h.1 c)
theorem St.setwk (h:St w B z k T v p g) (g':Wk):Cw w (w.setRow k (wgC z g')) B z k T v p g':=by
 obtain ⟨m,h1,h2,h3⟩:=h.ms
 have ht:zan w (w.setRow k (wgC z g')) (fun x=>x=k):=(zan.refl w (fun x=>x=k)).setRow (.inl rfl) _
 refine ⟨⟨⟨m,h1,h2.keep fun x hx=>ht.block x (h2.lt hx).2 fun e=>?_,h3⟩,Nat.le_trans h.hB ht.size,fun x hx=>h.up x (Nat.le_trans ht.size hx),h.kw.put g',h.nk⟩,ht.mono fun x _ hx=>.inr hx⟩
 exact h.nk (e ▸ h3 x hx)
theorem St.box (h:St w B z k T v p g):∃ m,Same v m∧MBox w z m:=by
 obtain ⟨m,h1,h2,h3⟩:=h.ms
 exact ⟨m,h1,h2.box⟩
theorem MBox.load_reg {m:Mc} (k:MBox w z m):(Instr.loadAt 25 (.pointer (some ⟨z,34,none⟩))).run Tryz.prog w=.ok (regV m.h.c) w :=
 zdS w z 34 42 25 (mcC m) (((zbp m.h).drop 2).take 16) _ k Tryz.underlying25 rfl (by rw [zc5];rfl) fun j v hv=>by
  have hj:j<16:=by have:=(List.getElem?_eq_some_iff.1 hv).1;simpa [zbp] using this
  rw [List.getElem?_take_of_lt hj,List.getElem?_drop] at hv
  rw [show 34+j=32+(2+j) by omega,zeu m (32+(2+j)) (by omega),za7]
  exact hv
theorem MBox.load_mode {m:Mc} (k:MBox w z m):(Instr.loadAt 3 (.pointer (some ⟨z,33,none⟩))).run Tryz.prog w=.ok (.int .i64 m.h.mode) w :=
 zeX w z 33 3 _ _ Tryz.underlying3 rfl ((MBox.hcell k 1 (by decide)).trans rfl)
theorem MBox.load_pc {m:Mc} (k:MBox w z m):(Instr.loadAt 22 (.pointer (some ⟨z,32,none⟩))).run Tryz.prog w=.ok (.int .u64 m.h.pc) w :=
 zeX w z 32 22 _ _ Tryz.underlying22 rfl ((MBox.hcell k 0 (by decide)).trans rfl)
theorem MBox.load_held {m:Mc} (k:MBox w z m):(Instr.loadAt 4 (.pointer (some ⟨z,50,none⟩))).run Tryz.prog w=.ok (.bool m.h.held) w :=
 zeX w z 50 4 _ _ Tryz.underlying4 rfl ((MBox.hcell k 18 (by decide)).trans rfl)
theorem MBox.load_rat {m:Mc} (k:MBox w z m):(Instr.loadAt 22 (.pointer (some ⟨z,51,none⟩))).run Tryz.prog w=.ok (.int .u64 m.h.rat) w :=
 zeX w z 51 22 _ _ Tryz.underlying22 rfl ((MBox.hcell k 19 (by decide)).trans rfl)
def xV (h:Hart) (n:Int):Int:=h.x.getD n.toNat 0
theorem MBox.load_xn {m:Mc} (k:MBox w z m) (n:Nat) (hn:n<32):(Instr.loadAt 22 (.pointer (some ⟨z,n,none⟩))).run Tryz.prog w=.ok (.int .u64 (xV m.h n)) w :=
 zaU w z n 22 42 (mcC m) _ _ k Tryz.underlying22 rfl ((zeu m n (by omega)).trans ((zpR m.h n hn).trans (by
  have hl:n<m.h.x.length:=by rw [m.h.hx];exact hn
  unfold xL xV
  rw [List.getElem?_map,Int.toNat_natCast,List.getElem?_eq_getElem hl,List.getD_eq_getElem?_getD,List.getElem?_eq_getElem hl]
  rfl)))
theorem St.l_hart (h:St w B z k T v p g):(Instr.loadAt 27 (.pointer (some ⟨z,0,none⟩))).run Tryz.prog w=.ok (zas v.h) w:=by
 obtain ⟨m,s,b⟩:=h.box
 rw [← s.h]
 exact b.load_hart
theorem St.l_reg (h:St w B z k T v p g):(Instr.loadAt 25 (.pointer (some ⟨z,34,none⟩))).run Tryz.prog w=.ok (regV v.h.c) w:=by
 obtain ⟨m,s,b⟩:=h.box
 rw [← s.h]
 exact b.load_reg
theorem St.l_mode (h:St w B z k T v p g):(Instr.loadAt 3 (.pointer (some ⟨z,33,none⟩))).run Tryz.prog w=.ok (.int .i64 v.h.mode) w:=by
 obtain ⟨m,s,b⟩:=h.box
 rw [← s.h]
 exact b.load_mode
theorem St.l_pc (h:St w B z k T v p g):(Instr.loadAt 22 (.pointer (some ⟨z,32,none⟩))).run Tryz.prog w=.ok (.int .u64 v.h.pc) w:=by
 obtain ⟨m,s,b⟩:=h.box
 rw [← s.h]
 exact b.load_pc
theorem St.l_held (h:St w B z k T v p g):(Instr.loadAt 4 (.pointer (some ⟨z,50,none⟩))).run Tryz.prog w=.ok (.bool v.h.held) w:=by
 obtain ⟨m,s,b⟩:=h.box
 rw [← s.h]
 exact b.load_held
theorem St.l_rat (h:St w B z k T v p g):(Instr.loadAt 22 (.pointer (some ⟨z,51,none⟩))).run Tryz.prog w=.ok (.int .u64 v.h.rat) w:=by
 obtain ⟨m,s,b⟩:=h.box
 rw [← s.h]
 exact b.load_rat
theorem St.l_cnt (h:St w B z k T v p g):(Instr.loadAt 22 (.pointer (some ⟨z,76,none⟩))).run Tryz.prog w=.ok (.int .u64 v.cnt) w:=by
 obtain ⟨m,s,b⟩:=h.box
 rw [← s.cnt]
 exact b.load_cnt
theorem St.l_x (h:St w B z k T v p g) (n:Nat) (hn:n<32):(Instr.loadAt 22 (.pointer (some ⟨z,n,none⟩))).run Tryz.prog w=.ok (.int .u64 (xV v.h n)) w:=by
 obtain ⟨m,s,b⟩:=h.box
 rw [← s.h]
 exact b.load_xn n hn
end
theorem zbo {f:FuncId} {args:Array Value} {w:World} {v:Value} {R:World→Prop} (h:Calls Tryz.prog f args w fun e w'=>e=.returned v∧R w'):Calls Tryz.prog f args w fun e w'=>∃ u,e=.returned u∧(u=v∧R w'):=h.mono fun _ _ h=>⟨_,h.1,rfl,h.2⟩
theorem zc7 {f:FuncId} {args:Array Value} {w:World} {v:Value} (h:Calls Tryz.prog f args w fun e w'=>e=.returned v∧w=w'):Calls Tryz.prog f args w fun e w'=>∃ u,e=.returned u∧(u=v∧w=w'):=h.mono fun _ _ h=>⟨_,h.1,rfl,h.2⟩
end Go.Proofs.YtmjjpgaeboaamaaGreatDoor
namespace Go.Proofs.YtmjjpgaeboaamaaGreatDoor
open Go.RowKit Go.Deep Go.Joins
theorem zdJ (n:Nat) (hn:n<18446744073709551616):dC (leL n)=[.int .u8 ((n:Int) % 256),.int .u8 ((n:Int) / 256 % 256),.int .u8 ((n:Int) / 65536 % 256),.int .u8 ((n:Int) / 16777216 % 256),.int .u8 ((n:Int) / 4294967296 % 256),.int .u8 ((n:Int) / 1099511627776 % 256),.int .u8 ((n:Int) / 281474976710656 % 256),.int .u8 ((n:Int) / 72057594037927936)]:=by
 have h:=ziK n hn
 have h2:=congrArg Array.toList h
 exact h2
theorem zdI (n s:Nat) (w:World) (hs:s≤8) (cs:Array Value) (hcs:cs=((dC (leL n)).take s).toArray) :
  (convert 36 9 (.slice (some ⟨w.heap.size,0,none⟩) s s)).run Tryz.prog (w.alloc (.cells cs 5))=.ok (.string (zbC n s)) (w.alloc (.cells cs 5)):=by
 have h:=run_convert_bytes_back (P:=Tryz.prog) (w.alloc (.cells cs 5)) 36 9 5 ⟨w.heap.size,0,none⟩ s ((leL n).take s) Tryz.underlying36 Tryz.underlying5 Tryz.underlying9 (fun j hj=>by
  rw [zd2,Nat.zero_add,World.cell?_alloc_new,hcs]
  rw [List.length_take,zei] at hj
  rw [List.getElem?_toArray,List.getElem?_take_of_lt (by omega),dC,List.getElem?_map,List.getElem?_eq_getElem (by rw [zei];omega),List.getElem_take]
  rfl)
 rw [List.length_take,zei,Nat.min_eq_left hs] at h
 exact h
theorem zdC (s:Nat) (hs:s≤8) (u:World) (cs:Array Value) (hcs:cs=(dC (List.replicate s 0)).toArray):(Instr.makeSlice 36 (.int .i64 (s:Int)) (.int .i64 (s:Int))).run Tryz.prog u =
   .ok (.slice (some ⟨u.heap.size,0,none⟩) s s) (u.alloc (.cells cs 5)):=by
 rw [hcs];exact zgZ s (by omega) u
theorem zlF (n:Nat) (w:World) (hn:n<18446744073709551616) :
  TB 19 #[.int .u64 n,.int .i64 0] w (.string (zbC n 0)):=by
 have hcv:=zdI n 0 w (by omega) #[] (by rw [zdJ n hn];rfl)
 have hmk:(Instr.makeSlice 36 (.int .i64 0) (.int .i64 0)).run Tryz.prog w=.ok (.slice (some ⟨w.heap.size,0,none⟩) 0 0) (w.alloc (.cells #[] 5)):=zdC 0 (by omega) w _ rfl
 go_enter Tryz.func19,Tryz.ntmps19
 go_wp2_with fail
 go_rounds 1
 go_ret
 exact ⟨rfl,zaf w _⟩
theorem zmu (n:Nat) (w:World) (hn:n<18446744073709551616) :
  TB 19 #[.int .u64 n,.int .i64 1] w (.string (zbC n 1)):=by
 have hcv:=zdI n 1 w (by omega) #[.int .u8 ((n:Int) % 256)] (by rw [zdJ n hn];rfl)
 have hmk:(Instr.makeSlice 36 (.int .i64 1) (.int .i64 1)).run Tryz.prog w=.ok (.slice (some ⟨w.heap.size,0,none⟩) 1 1) (w.alloc (.cells #[.int .u8 0] 5)):=zdC 1 (by omega) w _ rfl
 go_enter Tryz.func19,Tryz.ntmps19
 go_wp2_with fail
 go_rounds 2
 go_ret
 exact ⟨rfl,zaf w _⟩
theorem zlU (n:Nat) (w:World) (hn:n<18446744073709551616) :
  TB 19 #[.int .u64 n,.int .i64 2] w (.string (zbC n 2)):=by
 have hcv:=zdI n 2 w (by omega) #[.int .u8 ((n:Int) % 256),.int .u8 ((n:Int) / 256 % 256)] (by rw [zdJ n hn];rfl)
 have hmk:(Instr.makeSlice 36 (.int .i64 2) (.int .i64 2)).run Tryz.prog w=.ok (.slice (some ⟨w.heap.size,0,none⟩) 2 2) (w.alloc (.cells #[.int .u8 0,.int .u8 0] 5)):=zdC 2 (by omega) w _ rfl
 go_enter Tryz.func19,Tryz.ntmps19
 go_wp2_with fail
 go_rounds 3
 go_ret
 exact ⟨rfl,zaf w _⟩
theorem zwx (n:Nat) (w:World) (hn:n<18446744073709551616) :
  TB 19 #[.int .u64 n,.int .i64 3] w (.string (zbC n 3)):=by
 have hcv:=zdI n 3 w (by omega) #[.int .u8 ((n:Int) % 256),.int .u8 ((n:Int) / 256 % 256),.int .u8 ((n:Int) / 65536 % 256)] (by rw [zdJ n hn];rfl)
 have hmk:(Instr.makeSlice 36 (.int .i64 3) (.int .i64 3)).run Tryz.prog w=.ok (.slice (some ⟨w.heap.size,0,none⟩) 3 3) (w.alloc (.cells #[.int .u8 0,.int .u8 0,.int .u8 0] 5)):=zdC 3 (by omega) w _ rfl
 go_enter Tryz.func19,Tryz.ntmps19
 go_wp2_with fail
 go_rounds 4
 go_ret
 exact ⟨rfl,zaf w _⟩
theorem zlv (n:Nat) (w:World) (hn:n<18446744073709551616) :
  TB 19 #[.int .u64 n,.int .i64 4] w (.string (zbC n 4)):=by
 have hcv:=zdI n 4 w (by omega) #[.int .u8 ((n:Int) % 256),.int .u8 ((n:Int) / 256 % 256),.int .u8 ((n:Int) / 65536 % 256),.int .u8 ((n:Int) / 16777216 % 256)] (by rw [zdJ n hn];rfl)
 have hmk:(Instr.makeSlice 36 (.int .i64 4) (.int .i64 4)).run Tryz.prog w=.ok (.slice (some ⟨w.heap.size,0,none⟩) 4 4) (w.alloc (.cells #[.int .u8 0,.int .u8 0,.int .u8 0,.int .u8 0] 5)):=zdC 4 (by omega) w _ rfl
 go_enter Tryz.func19,Tryz.ntmps19
 go_wp2_with fail
 go_rounds 5
 go_ret
 exact ⟨rfl,zaf w _⟩
theorem zul (n:Nat) (w:World) (hn:n<18446744073709551616) :
  TB 19 #[.int .u64 n,.int .i64 5] w (.string (zbC n 5)):=by
 have hcv:=zdI n 5 w (by omega) #[.int .u8 ((n:Int) % 256),.int .u8 ((n:Int) / 256 % 256),.int .u8 ((n:Int) / 65536 % 256),.int .u8 ((n:Int) / 16777216 % 256),.int .u8 ((n:Int) / 4294967296 % 256)] (by rw [zdJ n hn];rfl)
 have hmk:(Instr.makeSlice 36 (.int .i64 5) (.int .i64 5)).run Tryz.prog w=.ok (.slice (some ⟨w.heap.size,0,none⟩) 5 5) (w.alloc (.cells #[.int .u8 0,.int .u8 0,.int .u8 0,.int .u8 0,.int .u8 0] 5)):=zdC 5 (by omega) w _ rfl
 go_enter Tryz.func19,Tryz.ntmps19
 go_wp2_with fail
 go_rounds 6
 go_ret
 exact ⟨rfl,zaf w _⟩
theorem zu0 (n:Nat) (w:World) (hn:n<18446744073709551616) :
  TB 19 #[.int .u64 n,.int .i64 6] w (.string (zbC n 6)):=by
 have hcv:=zdI n 6 w (by omega) #[.int .u8 ((n:Int) % 256),.int .u8 ((n:Int) / 256 % 256),.int .u8 ((n:Int) / 65536 % 256),.int .u8 ((n:Int) / 16777216 % 256),.int .u8 ((n:Int) / 4294967296 % 256),.int .u8 ((n:Int) / 1099511627776 % 256)] (by rw [zdJ n hn];rfl)
 have hmk:(Instr.makeSlice 36 (.int .i64 6) (.int .i64 6)).run Tryz.prog w=.ok (.slice (some ⟨w.heap.size,0,none⟩) 6 6) (w.alloc (.cells #[.int .u8 0,.int .u8 0,.int .u8 0,.int .u8 0,.int .u8 0,.int .u8 0] 5)):=zdC 6 (by omega) w _ rfl
 go_enter Tryz.func19,Tryz.ntmps19
 go_wp2_with fail
 go_rounds 7
 go_ret
 exact ⟨rfl,zaf w _⟩
theorem zmT (n:Nat) (w:World) (hn:n<18446744073709551616) :
  TB 19 #[.int .u64 n,.int .i64 7] w (.string (zbC n 7)):=by
 have hcv:=zdI n 7 w (by omega) #[.int .u8 ((n:Int) % 256),.int .u8 ((n:Int) / 256 % 256),.int .u8 ((n:Int) / 65536 % 256),.int .u8 ((n:Int) / 16777216 % 256),.int .u8 ((n:Int) / 4294967296 % 256),.int .u8 ((n:Int) / 1099511627776 % 256),.int .u8 ((n:Int) / 281474976710656 % 256)] (by rw [zdJ n hn];rfl)
 have hmk:(Instr.makeSlice 36 (.int .i64 7) (.int .i64 7)).run Tryz.prog w=.ok (.slice (some ⟨w.heap.size,0,none⟩) 7 7) (w.alloc (.cells #[.int .u8 0,.int .u8 0,.int .u8 0,.int .u8 0,.int .u8 0,.int .u8 0,.int .u8 0] 5)):=zdC 7 (by omega) w _ rfl
 go_enter Tryz.func19,Tryz.ntmps19
 go_wp2_with fail
 go_rounds 8
 go_ret
 exact ⟨rfl,zaf w _⟩
theorem zsu (n:Nat) (w:World) (hn:n<18446744073709551616) :
  TB 19 #[.int .u64 n,.int .i64 8] w (.string (zbC n 8)):=by
 have hcv:=zdI n 8 w (by omega) #[.int .u8 ((n:Int) % 256),.int .u8 ((n:Int) / 256 % 256),.int .u8 ((n:Int) / 65536 % 256),.int .u8 ((n:Int) / 16777216 % 256),.int .u8 ((n:Int) / 4294967296 % 256),.int .u8 ((n:Int) / 1099511627776 % 256),.int .u8 ((n:Int) / 281474976710656 % 256),.int .u8 ((n:Int) / 72057594037927936)] (by rw [zdJ n hn];rfl)
 have hmk:(Instr.makeSlice 36 (.int .i64 8) (.int .i64 8)).run Tryz.prog w=.ok (.slice (some ⟨w.heap.size,0,none⟩) 8 8) (w.alloc (.cells #[.int .u8 0,.int .u8 0,.int .u8 0,.int .u8 0,.int .u8 0,.int .u8 0,.int .u8 0,.int .u8 0] 5)):=zdC 8 (by omega) w _ rfl
 go_enter Tryz.func19,Tryz.ntmps19
 go_wp2_with fail
 go_rounds 9
 go_ret
 exact ⟨rfl,zaf w _⟩
theorem zk9 (n:Nat) (s:Nat) (w:World) (hn:n<18446744073709551616) (hs:s≤8) :
  TB 19 #[.int .u64 n,.int .i64 s] w (.string (zbC n s)):=by
 have h:s=0∨s=1∨s=2∨s=3∨s=4∨s=5∨s=6∨s=7∨s=8:=by omega
 rcases h with rfl | rfl | rfl | rfl | rfl | rfl | rfl | rfl | rfl
 ·exact zlF n w hn
 ·exact zmu n w hn
 ·exact zlU n w hn
 ·exact zwx n w hn
 ·exact zlv n w hn
 ·exact zul n w hn
 ·exact zu0 n w hn
 ·exact zmT n w hn
 ·exact zsu n w hn
theorem zaY.le {w:World} {v:Value} {size n:Nat} {cells:List Value} (h:zaY w v size n cells):n≤9223372036854775807:=by
 rcases h.2 with ⟨_,h⟩ | ⟨a,cap,_,h1,h2,_⟩
 ·omega
 ·unfold maxLen at h2;omega
noncomputable abbrev mcZO:Obj:=.cells Tryz.zeroCells42 42
theorem Mem.newM {W w:World} {l:List (Nat × Array Value × Nat)} {r:List (Nat × Value × Nat × List Value)} (h:Mem W w l r):Mem W (w.alloc mcZO) ((w.heap.size,Tryz.zeroCells42,42) :: l) r:=h.new _ 42 (by decide)
theorem Mem.m0 {W w:World} {k:Nat} {m:Mc} {l:List (Nat × Array Value × Nat)} {r:List (Nat × Value × Nat × List Value)} (h:Mem W w ((k,mcC m,42) :: l) r):MBox w k m:=h.g0
theorem CP.one {w:World} {N:Nat} {q:Option Addr} {c:Nat} {dv mv ov:Value} {p:Pt} {m:Mc} (h:CP w N q c dv mv ov p):Mc1 (atM m p.F.length q c dv mv ov):=⟨zfb h.d,zfb h.mm,zfb h.o⟩
theorem zvj (h g:Hart) (j:Nat) (v:Int) (hj:j<32) (hx:g.x=h.x.set j v) (ht:zbp g=zbp h):zbk g=(zbk h).set j (.int .u64 v):=by
 unfold zbk
 rw [List.set_append_left _ _ (by rw [zdt];exact hj),ht]
 unfold xL
 rw [hx,List.map_set]
theorem MBox.store_x {w:World} {g:Nat} {m m':Mc} (k:MBox w g m) (j:Nat) (v:Int) (hj:j<32) (hb:m'.b=m.b) (ht:mcT m'=mcT m) (hx:m'.h.x=m.h.x.set j v) (he:zbp m'.h=zbp m.h):(Instr.storeAt 22 (.pointer (some ⟨g,j,none⟩)) (.int .u64 v)).run Tryz.prog w=.ok () (w.setRow g (mcC m')):=by
 rw [← zin m m' j (.int .u64 v) (by omega) hb ht (zvj m.h m'.h j v hj hx he)]
 exact zbL w g j 22 42 (mcC m) _ k zbQ (by rw [zcv];omega) rfl rfl
def zb0 (h:Hart):Hart:={ h with x:=h.x.set 0 0,hx:=by rw [List.length_set];exact h.hx,pc:=2147483648 }
def pcH (h:Hart):Hart:={ h with pc:=2147483648 }
theorem zvE {W:World} {q:Option Addr} {c:Nat} {L:List Int} (h:zaY W (.slice q L.length c) 1 L.length (L.map (.int .u32))) (h0:0<L.length):∃ g off,q=some ⟨g,off,none⟩∧∀ j (hj:j<L.length),∀ w,Below W.heap.size W w→w.cell? ⟨g,off+j,none⟩=some (.int .u32 L[j]):=by
 obtain ⟨g,off,cap,e,_,_,hg,hc⟩:=zaY.at h (by omega)
 simp only [Value.slice.injEq] at e
 exact ⟨g,off,e.1,fun j hj w hb=>(hb.cell (p:=⟨g,off+j,none⟩) hg).trans (hc j _ (by rw [List.getElem?_map,List.getElem?_eq_getElem hj];rfl))⟩
def AtIs (W:World) (m:Mc) (p:Pt) (e:Ending) (W':World):Prop :=
 ∃ q c dv mv ov D M,e=.returned (mcV { m with h:=zb0 m.h,b:=m.b.at q p.F.length c,dv:=dv,mv:=mv,ov:=ov })∧CP W' W.heap.size q c dv mv ov { p with D:=D,M:=M }∧D.length=p.D.length∧M.length=p.M.length∧Below W.heap.size W W'
theorem zvp (m:Mc) (p:Pt) (L:List Int) (wq:Option Addr) (wl:Nat) (W:World) (K:MR W m p) (hF:p.F.length≤8796093022208) (hD:p.D.length≤140737488351232) (hM:p.M.length≤17592186043904) (hO:p.O.length*32≤140737488355328) (hL:zaY W (.slice wq L.length wl) 1 L.length (L.map (.int .u32))) (hu:∀ n∈L,0≤n∧n<4294967296):Calls Tryz.prog 13 #[mcV m,.slice wq L.length wl] W (AtIs W m p):=by
 have C1:=hid (fun W' (h:Below W.heap.size W W')=>zwu m p W' (K.next h) hF hD hM hO)
 have HL:=hid (And.intro hL hu)
 have HLL:=zaY.le hL
 have HSZ:=hid (And.intro hD hM)
 clear K hF hD hM hO hL hu
 go_enter Tryz.func13,Tryz.ntmps13
 go_upto_region 1 with (fail)
 have X:=hid (Mem.two (W:=W) (mcC m) Tryz.zeroCells42)
 generalize (W.alloc (Obj.cells (mcC m) 42)).alloc (Obj.cells Tryz.zeroCells42 42)=wa at X ⊢
 go_upto_region 2 with (first | (with_reducible refine zaa rfl rfl (MBox.load X.out.m1) rfl ?_) | (go_at_call 26;(with_reducible refine (C1.out _ X.out.below).mono ?_);rintro e wn ⟨q,c,dv,mv,ov,rfl,h1,h2,h3,h4,kk⟩;have CA:=hid (CP.base (CP.mk h1 h2 h3 h4) X.out.below.size);have X:=hid (X.out.next kk);clear kk h1 h2 h3 h4) | (with_reducible refine zam rfl rfl (MBox.store (atM m p.F.length q c dv mv ov) CA.out.one X.out.newM.g0 (by kernel_rfl)) rfl rfl ?_) | fail)
 have CA:=hid ((CA.out.next (zaf wn mcZO)).over X.out.newM.g0 (mcC (atM m p.F.length q c dv mv ov)))
 have X:=hid (X.out.newM.p0 (cs':=mcC (atM m p.F.length q c dv mv ov)) rfl)
 generalize wn.heap.size=z at X CA ⊢
 generalize (wn.alloc mcZO).setRow z (mcC (atM m p.F.length q c dv mv ov))=wd at X CA ⊢
 have S1:=hid (MBox.store_h (m':={ atM m p.F.length q c dv mv ov with h:=pcH m.h }) X.out.m0 22 0 (.int .u64 2147483648) zbQ rfl rfl (by decide) rfl rfl rfl rfl)
 have X1:=hid (X.out.p0 (cs':=mcC { atM m p.F.length q c dv mv ov with h:=pcH m.h }) rfl)
 have CA1:=hid (CA.out.over X.out.g0 (mcC { atM m p.F.length q c dv mv ov with h:=pcH m.h }))
 generalize wd.setRow z (mcC { atM m p.F.length q c dv mv ov with h:=pcH m.h })=we at S1 X1 CA1
 have S2:=hid (MBox.store_x (m':={ atM m p.F.length q c dv mv ov with h:=zb0 m.h }) X1.out.m0 0 0 (by decide) rfl rfl rfl rfl)
 have X2:=hid (X1.out.p0 (cs':=mcC { atM m p.F.length q c dv mv ov with h:=zb0 m.h }) rfl)
 have CA2:=hid (CA1.out.over X1.out.g0 (mcC { atM m p.F.length q c dv mv ov with h:=zb0 m.h }))
 generalize we.setRow z (mcC { atM m p.F.length q c dv mv ov with h:=zb0 m.h })=wf at S2 X2 CA2
 clear X X1 CA CA1
 go_upto_region 3 with (first | (with_reducible first | refine zam rfl rfl S1.out rfl rfl ?_ | refine zam rfl rfl S2.out rfl rfl ?_) | fail)
 clear S1 S2 C1
 go_wp2_with (fail)
 go_loopw [6,7] (fun s i wr=>∃ (j:Nat) (x:ByteArray),j≤L.length∧j≤30∧i=.int .i64 j∧s=.string x∧x.size≤4*j∧Hid (Below wf.heap.size wf wr)) (fun s i _=>L.length - (intOf i).toNat)
 case atStart=>exact ⟨0,⟨#[]⟩,Nat.zero_le _,Nat.zero_le _,rfl,rfl,Nat.le_refl _,hid (Below.refl _ _)⟩
 case round =>
  obtain ⟨j,x,hj,hj3,rfl,rfl,hx,Y⟩:=hrel
  go_upto_region 5 with (fail)
  go_cut [22] from 15 to 32 (fun v wx=>v=.bool (decide (j<L.length) && decide (j<30))∧wx=wr)
  case first =>
   by_cases h1:j<L.length
   ·by_cases h2:j<30
    ·have g1:decide ((j:Int)<30)=true:=decide_eq_true (by omega)
     have g2:decide (j<30)=true:=decide_eq_true h2
     have g3:decide (j<L.length)=true:=decide_eq_true h1
     go_wp2_with fail
     go_meet
     exact ⟨by rw [g2,g3];rfl,rfl⟩
    ·have g1:decide ((j:Int)<30)=false:=decide_eq_false (by omega)
     have g2:decide (j<30)=false:=decide_eq_false h2
     have g3:decide (j<L.length)=true:=decide_eq_true h1
     go_wp2_with fail
     go_meet
     exact ⟨by rw [g2,g3];rfl,rfl⟩
   ·have g3:decide (j<L.length)=false:=decide_eq_false h1
    go_wp2_with fail
    go_meet
    exact ⟨by rw [g3];rfl,rfl⟩
  case rest =>
   obtain ⟨rfl,rfl⟩:=hcut
   rcases Bool.eq_false_or_eq_true (decide (j<L.length) && decide (j<30)) with hgo | hgo
   ·rw [hgo]
    have hlt:j<L.length:=by simp at hgo;omega
    have hl30:j<30:=by simp at hgo;omega
    clear hgo
    obtain ⟨g,off,rfl,hld⟩:=zvE HL.out.1 (by omega)
    have hU:=HL.out.2 L[j] (List.getElem_mem ..)
    have c0:=hld j hlt _ (zad X2.out.below Y.out)
    generalize L[j]=n at hU c0
    have hw:IntKind.u64.wrap n=n:=by rw [IntKind.wrap_u64];omega
    obtain ⟨k,rfl⟩:∃ k:Nat,n=k:=⟨n.toNat,by omega⟩
    have C4:Hid (Calls Tryz.prog 19 #[.int .u64 k,.int .i64 4] wc fun e w'=>e=.returned (.string (zbC k 4))∧Below wc.heap.size wc w'):=hid (zk9 k 4 wc (by omega) (by omega))
    have hbz:(zbC k 4).size=4:=zfK _ _ (by omega)
    generalize zbC k 4=y at C4 hbz
    have hs1:¬ (9223372036854775807<(x.size:Int)+y.size):=by omega
    have hs2:¬ (9223372036854775807<x.size+y.size):=by omega
    have hxy:(x ++ y).size≤4*(j+1):=by rw [ByteArray.size_append];omega
    have HX:=hid hxy
    clear hld hU hxy
    go_wp2_with (first | (go_at_call 19;(with_reducible refine C4.out.mono ?_);rintro e wv ⟨rfl,kk⟩;have Y:=hid (zad Y.out kk);clear kk) | fail)
    exact ⟨⟨j+1,x ++ y,by omega,by omega,by go_num,rfl,HX.out,Y⟩,by simp [intOf];omega⟩
   ·rw [hgo]
    clear hgo
    have hz:x.size≤9223372036854775807:=by omega
    have X:=hid (X2.out.next Y.out)
    have CA:=hid (CA2.out.next Y.out)
    clear X2 CA2 Y
    have C5:=hid (ztS z 73 W.heap.size dv mv m.E 2147483648 p.D p.M x wc (MBox.ram X.out.m0) CA.out.d CA.out.mm (by decide) (by decide) hz)
    go_upto_region 9 with (first | (go_at_call 18;(with_reducible refine C5.out.mono ?_);rintro e wv ⟨rfl,kk⟩) | fail)
    have nb:∀ (g:Nat) (t:TypeId) (cs:Array Value),wc.heap[g]?=some (.cells cs t (0,0))→t≠5→t≠22→wv.heap[g]?=wc.heap[g]?:=fun g t cs hg h5 h22 =>
     kk.t.block g (Array.getElem?_eq_some_iff.1 hg).1 fun hS=>by
      rcases hS with hS | hS
      ·exact zbE CA.out.d hg (fun x=>h5 x.symm) hS.symm
      ·exact zbE CA.out.mm hg (fun x=>h22 x.symm) hS.symm
    have Z1:=hid (show MBox wv z { atM m p.F.length q c dv mv ov with h:=zb0 m.h } from (nb z 42 _ X.out.g0 (by decide) (by decide)).trans X.out.g0)
    have R1:=hid (show wv.heap[W.heap.size+1]?=some (.cells Tryz.zeroCells42 42 (0,0)) from (nb _ 42 _ X.out.g1 (by decide) (by decide)).trans X.out.g1)
    have CV:=hid (show CP wv W.heap.size q c dv mv ov { p with D:=putD p.D 2147483648 x,M:=putM p.D.length p.M m.E 2147483648 x } from ⟨CA.out.fr.keep fun g cur _ hg=>nb g 9 cur hg (by decide) (by decide),kk.d,kk.m,zb1 CA.out.o fun g hg=>by
     obtain ⟨cur,hc⟩:=zdN CA.out.o hg
     exact nb g 80 cur hc (by decide) (by decide)⟩)
    have BV:=hid (show Below W.heap.size W wv from zan.below X.out.below kk.t (fun k hk=>by
     rcases hk with h | h
     ·exact (zbY CA.out.d h.symm).1
     ·exact (zbY CA.out.mm h.symm).1) X.out.below.size)
    clear kk nb X CA C5
    have one:=CV.out.one (m:={ m with h:=zb0 m.h })
    have HONE:=hid one
    clear one
    go_wp2_with (first | (with_reducible first | refine zaa rfl rfl (MBox.load Z1.out) rfl ?_ | refine zam rfl rfl (MBox.store { atM m p.F.length q c dv mv ov with h:=zb0 m.h } HONE.out R1.out (by kernel_rfl)) rfl rfl ?_) | fail)
    have CW:=hid (CV.out.over R1.out (mcC { atM m p.F.length q c dv mv ov with h:=zb0 m.h }))
    have RW:=hid (setRow_heap wv (W.heap.size+1) _ (mcC { atM m p.F.length q c dv mv ov with h:=zb0 m.h }) 42 (0,0) R1.out)
    have BW:=hid (show Below W.heap.size W (wv.setRow (W.heap.size+1) (mcC { atM m p.F.length q c dv mv ov with h:=zb0 m.h })) from zan.below BV.out ((zan.refl wv (fun x=>x=W.heap.size+1)).setRow (.inl rfl) _) (fun k hk=>by subst hk;omega) BV.out.size)
    refine bodyPost_ret (v:=mcV { atM m p.F.length q c dv mv ov with h:=zb0 m.h }) (results_cell_row Tryz.results13 _ _ (W.heap.size+1) 42 (mcC { atM m p.F.length q c dv mv ov with h:=zb0 m.h }) (0,0) _ rfl RW.out Tryz.underlying42 rfl (by rw [zgq,zcv])) rfl ?_
    exact ⟨q,c,dv,mv,ov,_,_,rfl,CW.out,zev _ _ _,zfj _ _ _ _ _,BW.out⟩
end Go.Proofs.YtmjjpgaeboaamaaGreatDoor
