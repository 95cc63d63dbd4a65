/- MachineOn, part 2. -/
import Derived.Deep.WholeRow
import Derived.Laws.ResultCell
import Derived.Laws.Closers25b
import Derived.ChangeKeysEq
import Derived.Laws.StructEq
import Derived.IntWalk
import Derived.Laws.BitsAllLaws
import Derived.Test.YtplcfdnfeclpmaaGreatDoorV01
set_option maxHeartbeats 4000000
set_option maxRecDepth 100000
open Go.Lib (hid)
open Go Go.RowKit Go.Deep Go.Joins Go.Proofs.Tryz
namespace Go.Proofs.YtplcfdnfeclpmaaGreatDoor
structure Pl where
 p0:Int
 p1:Int
 p2:Int
 p3:Int
 e0:Int
 e1:Int
 l0:Int
 l1:Int
 c:Int
structure Bd where
 msip:Bool
 cmp:Int
 inn:ByteArray
 ier:Bool
 sec:ByteArray
 sector:Int
 addr:Int
 done:Bool
 bad:Bool
 fp:Option Addr
 fn:Nat
 fc:Nat
 nicA:Int
 nicL:Int
 pl:Pl
def plL (p:Pl):List Value:=[.int .u32 p.p0,.int .u32 p.p1,.int .u32 p.p2,.int .u32 p.p3,.int .u32 p.e0,.int .u32 p.e1,.int .u32 p.l0,.int .u32 p.l1,.int .u32 p.c]
def plC (p:Pl):Array Value:=(plL p).toArray
def bdL (b:Bd):List Value:=[.bool b.msip,.int .u64 b.cmp,.string b.inn,.bool b.ier,.string b.sec,.int .u64 b.sector,.int .u64 b.addr,.bool b.done,.bool b.bad,.slice b.fp b.fn b.fc,.int .u64 b.nicA,.int .u64 b.nicL]
def bdC (b:Bd):Array Value:=(bdL b ++ plL b.pl).toArray
abbrev bdV (b:Bd):Value:=.agg (bdC b)
abbrev bdO (b:Bd):Obj:=.cells (bdC b) 35
def bdZ:Bd:=⟨false,0,⟨#[]⟩,false,⟨#[]⟩,0,0,false,false,none,0,0,0,0,⟨0,0,0,0,0,0,0,0,0⟩⟩
def Bd.at (b:Bd) (p:Option Addr) (n c:Nat):Bd:={ b with fp:=p,fn:=n,fc:=c }
theorem zaN (b:Bd):(bdC b).size=21:=by unfold bdC bdL plL;rfl
theorem zbc (b:Bd) (k:Nat) (hk:k<12):(bdC b)[k]?=(bdL b)[k]?:=by
 unfold bdC;rw [List.getElem?_toArray,List.getElem?_append_left (by simpa [bdL] using hk)]
theorem ziW (b:Bd) (k:Nat):(bdC b)[12+k]?=(plL b.pl)[k]?:=by
 unfold bdC;rw [List.getElem?_toArray,List.getElem?_append_right (by simp [bdL])]
 congr 1
 simp [bdL]
theorem zdo (b g:Bd) (k:Nat) (v:Value) (hk:k<12) (hp:g.pl=b.pl) (ht:bdL g=(bdL b).set k v):(bdC b).setIfInBounds k v=bdC g:=by
 unfold bdC;rw [List.setIfInBounds_toArray,List.set_append_left _ _ (by simpa [bdL] using hk),hp,ht]
theorem zhF (b:Bd):(bdC b).all (·.oneCell')=true:=by
 unfold bdC bdL plL
 simp [Value.oneCell']
theorem zeK:(Tryz.prog.info? 35).map (·.size)=some 21:=by kernel_rfl
theorem zeA:(Tryz.prog.info? 33).map (·.size)=some 9:=by kernel_rfl
theorem znz:(Tryz.prog.info? 28).map (·.size)=some 1:=by kernel_rfl
theorem zbX:(Tryz.prog.info? 22).map (·.size)=some 1:=by kernel_rfl
theorem zja:(Tryz.prog.info? 9).map (·.size)=some 1:=by kernel_rfl
theorem zev:(Tryz.prog.info? 4).map (·.size)=some 1:=by kernel_rfl
theorem zhD:(Tryz.prog.info? 3).map (·.size)=some 1:=by kernel_rfl
theorem zhT:(Tryz.prog.info? 162).map (·.size)=some 2:=by kernel_rfl
abbrev zeroC:Array Value:=#[.bool false,.int .u64 0,.string ⟨#[]⟩,.bool false,.string ⟨#[]⟩,.int .u64 0,.int .u64 0,.bool false,.bool false,.slice none 0 0,.int .u64 0,.int .u64 0,.int .u32 0,.int .u32 0,.int .u32 0,.int .u32 0,.int .u32 0,.int .u32 0,.int .u32 0,.int .u32 0,.int .u32 0]
abbrev zaj:Obj:=.cells zeroC 35
end Go.Proofs.YtplcfdnfeclpmaaGreatDoor
namespace Go
theorem zaa {P:Program} {w:World} {ops:Array Oper} {rest:List Oper} {o:Oper} {a:Act} {Q:Exit→Act→World→Prop} (hgd:o.guard=none) {t:TypeId} {p:Operand} (ho:o.op=.load t p) {v r:Value}
  (hrun:(Instr.loadAt t v).run P w=.ok r w) (hp:a.eval p=v) (h:wpList P ops Q rest (a.put o.dst r) w):wpList P ops Q (o :: rest) a w:=by
 refine wpList_plain hgd fun K hK=>?_
 unfold Oper.wp
 simp [execOp,ho,hp,hrun,Result.andThen]
 exact hK _ _ h
theorem zaU {P:Program} {w:World} {ops:Array Oper} {rest:List Oper} {o:Oper} {a:Act} {Q:Exit→Act→World→Prop} (hgd:Region.wanted o (yielded ops a.tmps)=true) {t:TypeId} {p:Operand} (ho:o.op=.load t p) {v r:Value}
  (hrun:(Instr.loadAt t v).run P w=.ok r w) (hp:a.eval p=v) (h:wpList P ops Q rest (a.put o.dst r) w):wpList P ops Q (o :: rest) a w:=by
 refine wpList_step fun K hK=>?_
 rw [if_pos hgd];unfold Oper.wp
 simp [execOp,ho,hp,hrun,Result.andThen]
 exact hK _ _ h
theorem zan {P:Program} {w w':World} {ops:Array Oper} {rest:List Oper} {o:Oper} {a:Act} {Q:Exit→Act→World→Prop} (hgd:o.guard=none) {t:TypeId} {p x:Operand} (ho:o.op=.store t p x) {v u:Value}
  (hrun:(Instr.storeAt t v u).run P w=.ok () w') (hp:a.eval p=v) (hx:a.eval x=u) (h:wpList P ops Q rest (a.put o.dst undef) w'):wpList P ops Q (o :: rest) a w:=by
 refine wpList_plain hgd fun K hK=>?_
 unfold Oper.wp
 simp [execOp,ho,hp,hx,hrun,Result.andThen]
 exact hK _ _ h
theorem zkX (w:World) (g:Nat) (cs:Array Value) (o:Obj) (h:g<w.heap.size):(w.alloc o).setRow g cs=(w.setRow g cs).alloc o:=by
 simp only [World.setRow,World.alloc]
 congr 1
 apply Array.ext_getElem?
 intro i;rw [Array.getElem?_modify,Array.getElem?_push,Array.getElem?_push,Array.getElem?_modify]
 by_cases hi:g=i
 ·subst hi
  have h1:¬ g=w.heap.size:=by omega
  simp [h1]
 ·simp [hi]
theorem zbQ {P:Program} (w:World) (b k:Nat) (t ty:TypeId) (cur:Array Value) (v:Value) (hb:w.heap[b]?=some (.cells cur ty (0,0))) (hi:(P.info? t).map (·.size)=some 1) (hk:k<cur.size) (h1:v.oneCell'=true) (hc:v.cells=#[v]) :
  (Instr.storeAt t (.pointer (some ⟨b,k,none⟩)) v).run P w=.ok () (w.setRow b (cur.setIfInBounds k v)):=by
 have hcell:w.cell? ⟨b,k,none⟩=some cur[k]:=by simp [World.cell?,hb,hk]
 have hfro:w.frozen? ⟨b,k,none⟩=false:=by simp [World.frozen?,hb]
 have hadd:(⟨b,k,none⟩:Addr).add 0=⟨b,k,none⟩:=by unfold Addr.add;split <;> simp_all
 cases hq:P.info? t with
 | none=>simp [hq] at hi
 | some i =>
  have hs:i.size=1:=by simpa [hq] using hi
  simp [Instr.storeAt,Instr.sureAddr,storeVar,sizeOf,typeInfo,hq,hs,hc,storeCells,Sem.run_bind,Result.andThen,run_store P w _ v _ h1,hadd,hcell,hfro,setCell_eq_setRow w b k cur ty (0,0) v hb]
theorem za0 {P:Program} (w:World) (b k:Nat) (t ty:TypeId) (cur:Array Value) (v:Value) (d:TypeDesc) (hb:w.heap[b]?=some (.cells cur ty (0,0))) (hu:P.underlying t=some d) (hd:(match d with | .struct _ | .array _ _=>true | _=>false)=false) (hk:cur[k]?=some v) :
  (Instr.loadAt t (.pointer (some ⟨b,k,none⟩))).run P w=.ok v w:=by
 have hcell:w.cell? ⟨b,k,none⟩=some v:=by simp [World.cell?,hb,hk]
 have hagg:(isAgg t).run P w=.ok false w:=by
  unfold isAgg;rw [Sem.run_bind,run_underlying hu w];cases d <;> simp_all
 simp [Instr.loadAt,Instr.sureAddr,loadVar,Sem.run_bind,Result.andThen,hagg,run_load,hcell]
theorem zd2 {P:Program} (w:World) (g k:Nat) (t ty:TypeId) (cs:Array Value) (part:List Value) (d:TypeDesc) (hg:w.heap[g]?=some (.cells cs t (0,0)))
  (hu:P.underlying ty=some d) (hd:(match d with | .struct _ | .array _ _=>true | _=>false)=true) (hi:(P.info? ty).map (·.size)=some part.length) (hp:∀ j v,part[j]?=some v→cs[k+j]?=some v) :
  (Instr.loadAt ty (.pointer (some ⟨g,k,none⟩))).run P w=.ok (.agg part.toArray) w:=by
 have hl:(loadCells ⟨g,k,none⟩ part.length).run P w=.ok part.toArray w :=
  run_loadCells_list (P:=P) w ⟨g,k,none⟩ part (fun j v hv=>by
   have hadd:(⟨g,k,none⟩:Addr).add j=⟨g,k+j,none⟩:=by unfold Addr.add;split <;> simp_all
   rw [hadd,cell_of_row w g (k+j) cs t (0,0) hg];exact hp j v hv)
 cases hq:P.info? ty with
 | none=>simp [hq] at hi
 | some i =>
  have hs:i.size=part.length:=by simpa [hq] using hi
  have hagg:(isAgg ty).run P w=.ok true w:=by
   unfold isAgg;rw [Sem.run_bind,run_underlying hu w];cases d <;> simp_all
  simp [Instr.loadAt,Instr.sureAddr,loadVar,Sem.run_bind,hagg,sizeOf,typeInfo,hq,hs,hl,Result.andThen]
end Go
namespace Go.Proofs.YtplcfdnfeclpmaaGreatDoor
def Box (w:World) (g:Nat) (b:Bd):Prop:=w.heap[g]?=some (bdO b)
theorem Box.lt {w:World} {g:Nat} {b:Bd} (k:Box w g b):g<w.heap.size:=(Array.getElem?_eq_some_iff.1 k).1
theorem Box.next {w w':World} {g:Nat} {b:Bd} (k:Box w g b) (j:Below w.heap.size w w'):Box w' g b:=(j.block g k.lt).trans k
theorem Box.alloc {w:World} {g:Nat} {b:Bd} (k:Box w g b) (o:Obj):Box (w.alloc o) g b:=k.next ((Below.refl _ _).alloc (Nat.le_refl _) o)
theorem Box.new (w:World) (b:Bd):Box (w.alloc (bdO b)) w.heap.size b:=heap_alloc_last w _
theorem Box.over {w:World} {g h:Nat} {b:Bd} (k:Box w g b) (hg:g≠h) (cs:Array Value):Box (w.setRow h cs) g b:=(setRow_other w h g cs hg).trans k
theorem Box.mine {w:World} {g:Nat} {old:Array Value} (k:w.heap[g]?=some (.cells old 35 (0,0))) (b:Bd):Box (w.setRow g (bdC b)) g b:=setRow_heap w g old (bdC b) 35 (0,0) k
theorem Box.load {w:World} {g:Nat} {b:Bd} (k:Box w g b):(Instr.loadAt 35 (.pointer (some ⟨g,0,none⟩))).run Tryz.prog w=.ok (bdV b) w:=by
 simp only [Instr.loadAt,Instr.sureAddr,Sem.run_bind,Sem.run_pure,Result.andThen];exact run_loadVar_row w g 35 35 (bdC b) (0,0) _ k underlying35 rfl (by rw [zeK,zaN])
theorem Box.result {w:World} {g:Nat} {b:Bd} (k:Box w g b):(loadVar 35 ⟨g,0,none⟩).run Tryz.prog w=.ok (bdV b) w :=
 run_loadVar_row w g 35 35 (bdC b) (0,0) _ k underlying35 rfl (by rw [zeK,zaN])
theorem Box.load_pl {w:World} {g:Nat} {b:Bd} (k:Box w g b):(Instr.loadAt 33 (.pointer (some ⟨g,12,none⟩))).run Tryz.prog w=.ok (.agg (plC b.pl)) w :=
 zd2 w g 12 35 33 (bdC b) (plL b.pl) _ k underlying33 rfl (by rw [zeA];rfl) fun j v hv=>by rw [ziW,hv]
theorem zaY (w:World) (g:Nat) (old:Array Value) (b:Bd) (k:w.heap[g]?=some (.cells old 35 (0,0))) (ho:old.size=21):(Instr.storeAt 35 (.pointer (some ⟨g,0,none⟩)) (bdV b)).run Tryz.prog w=.ok () (w.setRow g (bdC b)):=by
 simp only [Instr.storeAt,Instr.sureAddr,Sem.run_bind,Sem.run_pure,Result.andThen];exact run_storeVar_row w g 35 35 old (bdC b) k (by rw [zeK,zaN]) (by rw [ho,zaN]) (zhF b)
theorem Box.cell_msip {w:World} {g:Nat} {b:Bd} (k:Box w g b):w.cell? ⟨g,0,none⟩=some (.bool b.msip):=(cell_of_row w g 0 (bdC b) 35 (0,0) k).trans (zbc b 0 (by omega))
theorem Box.load_msip {w:World} {g:Nat} {b:Bd} (k:Box w g b):(Instr.loadAt 4 (.pointer (some ⟨g,0,none⟩))).run Tryz.prog w=.ok (.bool b.msip) w :=
 za0 w g 0 4 35 (bdC b) _ _ k underlying4 rfl (zbc b 0 (by omega))
theorem Box.store_msip {w:World} {g:Nat} {b:Bd} (k:Box w g b) (v:Bool):(Instr.storeAt 4 (.pointer (some ⟨g,0,none⟩)) (.bool v)).run Tryz.prog w=.ok () (w.setRow g (bdC ({ b with msip:=v }))) :=
 (zbQ w g 0 4 35 (bdC b) _ k zev (by rw [zaN];omega) rfl rfl).trans (by rw [zdo b ({ b with msip:=v }) 0 (.bool v) (by omega) rfl rfl])
theorem Box.w_msip {w:World} {g:Nat} {b:Bd} (k:Box w g b) {ops:Array Oper} {rest:List Oper} {o:Oper} {a:Act} {Q:Exit→Act→World→Prop} {v:Bool} (hgd:o.guard=none) {p' x:Operand} (ho:o.op=.store 4 p' x) (hp:a.eval p'=.pointer (some ⟨g,0,none⟩)) (hx:a.eval x=.bool v)
  (h:∀ wy,wy=w.setRow g (bdC ({ b with msip:=v }))→wpList Tryz.prog ops Q rest (a.put o.dst undef) wy):wpList Tryz.prog ops Q (o :: rest) a w :=
 zan hgd ho (k.store_msip _) hp hx (h _ rfl)
theorem Box.cell_cmp {w:World} {g:Nat} {b:Bd} (k:Box w g b):w.cell? ⟨g,1,none⟩=some (.int .u64 b.cmp):=(cell_of_row w g 1 (bdC b) 35 (0,0) k).trans (zbc b 1 (by omega))
theorem Box.load_cmp {w:World} {g:Nat} {b:Bd} (k:Box w g b):(Instr.loadAt 22 (.pointer (some ⟨g,1,none⟩))).run Tryz.prog w=.ok (.int .u64 b.cmp) w :=
 za0 w g 1 22 35 (bdC b) _ _ k underlying22 rfl (zbc b 1 (by omega))
theorem Box.store_cmp {w:World} {g:Nat} {b:Bd} (k:Box w g b) (v:Int):(Instr.storeAt 22 (.pointer (some ⟨g,1,none⟩)) (.int .u64 v)).run Tryz.prog w=.ok () (w.setRow g (bdC ({ b with cmp:=v }))) :=
 (zbQ w g 1 22 35 (bdC b) _ k zbX (by rw [zaN];omega) rfl rfl).trans (by rw [zdo b ({ b with cmp:=v }) 1 (.int .u64 v) (by omega) rfl rfl])
theorem Box.w_cmp {w:World} {g:Nat} {b:Bd} (k:Box w g b) {ops:Array Oper} {rest:List Oper} {o:Oper} {a:Act} {Q:Exit→Act→World→Prop} {v:Int} (hgd:o.guard=none) {p' x:Operand} (ho:o.op=.store 22 p' x) (hp:a.eval p'=.pointer (some ⟨g,1,none⟩)) (hx:a.eval x=.int .u64 v)
  (h:∀ wy,wy=w.setRow g (bdC ({ b with cmp:=v }))→wpList Tryz.prog ops Q rest (a.put o.dst undef) wy):wpList Tryz.prog ops Q (o :: rest) a w :=
 zan hgd ho (k.store_cmp _) hp hx (h _ rfl)
theorem Box.cell_inn {w:World} {g:Nat} {b:Bd} (k:Box w g b):w.cell? ⟨g,2,none⟩=some (.string b.inn):=(cell_of_row w g 2 (bdC b) 35 (0,0) k).trans (zbc b 2 (by omega))
theorem Box.load_inn {w:World} {g:Nat} {b:Bd} (k:Box w g b):(Instr.loadAt 9 (.pointer (some ⟨g,2,none⟩))).run Tryz.prog w=.ok (.string b.inn) w :=
 za0 w g 2 9 35 (bdC b) _ _ k underlying9 rfl (zbc b 2 (by omega))
theorem Box.store_inn {w:World} {g:Nat} {b:Bd} (k:Box w g b) (v:ByteArray):(Instr.storeAt 9 (.pointer (some ⟨g,2,none⟩)) (.string v)).run Tryz.prog w=.ok () (w.setRow g (bdC ({ b with inn:=v }))) :=
 (zbQ w g 2 9 35 (bdC b) _ k zja (by rw [zaN];omega) rfl rfl).trans (by rw [zdo b ({ b with inn:=v }) 2 (.string v) (by omega) rfl rfl])
theorem Box.w_inn {w:World} {g:Nat} {b:Bd} (k:Box w g b) {ops:Array Oper} {rest:List Oper} {o:Oper} {a:Act} {Q:Exit→Act→World→Prop} {v:ByteArray} (hgd:o.guard=none) {p' x:Operand} (ho:o.op=.store 9 p' x) (hp:a.eval p'=.pointer (some ⟨g,2,none⟩)) (hx:a.eval x=.string v)
  (h:∀ wy,wy=w.setRow g (bdC ({ b with inn:=v }))→wpList Tryz.prog ops Q rest (a.put o.dst undef) wy):wpList Tryz.prog ops Q (o :: rest) a w :=
 zan hgd ho (k.store_inn _) hp hx (h _ rfl)
theorem Box.cell_ier {w:World} {g:Nat} {b:Bd} (k:Box w g b):w.cell? ⟨g,3,none⟩=some (.bool b.ier):=(cell_of_row w g 3 (bdC b) 35 (0,0) k).trans (zbc b 3 (by omega))
theorem Box.load_ier {w:World} {g:Nat} {b:Bd} (k:Box w g b):(Instr.loadAt 4 (.pointer (some ⟨g,3,none⟩))).run Tryz.prog w=.ok (.bool b.ier) w :=
 za0 w g 3 4 35 (bdC b) _ _ k underlying4 rfl (zbc b 3 (by omega))
theorem Box.store_ier {w:World} {g:Nat} {b:Bd} (k:Box w g b) (v:Bool):(Instr.storeAt 4 (.pointer (some ⟨g,3,none⟩)) (.bool v)).run Tryz.prog w=.ok () (w.setRow g (bdC ({ b with ier:=v }))) :=
 (zbQ w g 3 4 35 (bdC b) _ k zev (by rw [zaN];omega) rfl rfl).trans (by rw [zdo b ({ b with ier:=v }) 3 (.bool v) (by omega) rfl rfl])
theorem Box.w_ier {w:World} {g:Nat} {b:Bd} (k:Box w g b) {ops:Array Oper} {rest:List Oper} {o:Oper} {a:Act} {Q:Exit→Act→World→Prop} {v:Bool} (hgd:o.guard=none) {p' x:Operand} (ho:o.op=.store 4 p' x) (hp:a.eval p'=.pointer (some ⟨g,3,none⟩)) (hx:a.eval x=.bool v)
  (h:∀ wy,wy=w.setRow g (bdC ({ b with ier:=v }))→wpList Tryz.prog ops Q rest (a.put o.dst undef) wy):wpList Tryz.prog ops Q (o :: rest) a w :=
 zan hgd ho (k.store_ier _) hp hx (h _ rfl)
theorem Box.cell_sec {w:World} {g:Nat} {b:Bd} (k:Box w g b):w.cell? ⟨g,4,none⟩=some (.string b.sec):=(cell_of_row w g 4 (bdC b) 35 (0,0) k).trans (zbc b 4 (by omega))
theorem Box.load_sec {w:World} {g:Nat} {b:Bd} (k:Box w g b):(Instr.loadAt 9 (.pointer (some ⟨g,4,none⟩))).run Tryz.prog w=.ok (.string b.sec) w :=
 za0 w g 4 9 35 (bdC b) _ _ k underlying9 rfl (zbc b 4 (by omega))
theorem Box.store_sec {w:World} {g:Nat} {b:Bd} (k:Box w g b) (v:ByteArray):(Instr.storeAt 9 (.pointer (some ⟨g,4,none⟩)) (.string v)).run Tryz.prog w=.ok () (w.setRow g (bdC ({ b with sec:=v }))) :=
 (zbQ w g 4 9 35 (bdC b) _ k zja (by rw [zaN];omega) rfl rfl).trans (by rw [zdo b ({ b with sec:=v }) 4 (.string v) (by omega) rfl rfl])
theorem Box.cell_sector {w:World} {g:Nat} {b:Bd} (k:Box w g b):w.cell? ⟨g,5,none⟩=some (.int .u64 b.sector):=(cell_of_row w g 5 (bdC b) 35 (0,0) k).trans (zbc b 5 (by omega))
theorem Box.load_sector {w:World} {g:Nat} {b:Bd} (k:Box w g b):(Instr.loadAt 22 (.pointer (some ⟨g,5,none⟩))).run Tryz.prog w=.ok (.int .u64 b.sector) w :=
 za0 w g 5 22 35 (bdC b) _ _ k underlying22 rfl (zbc b 5 (by omega))
theorem Box.store_sector {w:World} {g:Nat} {b:Bd} (k:Box w g b) (v:Int):(Instr.storeAt 22 (.pointer (some ⟨g,5,none⟩)) (.int .u64 v)).run Tryz.prog w=.ok () (w.setRow g (bdC ({ b with sector:=v }))) :=
 (zbQ w g 5 22 35 (bdC b) _ k zbX (by rw [zaN];omega) rfl rfl).trans (by rw [zdo b ({ b with sector:=v }) 5 (.int .u64 v) (by omega) rfl rfl])
theorem Box.w_sector {w:World} {g:Nat} {b:Bd} (k:Box w g b) {ops:Array Oper} {rest:List Oper} {o:Oper} {a:Act} {Q:Exit→Act→World→Prop} {v:Int} (hgd:o.guard=none) {p' x:Operand} (ho:o.op=.store 22 p' x) (hp:a.eval p'=.pointer (some ⟨g,5,none⟩)) (hx:a.eval x=.int .u64 v)
  (h:∀ wy,wy=w.setRow g (bdC ({ b with sector:=v }))→wpList Tryz.prog ops Q rest (a.put o.dst undef) wy):wpList Tryz.prog ops Q (o :: rest) a w :=
 zan hgd ho (k.store_sector _) hp hx (h _ rfl)
theorem Box.cell_addr {w:World} {g:Nat} {b:Bd} (k:Box w g b):w.cell? ⟨g,6,none⟩=some (.int .u64 b.addr):=(cell_of_row w g 6 (bdC b) 35 (0,0) k).trans (zbc b 6 (by omega))
theorem Box.load_addr {w:World} {g:Nat} {b:Bd} (k:Box w g b):(Instr.loadAt 22 (.pointer (some ⟨g,6,none⟩))).run Tryz.prog w=.ok (.int .u64 b.addr) w :=
 za0 w g 6 22 35 (bdC b) _ _ k underlying22 rfl (zbc b 6 (by omega))
theorem Box.store_addr {w:World} {g:Nat} {b:Bd} (k:Box w g b) (v:Int):(Instr.storeAt 22 (.pointer (some ⟨g,6,none⟩)) (.int .u64 v)).run Tryz.prog w=.ok () (w.setRow g (bdC ({ b with addr:=v }))) :=
 (zbQ w g 6 22 35 (bdC b) _ k zbX (by rw [zaN];omega) rfl rfl).trans (by rw [zdo b ({ b with addr:=v }) 6 (.int .u64 v) (by omega) rfl rfl])
theorem Box.w_addr {w:World} {g:Nat} {b:Bd} (k:Box w g b) {ops:Array Oper} {rest:List Oper} {o:Oper} {a:Act} {Q:Exit→Act→World→Prop} {v:Int} (hgd:o.guard=none) {p' x:Operand} (ho:o.op=.store 22 p' x) (hp:a.eval p'=.pointer (some ⟨g,6,none⟩)) (hx:a.eval x=.int .u64 v)
  (h:∀ wy,wy=w.setRow g (bdC ({ b with addr:=v }))→wpList Tryz.prog ops Q rest (a.put o.dst undef) wy):wpList Tryz.prog ops Q (o :: rest) a w :=
 zan hgd ho (k.store_addr _) hp hx (h _ rfl)
theorem Box.cell_done {w:World} {g:Nat} {b:Bd} (k:Box w g b):w.cell? ⟨g,7,none⟩=some (.bool b.done):=(cell_of_row w g 7 (bdC b) 35 (0,0) k).trans (zbc b 7 (by omega))
theorem Box.store_done {w:World} {g:Nat} {b:Bd} (k:Box w g b) (v:Bool):(Instr.storeAt 4 (.pointer (some ⟨g,7,none⟩)) (.bool v)).run Tryz.prog w=.ok () (w.setRow g (bdC ({ b with done:=v }))) :=
 (zbQ w g 7 4 35 (bdC b) _ k zev (by rw [zaN];omega) rfl rfl).trans (by rw [zdo b ({ b with done:=v }) 7 (.bool v) (by omega) rfl rfl])
theorem Box.w_done {w:World} {g:Nat} {b:Bd} (k:Box w g b) {ops:Array Oper} {rest:List Oper} {o:Oper} {a:Act} {Q:Exit→Act→World→Prop} {v:Bool} (hgd:o.guard=none) {p' x:Operand} (ho:o.op=.store 4 p' x) (hp:a.eval p'=.pointer (some ⟨g,7,none⟩)) (hx:a.eval x=.bool v)
  (h:∀ wy,wy=w.setRow g (bdC ({ b with done:=v }))→wpList Tryz.prog ops Q rest (a.put o.dst undef) wy):wpList Tryz.prog ops Q (o :: rest) a w :=
 zan hgd ho (k.store_done _) hp hx (h _ rfl)
theorem Box.cell_bad {w:World} {g:Nat} {b:Bd} (k:Box w g b):w.cell? ⟨g,8,none⟩=some (.bool b.bad):=(cell_of_row w g 8 (bdC b) 35 (0,0) k).trans (zbc b 8 (by omega))
theorem Box.store_bad {w:World} {g:Nat} {b:Bd} (k:Box w g b) (v:Bool):(Instr.storeAt 4 (.pointer (some ⟨g,8,none⟩)) (.bool v)).run Tryz.prog w=.ok () (w.setRow g (bdC ({ b with bad:=v }))) :=
 (zbQ w g 8 4 35 (bdC b) _ k zev (by rw [zaN];omega) rfl rfl).trans (by rw [zdo b ({ b with bad:=v }) 8 (.bool v) (by omega) rfl rfl])
theorem Box.w_bad {w:World} {g:Nat} {b:Bd} (k:Box w g b) {ops:Array Oper} {rest:List Oper} {o:Oper} {a:Act} {Q:Exit→Act→World→Prop} {v:Bool} (hgd:o.guard=none) {p' x:Operand} (ho:o.op=.store 4 p' x) (hp:a.eval p'=.pointer (some ⟨g,8,none⟩)) (hx:a.eval x=.bool v)
  (h:∀ wy,wy=w.setRow g (bdC ({ b with bad:=v }))→wpList Tryz.prog ops Q rest (a.put o.dst undef) wy):wpList Tryz.prog ops Q (o :: rest) a w :=
 zan hgd ho (k.store_bad _) hp hx (h _ rfl)
theorem Box.cell_fr {w:World} {g:Nat} {b:Bd} (k:Box w g b):w.cell? ⟨g,9,none⟩=some (.slice b.fp b.fn b.fc):=(cell_of_row w g 9 (bdC b) 35 (0,0) k).trans (zbc b 9 (by omega))
theorem Box.load_fr {w:World} {g:Nat} {b:Bd} (k:Box w g b):(Instr.loadAt 28 (.pointer (some ⟨g,9,none⟩))).run Tryz.prog w=.ok (.slice b.fp b.fn b.fc) w :=
 za0 w g 9 28 35 (bdC b) _ _ k underlying28 rfl (zbc b 9 (by omega))
theorem Box.store_fr {w:World} {g:Nat} {b:Bd} (k:Box w g b) (p:Option Addr) (n c:Nat):(Instr.storeAt 28 (.pointer (some ⟨g,9,none⟩)) (.slice p n c)).run Tryz.prog w=.ok () (w.setRow g (bdC (b.at p n c))) :=
 (zbQ w g 9 28 35 (bdC b) _ k znz (by rw [zaN];omega) rfl rfl).trans (by rw [zdo b (b.at p n c) 9 (.slice p n c) (by omega) rfl rfl])
theorem Box.w_fr {w:World} {g:Nat} {b:Bd} (k:Box w g b) {ops:Array Oper} {rest:List Oper} {o:Oper} {a:Act} {Q:Exit→Act→World→Prop} {p:Option Addr} {n c:Nat} (hgd:o.guard=none) {p' x:Operand} (ho:o.op=.store 28 p' x) (hp:a.eval p'=.pointer (some ⟨g,9,none⟩)) (hx:a.eval x=.slice p n c)
  (h:∀ wy,wy=w.setRow g (bdC (b.at p n c))→wpList Tryz.prog ops Q rest (a.put o.dst undef) wy):wpList Tryz.prog ops Q (o :: rest) a w :=
 zan hgd ho (k.store_fr _ _ _) hp hx (h _ rfl)
theorem Box.cell_nicA {w:World} {g:Nat} {b:Bd} (k:Box w g b):w.cell? ⟨g,10,none⟩=some (.int .u64 b.nicA):=(cell_of_row w g 10 (bdC b) 35 (0,0) k).trans (zbc b 10 (by omega))
theorem Box.load_nicA {w:World} {g:Nat} {b:Bd} (k:Box w g b):(Instr.loadAt 22 (.pointer (some ⟨g,10,none⟩))).run Tryz.prog w=.ok (.int .u64 b.nicA) w :=
 za0 w g 10 22 35 (bdC b) _ _ k underlying22 rfl (zbc b 10 (by omega))
theorem Box.store_nicA {w:World} {g:Nat} {b:Bd} (k:Box w g b) (v:Int):(Instr.storeAt 22 (.pointer (some ⟨g,10,none⟩)) (.int .u64 v)).run Tryz.prog w=.ok () (w.setRow g (bdC ({ b with nicA:=v }))) :=
 (zbQ w g 10 22 35 (bdC b) _ k zbX (by rw [zaN];omega) rfl rfl).trans (by rw [zdo b ({ b with nicA:=v }) 10 (.int .u64 v) (by omega) rfl rfl])
theorem Box.w_nicA {w:World} {g:Nat} {b:Bd} (k:Box w g b) {ops:Array Oper} {rest:List Oper} {o:Oper} {a:Act} {Q:Exit→Act→World→Prop} {v:Int} (hgd:o.guard=none) {p' x:Operand} (ho:o.op=.store 22 p' x) (hp:a.eval p'=.pointer (some ⟨g,10,none⟩)) (hx:a.eval x=.int .u64 v)
  (h:∀ wy,wy=w.setRow g (bdC ({ b with nicA:=v }))→wpList Tryz.prog ops Q rest (a.put o.dst undef) wy):wpList Tryz.prog ops Q (o :: rest) a w :=
 zan hgd ho (k.store_nicA _) hp hx (h _ rfl)
theorem Box.cell_nicL {w:World} {g:Nat} {b:Bd} (k:Box w g b):w.cell? ⟨g,11,none⟩=some (.int .u64 b.nicL):=(cell_of_row w g 11 (bdC b) 35 (0,0) k).trans (zbc b 11 (by omega))
theorem Box.load_nicL {w:World} {g:Nat} {b:Bd} (k:Box w g b):(Instr.loadAt 22 (.pointer (some ⟨g,11,none⟩))).run Tryz.prog w=.ok (.int .u64 b.nicL) w :=
 za0 w g 11 22 35 (bdC b) _ _ k underlying22 rfl (zbc b 11 (by omega))
theorem Box.store_nicL {w:World} {g:Nat} {b:Bd} (k:Box w g b) (v:Int):(Instr.storeAt 22 (.pointer (some ⟨g,11,none⟩)) (.int .u64 v)).run Tryz.prog w=.ok () (w.setRow g (bdC ({ b with nicL:=v }))) :=
 (zbQ w g 11 22 35 (bdC b) _ k zbX (by rw [zaN];omega) rfl rfl).trans (by rw [zdo b ({ b with nicL:=v }) 11 (.int .u64 v) (by omega) rfl rfl])
theorem Box.w_nicL {w:World} {g:Nat} {b:Bd} (k:Box w g b) {ops:Array Oper} {rest:List Oper} {o:Oper} {a:Act} {Q:Exit→Act→World→Prop} {v:Int} (hgd:o.guard=none) {p' x:Operand} (ho:o.op=.store 22 p' x) (hp:a.eval p'=.pointer (some ⟨g,11,none⟩)) (hx:a.eval x=.int .u64 v)
  (h:∀ wy,wy=w.setRow g (bdC ({ b with nicL:=v }))→wpList Tryz.prog ops Q rest (a.put o.dst undef) wy):wpList Tryz.prog ops Q (o :: rest) a w :=
 zan hgd ho (k.store_nicL _) hp hx (h _ rfl)
theorem zaB {w:World} {g:Nat} {b r:Bd} (k:Box w g r) {ops:Array Oper} {rest:List Oper} {o:Oper} {a:Act} {Q:Exit→Act→World→Prop} (hgd:o.guard=none) {p x:Operand} (ho:o.op=.store 35 p x) (hp:a.eval p=.pointer (some ⟨g,0,none⟩)) (hx:a.eval x=bdV b)
  (h:∀ wy,wy=w.setRow g (bdC b)→wpList Tryz.prog ops Q rest (a.put o.dst undef) wy):wpList Tryz.prog ops Q (o :: rest) a w :=
 zan hgd ho (zaY w g _ b k (zaN r)) hp hx (h _ rfl)
structure KA (W wx:World) (b r:Bd):Prop where
 own:Box wx W.heap.size b
 res:Box wx (W.heap.size+1) r
 below:Below W.heap.size W wx
theorem KA.new (W:World) (b:Bd):KA W ((W.alloc (bdO b)).alloc zaj) b bdZ :=
 ⟨(Box.new W b).alloc _,by have k:=Box.new (W.alloc (bdO b)) bdZ;rwa [World.size_alloc] at k,zbj W _ _⟩
theorem KA.next {W w w':World} {b r:Bd} (k:KA W w b r) (j:Below w.heap.size w w'):KA W w' b r:=⟨k.own.next j,k.res.next j,zac k.below j⟩
theorem KA.put {W w w':World} {b b' r:Bd} (k:KA W w b r) (h:w'=w.setRow W.heap.size (bdC b')):KA W w' b' r:=by
 subst h;exact ⟨Box.mine k.own b',k.res.over (by omega) _,below_setRow k.below (Nat.le_refl _) _⟩
theorem KA.tell {W w w':World} {b r r':Bd} (k:KA W w b r) (h:w'=w.setRow (W.heap.size+1) (bdC r')):KA W w' b r':=by
 subst h;exact ⟨k.own.over (by omega) _,Box.mine k.res r',below_setRow k.below (by omega) _⟩
structure KB (W wx:World) (z:Nat) (b o r:Bd):Prop where
 own:Box wx W.heap.size b
 res:Box wx (W.heap.size+1) r
 out:Box wx z o
 far:W.heap.size+1<z
 below:Below W.heap.size W wx
def sC (l:List ByteArray):List Value:=l.map .string
theorem zeT (l:List ByteArray):(sC l).length=l.length:=List.length_map _
theorem znV (l:List ByteArray):∀ v∈sC l,v.oneCell'=true:=fun v hv=>by obtain ⟨_,_,rfl⟩:=List.mem_map.1 hv;rfl
def FAt (w:World) (v:Value) (F:List ByteArray):Prop:=zaW w v 1 F.length (sC F)
theorem FAt.next {w w':World} {v:Value} {F:List ByteArray} (h:FAt w v F) (hb:Below w.heap.size w w'):FAt w' v F:=zaW.below h hb
theorem FAt.is {w:World} {v:Value} {F:List ByteArray} (h:FAt w v F):∃ p cap,v=.slice p F.length cap:=zaW.is h
theorem FAt.len {w:World} {p:Option Addr} {n c:Nat} {F:List ByteArray} (h:FAt w (.slice p n c) F):n=F.length:=by
 obtain ⟨_,_,e⟩:=h.is;simp only [Value.slice.injEq] at e;exact e.2.1
theorem FAt.cell {w:World} {v:Value} {F:List ByteArray} (h:FAt w v F) (h0:0<F.length) :
  ∃ b off cap,v=.slice (some ⟨b,off,none⟩) F.length cap∧F.length≤cap∧cap≤maxLen∧b<w.heap.size∧∀ j (hj:j<F.length),w.cell? ⟨b,off+j,none⟩=some (.string F[j]):=by
 obtain ⟨b,off,cap,h1,h2,h3,h4,h5⟩:=zaW.at h (by omega);exact ⟨b,off,cap,h1,h2,h3,h4,fun j hj=>h5 j _ (by simp [sC,hj])⟩
def OwnF (w:World) (B:Nat) (v:Value) (F:List ByteArray):Prop:=w.ownsRow B 9 1 v F.length (sC F)
theorem OwnF.at {w:World} {B:Nat} {v:Value} {F:List ByteArray} (h:OwnF w B v F):FAt w v F:=ze2 h
theorem OwnF.next {w w':World} {B:Nat} {v:Value} {F:List ByteArray} (h:OwnF w B v F) (hb:Below w.heap.size w w'):OwnF w' B v F:=zcf h hb
theorem OwnF.not_box {w:World} {B g:Nat} {v:Value} {F:List ByteArray} {b:Bd} (h:OwnF w B v F) (k:Box w g b):v.ownBlock≠some g:=zb8 h k (by decide)
theorem zi4 {w w':World} (h:w.grownBy w' none):Below w.heap.size w w':=⟨h.os,h.tape,h.output,h.size,fun k hk=>h.block k hk (by simp)⟩
theorem zpS:∃ i,Tryz.prog.info? 9=some i∧i.zero=some (.string .empty)∧i.size=1∧i.bytes=16:=by
 obtain ⟨i,h1,h2,h3,h4⟩:=info_parts (show (Tryz.prog.info? 9).map (fun i=>(i.zero,i.size,i.bytes))=some (some (.string .empty),1,16) by kernel_rfl);exact ⟨i,h1,h2,h3,h4⟩
theorem zrR (w:World) (ty:TypeId) (q:Option Addr) (n c:Nat) (F:List ByteArray) (hr:FAt w (.slice q n c) F) (hF:F.length≤8796093022208) :
  ∃ p cap w',(Builtin.append_ #[28,28] ty #[.slice none 0 0,.slice q n c]).run Tryz.prog w=.ok (.slice p F.length cap) w'∧OwnF w' w.heap.size (.slice p F.length cap) F∧Below w.heap.size w w':=by
 obtain ⟨i,hi,hz,hs,hb⟩:=zpS;have hown:w.ownsRow w.heap.size 9 1 (.slice none 0 0) 0 []:=World.ownsRow_nil w _ _ _;have hl:=hr.1;obtain rfl:=hr.len;rcases hr.2 with ⟨e1,e2⟩ | ⟨a,c2,e1,_,_,hc⟩
 ·simp only [Value.slice.injEq] at e1
  obtain ⟨rfl,_,rfl⟩:=e1;obtain rfl:F=[]:=List.eq_nil_of_length_eq_zero e2;exact ⟨_,_,w,run_append_owned_none (P:=Tryz.prog) w w.heap.size 28 ty 9 i 1 underlying28 hi _ 0 [] hown,hown,Below.refl _ _⟩
 ·simp only [Value.slice.injEq,true_and] at e1
  obtain ⟨rfl,rfl⟩:=e1;obtain ⟨v',w',hrun,ho,hgr,_⟩:=run_append_own (P:=Tryz.prog) w w.heap.size 28 ty 9 i (.string .empty) 1 16 underlying28 hi hz hs hb rfl (by omega) _ 0 [] hown a F.length c (sC F) hl hc (znV F) (by unfold maxLen;omega) (by omega) (Nat.le_refl _);rw [Nat.zero_add,List.nil_append] at ho;obtain ⟨p,cap,rfl⟩:=zch ho;exact ⟨p,cap,w',hrun,ho,zi4 hgr⟩
end Go.Proofs.YtplcfdnfeclpmaaGreatDoor
namespace Go
open Go.RowKit
theorem zkL {P:Program} {w:World} (dT sT ty elem:TypeId) (hu:P.underlying dT=some (.slice elem)) (hsz:(P.info? elem).map (·.size)=some 1)
  (B n cap g:Nat) (xs:List Value) (hown:w.ownsRow B elem 1 (.slice (some ⟨g,0,none⟩) n cap) n xs)
  (q:Option Addr) (c:Nat) (cells:List Value) (hr:Proofs.YtplcfdnfeclpmaaGreatDoor.zaW w (.slice q n c) 1 n cells) (h1:∀ v∈cells,v.oneCell'=true) :
  ∃ w',(Builtin.copy_ #[dT,sT] ty #[.slice (some ⟨g,0,none⟩) n cap,.slice q n c]).run P w=.ok (goInt n) w'∧w'.ownsRow B elem 1 (.slice (some ⟨g,0,none⟩) n cap) n cells ∧
   Proofs.YtplcfdnfeclpmaaGreatDoor.zau w w' (fun k=>k=g):=by
 obtain ⟨hl,hr⟩:=hr;rw [Nat.mul_one] at hl
 by_cases h0:n=0
 ·subst h0
  obtain rfl:cells=[]:=List.eq_nil_of_length_eq_zero hl;obtain rfl:xs=[]:=List.eq_nil_of_length_eq_zero (by have:=hown.1;omega);exact ⟨w,run_copy_none (P:=P) w dT sT ty elem _ q _ cap 0 c hu hsz rfl,hown,Proofs.YtplcfdnfeclpmaaGreatDoor.zau.refl _ _⟩
 ·rcases hr with ⟨_,e⟩ | ⟨ad,c2,e,_,_,hc⟩
  ·exact absurd e h0
  ·simp only [Value.slice.injEq,true_and] at e
   obtain ⟨rfl,rfl⟩:=e;rcases hown.2 with ⟨e,_⟩ | ⟨g',cap',cur,e,k2,k3,k4,k5,k6,k7⟩
   ·cases e
   ·simp only [Value.slice.injEq,Option.some.injEq,Addr.mk.injEq,and_true,true_and] at e
    obtain ⟨rfl,rfl⟩:=e;have hcl:cur.toList.length=cap:=by rw [Array.length_toList,k6,Nat.mul_one]
    have hrun:=run_copy_row (P:=P) w dT sT ty elem g 0 n cap ad n c cur elem cells hu hsz k3 (by rw [hl];exact (Nat.min_self n).symm) hc (by rw [hl,k6];omega) h1;rw [hl] at hrun;refine ⟨_,hrun,⟨by rw [hl,Nat.mul_one],.inr ⟨g,cap,_,rfl,k2,setRow_heap w g _ _ elem _ k3,k4,k5,?_,?_⟩⟩,?_⟩
    ·simp only [List.take_zero,List.nil_append,Nat.zero_add,List.size_toArray,List.length_append,List.length_drop,hl,hcl]
     omega
    ·simp only [List.take_zero,List.nil_append,Nat.zero_add,Nat.mul_one]
     rw [List.take_append,hl,Nat.sub_self,List.take_zero,List.append_nil,List.take_of_length_le (by omega)]
    ·exact (Proofs.YtplcfdnfeclpmaaGreatDoor.zau.refl w (fun k=>k=g)).setRow (.inl rfl) _
end Go
namespace Go.Proofs.YtplcfdnfeclpmaaGreatDoor
def zjA (w w0:World) (n m:Nat) (E:Int) (s:Value) (wx:World):Prop :=
 ∃ z g h,s=.pointer (some ⟨z,0,none⟩)∧zca wx z (.slice (some ⟨g,0,none⟩) n n) (.slice (some ⟨h,0,none⟩) m m) E∧OwnD wx w.heap.size (.slice (some ⟨g,0,none⟩) n n) (List.replicate n 0) ∧
  OwnM wx w.heap.size (.slice (some ⟨h,0,none⟩) m m) (List.replicate m 0)∧w.heap.size+1<z∧w.heap.size+1<g∧w.heap.size+1<h∧Below (w.heap.size+2) w0 wx
theorem zfm {w w0 wx:World} {n m z g h:Nat} {E:Int} (h1:wx.heap[z]?=some (.cells #[.slice (some ⟨g,0,none⟩) n n,.slice (some ⟨h,0,none⟩) m m,.int .u64 E] 39 (0,0))) (h2:wx.heap[g]?=some (.cells (dC (List.replicate n 0)).toArray 5 (0,0)))
  (h3:wx.heap[h]?=some (.cells (mC (List.replicate m 0)).toArray 22 (0,0))) (hz:w.heap.size+1<z) (hg:w.heap.size+1<g) (hh:w.heap.size+1<h) (hn:n≤maxLen) (hm:m≤maxLen)
  (hb:Below (w.heap.size+2) w0 wx):zjA w w0 n m E (.pointer (some ⟨z,0,none⟩)) wx:=by
 refine ⟨z,g,h,rfl,h1,?_,?_,hz,hg,hh,hb⟩
 ·have e:=zf9 (n:=n) (Nat.le_of_lt (Nat.lt_of_succ_lt hg)) h2 (by simp [dC]) hn
  show wx.ownsRow _ _ _ _ _ _
  rw [List.length_replicate];exact e
 ·have e:=zf9 (n:=m) (Nat.le_of_lt (Nat.lt_of_succ_lt hh)) h3 (by simp [mC]) hm
  show wx.ownsRow _ _ _ _ _ _
  rw [List.length_replicate];exact e
def zig (w:World) (D:List UInt8) (M:List Int) (E:Int) (e:Ending) (w':World):Prop :=
 ∃ dv mv,e=.returned (.agg #[dv,mv,.int .u64 E])∧OwnD w' w.heap.size dv D∧OwnM w' w.heap.size mv M∧Below w.heap.size w w'
theorem zfV (dv mv:Value) (E:Int) (D:List UInt8) (M:List Int) (w:World) (hd:DAt w dv D) (hm:MAt w mv M) (hD:D.length≤140737488351232) (hM:M.length≤17592186043904) :
  Calls Tryz.prog 58 #[.agg #[dv,mv,.int .u64 E]] w (zig w D M E):=by
 obtain ⟨p,cap,rfl⟩:=hd.is;obtain ⟨q,cap2,rfl⟩:=hm.is;have hmd:=zhx D.length (by omega);have hmm:=zk7 M.length (by omega);go_enter func58,ntmps58;go_upto_region 1 with fail
 go_cut [3] (fun s3 wx=>zjA w ((w.alloc (.cells #[.slice p D.length cap,.slice q M.length cap2,.int .u64 E] 39)).alloc (.cells #[.slice none 0 0,.slice none 0 0,.int .u64 0] 39)) D.length M.length E s3 wx)
 case first =>
  go_region
  all_goals (go_wp2_with fail;go_meet)
  all_goals
   have hsz:((w.alloc (Obj.cells #[.slice p D.length cap,.slice q M.length cap2,.int .u64 E] 39)).alloc (Obj.cells #[.slice none 0 0,.slice none 0 0,.int .u64 0] 39)).heap.size=w.heap.size+1+1:=by rw [World.size_alloc,World.size_alloc]
   have hx1:D.length≤maxLen:=by unfold maxLen;omega
   have hx2:M.length≤maxLen:=by unfold maxLen;omega
   have hbl:∀ o1 o2 o3,Below (w.heap.size+2) ((w.alloc (Obj.cells #[.slice p D.length cap,.slice q M.length cap2,.int .u64 E] 39)).alloc (Obj.cells #[.slice none 0 0,.slice none 0 0,.int .u64 0] 39)) (((((w.alloc (Obj.cells #[.slice p D.length cap,.slice q M.length cap2,.int .u64 E] 39)).alloc (Obj.cells #[.slice none 0 0,.slice none 0 0,.int .u64 0] 39)).alloc o1).alloc o2).alloc o3).drew:=fun o1 o2 o3 =>
    ((((Below.refl _ _).alloc (by simp) _).alloc (by simp) _).alloc (by simp) _).drew
   first | exact zfm (new3 hsz).1 (new3 hsz).2.1 (new3 hsz).2.2 (by omega) (by omega) (by omega) hx1 hx2 (hbl _ _ _) | exact zfm (new3 hsz).1 (new3 hsz).2.2 (new3 hsz).2.1 (by omega) (by omega) (by omega) hx1 hx2 (hbl _ _ _) | exact zfm (new3 hsz).2.1 (new3 hsz).1 (new3 hsz).2.2 (by omega) (by omega) (by omega) hx1 hx2 (hbl _ _ _) | exact zfm (new3 hsz).2.1 (new3 hsz).2.2 (new3 hsz).1 (by omega) (by omega) (by omega) hx1 hx2 (hbl _ _ _) | exact zfm (new3 hsz).2.2 (new3 hsz).1 (new3 hsz).2.1 (by omega) (by omega) (by omega) hx1 hx2 (hbl _ _ _) | exact zfm (new3 hsz).2.2 (new3 hsz).2.1 (new3 hsz).1 (by omega) (by omega) (by omega) hx1 hx2 (hbl _ _ _) | fail
 case rest =>
  clear hmd hmm;obtain ⟨z,g,h,rfl,hv,hd2,hm2,hz,hg,hh,hb⟩:=hcut;have hb0:Below w.heap.size w wc:=(zbj w _ _).trans (hb.mono (by omega));have hx:zca wc w.heap.size (.slice p D.length cap) (.slice q M.length cap2) E:=(hb.block _ (by omega)).trans ((zf4 _ (by simp)).trans (zdI _ _));have hr:zca wc (w.heap.size+1) (.slice none 0 0) (.slice none 0 0) 0:=(hb.block _ (by omega)).trans (by have:=zdI (w.alloc (Obj.cells #[.slice p D.length cap,.slice q M.length cap2,.int .u64 E] 39)) (Obj.cells #[.slice none 0 0,.slice none 0 0,.int .u64 0] 39);rwa [World.size_alloc] at this);obtain ⟨c0,c1,c2⟩:=hv.cells;obtain ⟨x0,x1,x2⟩:=hx.cells;have hzg:z≠g:=fun e=>zb8 hd2 hv (by decide) (by rw [e];rfl)
  have hzh:z≠h:=fun e=>zb8 hm2 hv (by decide) (by rw [e];rfl)
  have hhg:h≠g:=fun e=>ze4 hm2 hd2 (by decide) rfl (by rw [e];rfl)
  have hod:wc.ownsRow w.heap.size 5 1 (.slice (some ⟨g,0,none⟩) D.length D.length) D.length (dC (List.replicate D.length 0)):=by have:=hd2;unfold OwnD at this;rwa [List.length_replicate] at this
  have hom:wc.ownsRow w.heap.size 22 1 (.slice (some ⟨h,0,none⟩) M.length M.length) M.length (mC (List.replicate M.length 0)):=by have:=hm2;unfold OwnM at this;rwa [List.length_replicate] at this
  have h1:∀ v∈dC D,v.oneCell'=true:=fun v hv=>by obtain ⟨_,_,rfl⟩:=List.mem_map.1 hv;rfl
  have h2:∀ v∈mC M,v.oneCell'=true:=fun v hv=>by obtain ⟨_,_,rfl⟩:=List.mem_map.1 hv;rfl
  obtain ⟨w2,hrun2,hod2,ht2⟩:=zkL (P:=Tryz.prog) 36 36 3 5 underlying36 (by kernel_rfl) _ _ _ g _ hod p cap (dC D) (hd.below hb0) h1;have hb2:Below w.heap.size w w2:=zau.below hb0 ht2 (fun k hk=>by omega) hb0.size;have hom2:=zc1 hom ht2 (fun g' e e2=>hhg (by cases e;exact e2));obtain ⟨w3,hrun3,hom3,ht3⟩:=zkL (P:=Tryz.prog) 37 37 3 22 underlying37 (by kernel_rfl) _ _ _ h _ hom2 q cap2 (mC M) (hm.below hb2) h2;have hb3:Below w.heap.size w w3:=zau.below hb2 ht3 (fun k hk=>by omega) hb2.size;have hod3:=zc1 hod2 ht3 (fun g' e e2=>hhg (by cases e;exact e2.symm));have hxg:w.heap.size≠g:=by omega
  have hrh:w.heap.size+1≠h:=by omega
  have hrg:w.heap.size+1≠g:=by omega
  have hv2:=hv.touch ht2 hzg;have hv3:=hv2.touch ht3 hzh;have hr3:=(hr.touch ht2 hrg).touch ht3 hrh;obtain ⟨d0,d1,d2⟩:=hv2.cells;obtain ⟨e0,e1,e2⟩:=hv3.cells;obtain ⟨y0,y1,y2⟩:=(hx.touch ht2 hxg).cells;obtain ⟨r0,r1,r2⟩:=hr3.cells;have r3:=hr3.free 0;have r4:=hr3.free 1;have r5:=hr3.free 2;have hfin:=hr3.store (.slice (some ⟨g,0,none⟩) D.length D.length) (.slice (some ⟨h,0,none⟩) M.length M.length) E
  have hpost:zig w D M E (.returned (.agg #[.slice (some ⟨g,0,none⟩) D.length D.length,.slice (some ⟨h,0,none⟩) M.length M.length,.int .u64 E])) (((w3.setCell ⟨w.heap.size+1,0,none⟩ (.slice (some ⟨g,0,none⟩) D.length D.length)).setCell ⟨w.heap.size+1,1,none⟩ (.slice (some ⟨h,0,none⟩) M.length M.length)).setCell ⟨w.heap.size+1,2,none⟩ (.int .u64 E)) :=
   ⟨_,_,rfl,zc1 hod3 ((((zau.refl w3 (fun k=>k=w.heap.size+1)).setCell (.inl rfl) _).setCell (.inl rfl) _).setCell (.inl rfl) _) (fun g' e e2=>hrg (by cases e;exact e2.symm)),
    zc1 hom3 ((((zau.refl w3 (fun k=>k=w.heap.size+1)).setCell (.inl rfl) _).setCell (.inl rfl) _).setCell (.inl rfl) _) (fun g' e e2=>hrh (by cases e;exact e2.symm)),
    ((hb3.setCell (Nat.le_succ _) _).setCell (Nat.le_succ _) _).setCell (Nat.le_succ _) _⟩
  have HPOST:=hid hpost;have HFIN:=hid hfin;clear hv hx hr hm2 hd2 hb hb0 hd hm hod hom h1 h2 hod2 hom2 hom3 hod3 hb2 hb3 hv2 hv3 hr3 hfin hpost hxg hrh hrg hzg hzh hhg ht2 ht3;go_wp2_with fail;obtain ⟨f0,f1,f2⟩:=HFIN.out.cells;exact bodyPost_ret (v:=.agg #[.slice (some ⟨g,0,none⟩) D.length D.length,.slice (some ⟨h,0,none⟩) M.length M.length,.int .u64 E]) (by simp [results,results58,go_sem,f0,f1,f2]) rfl HPOST.out
end Go.Proofs.YtplcfdnfeclpmaaGreatDoor
namespace Go
theorem zik {P:Program} {w:World} {ops:Array Oper} {rest:List Oper} {o:Oper} {a:Act} {Q:Exit→Act→World→Prop} (hgd:o.guard=none) (s x:Operand) (t:TypeId)
  (ho:o.op=.call { callee:=.builtin .append,args:=#[s,x],argTypes:=#[t,t] }) (v u r:Value) (hs:a.eval s=v) (hx:a.eval x=u) (w':World)
  (hrun:(Builtin.append_ #[t,t] o.type #[v,u]).run P w=.ok r w') (h:wpList P ops Q rest (a.put o.dst r) w'):wpList P ops Q (o :: rest) a w:=by
 refine wpList_plain hgd fun K hK=>?_
 unfold Oper.wp
 simp [execOp,ho,resolve,invoke,builtin,hs,hx,hrun,Result.andThen]
 exact hK _ _ h
end Go
