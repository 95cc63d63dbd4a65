/- MachineOn, part 7. -/
import Derived.ChangeKeysEq
import Derived.Laws.StructEq
import Derived.Below
import Derived.Deep.Draws
import Derived.Deep.Slices
import Derived.BigQuiet
import Derived.Carry
import Derived.ChangeMaps
import Derived.Deep.DeepCutAuto
import Derived.Deep.RegionHeld3
import Derived.Deep.RegionWith
import Derived.Deep.WholeRow
import Derived.IntWalk
import Derived.Laws.BitsAllLaws
import Derived.Laws.Bits64b
import Derived.Laws.Closers25b
import Derived.Laws.ResultCell
import Derived.Laws.CopyOwn
import Derived.Lib.Hide
import Derived.Lib.SmallJoins
import Derived.OpenShut
import Derived.ProofKit
import Derived.SizedLaws
import Derived.WalkKit
import Derived.WalkLawsBesides
import Derived.Lib.Mul64
import Derived.Test.YtplcfdnfeclpmaaGreatDoorV05
import Derived.Test.YtplcfdnfeclpmaaGreatDoorV06
set_option maxHeartbeats 4000000
set_option maxRecDepth 100000
open Go.Lib (hid)
open Go Go.RowKit Go.Deep Go.Joins Go.Proofs.Tryz
namespace Go.Proofs.YtplcfdnfeclpmaaGreatDoor
structure Reg where
 s0:Int
 s1:Int
 s2:Int
 s3:Int
 s4:Int
 s5:Int
 s6:Int
 s7:Int
 s8:Int
 s9:Int
 s10:Int
 s11:Int
 s12:Int
 s13:Int
 s14:Int
 s15:Int
abbrev regV (c:Reg):Value:=.agg #[.int .u64 c.s0,.int .u64 c.s1,.int .u64 c.s2,.int .u64 c.s3,.int .u64 c.s4,.int .u64 c.s5,.int .u64 c.s6,.int .u64 c.s7,.int .u64 c.s8,.int .u64 c.s9,.int .u64 c.s10,.int .u64 c.s11,.int .u64 c.s12,.int .u64 c.s13,.int .u64 c.s14,.int .u64 c.s15]
structure Hart where
 x:List Int
 hx:x.length=32
 pc:Int
 mode:Int
 c:Reg
 held:Bool
 rat:Int
def xL (h:Hart):List Value:=h.x.map (.int .u64)
def zbA (h:Hart):List Value:=[.int .u64 h.pc,.int .i64 h.mode,.int .u64 h.c.s0,.int .u64 h.c.s1,.int .u64 h.c.s2,.int .u64 h.c.s3,.int .u64 h.c.s4,.int .u64 h.c.s5,.int .u64 h.c.s6,.int .u64 h.c.s7,.int .u64 h.c.s8,.int .u64 h.c.s9,.int .u64 h.c.s10,.int .u64 h.c.s11,.int .u64 h.c.s12,.int .u64 h.c.s13,.int .u64 h.c.s14,.int .u64 h.c.s15,.bool h.held,.int .u64 h.rat]
def zby (h:Hart):List Value:=xL h ++ zbA h
def zai (h:Hart):Array Value:=(zby h).toArray
abbrev zat (h:Hart):Value:=.agg (zai h)
def xC (h:Hart):Array Value:=(xL h).toArray
theorem zdS (h:Hart):(xL h).length=32:=by unfold xL;simp [h.hx]
theorem zcn (h:Hart):(zai h).size=52:=by unfold zai zby;simp [zdS,zbA]
theorem zas (h:Hart) (k:Nat):(zai h)[32+k]?=(zbA h)[k]?:=by
 unfold zai zby;rw [List.getElem?_toArray,List.getElem?_append_right (by rw [zdS];omega),zdS]
 congr 1
 omega
theorem zho (h:Hart) (k:Nat) (hk:k<32):(zai h)[k]?=(xL h)[k]?:=by
 unfold zai zby;rw [List.getElem?_toArray,List.getElem?_append_left (by rw [zdS];omega)]
theorem zhN (h:Hart):(zai h).all (·.oneCell')=true:=by
 unfold zai zby xL zbA
 simp [Value.oneCell']
theorem zcU:(Tryz.prog.info? 27).map (·.size)=some 52:=by kernel_rfl
theorem zkt:(Tryz.prog.info? 23).map (·.size)=some 32:=by kernel_rfl
theorem zc2:(Tryz.prog.info? 25).map (·.size)=some 16:=by kernel_rfl
theorem zfI (cs:Array Value) (a n i:Nat) (hi:i<n) (hb:a+n≤cs.size):(cs.extract a (a+n))[i]?=cs[a+i]?:=by
 rw [Array.getElem?_extract,if_pos (by omega)]
theorem zhX (d:Nat) (e:TypeId) (c:Nat) (xs:Array Value) (w:World):∀ is:List Nat,(∀ i∈is,∃ v,(part e xs (i*c)).run Tryz.prog w=.ok v w∧(Op.equalIn d e v v).run Tryz.prog w=.ok true w)→(Op.eqItems d e c xs xs is).run Tryz.prog w=.ok true w
 | [],_=>by simp [Op.eqItems]
 | i :: is,h=>by
  obtain ⟨v,h1,h2⟩:=h i (by simp);have ih:=zhX d e c xs w is fun j hj=>h j (by simp [hj])
  simp only [Op.eqItems,Sem.run_bind,h1,h2,Result.andThen_ok]
  simpa using ih
theorem zgc (d:Nat) (xs:Array Value) (w:World):∀ fs:List Field,(∀ f∈fs,∃ v,(part f.type xs f.offset).run Tryz.prog w=.ok v w∧(Op.equalIn d f.type v v).run Tryz.prog w=.ok true w)→(Op.eqFields d xs xs fs).run Tryz.prog w=.ok true w
 | [],_=>by simp [Op.eqFields]
 | f :: fs,h=>by
  obtain ⟨v,h1,h2⟩:=h f (by simp);have ih:=zgc d xs w fs fun j hj=>h j (by simp [hj])
  simp only [Op.eqFields,Sem.run_bind,Sem.run_ite]
  split
  ·simp only [h1,h2,Result.andThen_ok]
   simpa using ih
  ·exact ih
theorem zdu (t:TypeId) (d:TypeDesc) (cs:Array Value) (off:Nat) (v:Value) (w:World) (hu:Tryz.prog.underlying t=some d) (hd:(match d with | .struct _ | .array _ _=>true | _=>false)=false) (h:cs[off]?=some v):(part t cs off).run Tryz.prog w=.ok v w:=by
 have hagg:(isAgg t).run Tryz.prog w=.ok false w:=by
  unfold isAgg;rw [Sem.run_bind,run_underlying hu w];cases d <;> simp_all
 simp [part,Sem.run_bind,hagg,h]
theorem zfw (t:TypeId) (d:TypeDesc) (n:Nat) (cs:Array Value) (off:Nat) (w:World) (hu:Tryz.prog.underlying t=some d) (hd:(match d with | .struct _ | .array _ _=>true | _=>false)=true) (hi:(Tryz.prog.info? t).map (·.size)=some n):(part t cs off).run Tryz.prog w=.ok (.agg (cs.extract off (off+n))) w:=by
 have hagg:(isAgg t).run Tryz.prog w=.ok true w:=by
  unfold isAgg;rw [Sem.run_bind,run_underlying hu w];cases d <;> simp_all
 cases hq:Tryz.prog.info? t with
 | none=>simp [hq] at hi
 | some i =>
  have hs:i.size=n:=by simpa [hq] using hi
  simp [part,Sem.run_bind,hagg,sizeOf,typeInfo,hq,hs]
theorem zd8 (d:Nat) (t:TypeId) (k:IntKind) (a:Int) (w:World) (h:Tryz.prog.underlying t=some (.int k)):(Op.equalIn (d+1) t (.int k a) (.int k a)).run Tryz.prog w=.ok true w:=by
 rw [run_equalIn_int w d t k k a a h]
 simp
theorem zw2:(Tryz.prog.fieldsOf 25).toList.map (fun f=>(f.type,f.offset))=(List.range 16).map (fun i=>(22,i)):=by kernel_rfl
theorem zt6:(Tryz.prog.fieldsOf 27).toList.map (fun f=>(f.type,f.offset))=[(23,0),(22,32),(3,33),(25,34),(4,50),(22,51)]:=by kernel_rfl
theorem zx0:∃ i,Tryz.prog.info? 22=some i:=by
 cases h:Tryz.prog.info? 22 with
 | none=>have:=zbX;rw [h] at this;cases this
 | some i=>exact ⟨i,rfl⟩
theorem ztV:Tryz.prog.cellsOf 22=1:=by kernel_rfl
theorem zrc (d:Nat) (cs:Array Value) (w:World) (h:∀ i,i<32→∃ a,cs[i]?=some (.int .u64 a)):(Op.equalIn (d+2) 23 (.agg cs) (.agg cs)).run Tryz.prog w=.ok true w:=by
 obtain ⟨i,hi⟩:=zx0;rw [run_equalIn_array w (d+1) cs cs underlying23 hi];refine zhX _ _ _ _ _ _ fun j hj=>?_
 obtain ⟨a,ha⟩:=h j (by simpa using hj);rw [ztV,Nat.mul_one];exact ⟨_,zdu 22 _ cs j _ w underlying22 rfl ha,zd8 d 22 .u64 a w underlying22⟩
theorem zzD (d:Nat) (cs:Array Value) (w:World) (h:∀ i,i<16→∃ a,cs[i]?=some (.int .u64 a)):(Op.equalIn (d+2) 25 (.agg cs) (.agg cs)).run Tryz.prog w=.ok true w:=by
 rw [run_equalIn_struct w (d+1) 25 cs cs (by kernel_rfl) (by kernel_rfl)];refine zgc _ _ _ _ fun f hf=>?_
 have hm:(f.type,f.offset)∈(Tryz.prog.fieldsOf 25).toList.map (fun f=>(f.type,f.offset)):=List.mem_map_of_mem hf;rw [zw2] at hm;obtain ⟨j,hj,e⟩:=List.mem_map.1 hm;obtain ⟨e1,e2⟩:=Prod.mk.inj e;rw [← e1,← e2];obtain ⟨a,ha⟩:=h j (by simpa using hj);exact ⟨_,zdu 22 _ cs j _ w underlying22 rfl ha,zd8 d 22 .u64 a w underlying22⟩
theorem zm0 (h:Hart) (i:Nat) (hi:i<32):∃ a,(xC h)[i]?=some (.int .u64 a):=by
 unfold xC xL;have hl:i<h.x.length:=by rw [h.hx];exact hi
 refine ⟨h.x[i],?_⟩
 rw [List.getElem?_toArray,List.getElem?_map,List.getElem?_eq_getElem hl];rfl
theorem zuc (h:Hart) (w:World):(Op.equalIn 10000 27 (.agg (zai h)) (.agg (zai h))).run Tryz.prog w=.ok true w:=by
 rw [run_equalIn_struct w 9999 27 (zai h) (zai h) (by kernel_rfl) (by kernel_rfl)];refine zgc _ _ _ _ fun f hf=>?_
 have hm:(f.type,f.offset)∈(Tryz.prog.fieldsOf 27).toList.map (fun f=>(f.type,f.offset)):=List.mem_map_of_mem hf;rw [zt6] at hm;simp only [List.mem_cons,List.not_mem_nil,or_false,Prod.mk.injEq] at hm;rcases hm with ⟨e1,e2⟩ | ⟨e1,e2⟩ | ⟨e1,e2⟩ | ⟨e1,e2⟩ | ⟨e1,e2⟩ | ⟨e1,e2⟩
 all_goals rw [e1,e2]
 ·refine ⟨_,zfw 23 _ 32 (zai h) 0 w underlying23 rfl zkt,zrc 9997 _ w fun i hi=>?_⟩
  rw [zfI _ 0 32 i hi (by rw [zcn];omega),Nat.zero_add,zho h i hi];have:=zm0 h i hi;unfold xC at this
  simpa using this
 ·exact ⟨_,zdu 22 _ _ 32 _ w underlying22 rfl (zas h 0),zd8 9998 22 .u64 _ w underlying22⟩
 ·exact ⟨_,zdu 3 _ _ 33 _ w underlying3 rfl (zas h 1),zd8 9998 3 .i64 _ w underlying3⟩
 ·refine ⟨_,zfw 25 _ 16 (zai h) 34 w underlying25 rfl zc2,zzD 9997 _ w fun i hi=>?_⟩
  rw [zfI _ 34 16 i hi (by rw [zcn];omega),show 34+i=32+(2+i) from by omega,zas]
  match i,hi with
  | 0,_=>exact ⟨_,rfl⟩
  | 1,_=>exact ⟨_,rfl⟩
  | 2,_=>exact ⟨_,rfl⟩
  | 3,_=>exact ⟨_,rfl⟩
  | 4,_=>exact ⟨_,rfl⟩
  | 5,_=>exact ⟨_,rfl⟩
  | 6,_=>exact ⟨_,rfl⟩
  | 7,_=>exact ⟨_,rfl⟩
  | 8,_=>exact ⟨_,rfl⟩
  | 9,_=>exact ⟨_,rfl⟩
  | 10,_=>exact ⟨_,rfl⟩
  | 11,_=>exact ⟨_,rfl⟩
  | 12,_=>exact ⟨_,rfl⟩
  | 13,_=>exact ⟨_,rfl⟩
  | 14,_=>exact ⟨_,rfl⟩
  | 15,_=>exact ⟨_,rfl⟩
  | i+16,hi=>omega
 ·exact ⟨_,zdu 4 _ _ 50 _ w underlying4 rfl (zas h 18),by rw [run_equalIn_bool' w 9998 4 _ _ underlying4];simp⟩
 ·exact ⟨_,zdu 22 _ _ 51 _ w underlying22 rfl (zas h 19),zd8 9998 22 .u64 _ w underlying22⟩
end Go.Proofs.YtplcfdnfeclpmaaGreatDoor
namespace Go
theorem zfk {P:Program} (w:World) (g k:Nat) (t ty:TypeId) (cs cs' part:Array Value) (hg:w.heap[g]?=some (.cells cs t (0,0))) (hi:(P.info? ty).map (·.size)=some part.size) (h1:part.all (·.oneCell')=true)
  (hf:k+part.size≤cs.size) (he:cs'.toList=cs.toList.take k ++ part.toList ++ cs.toList.drop (k+part.size)) :
  (Instr.storeAt ty (.pointer (some ⟨g,k,none⟩)) (.agg part)).run P w=.ok () (w.setRow g cs'):=by
 have hs:=run_storeCells_at (P:=P) g k t part.toList 0 cs w hg (by simpa using hf) (fun v hv=>(Array.all_eq_true_iff_forall_mem.1 h1) v (by simpa using hv))
 have e:(cs.toList.take (k+0) ++ part.toList ++ cs.toList.drop (k+0+part.toList.length)).toArray=cs':=by
  rw [Nat.add_zero,Array.length_toList,← he]
 rw [e] at hs;cases hq:P.info? ty with
 | none=>simp [hq] at hi
 | some i =>
  have hz:part.size=i.size:=by simp [hq] at hi;omega
  simp [Instr.storeAt,Instr.sureAddr,storeVar,sizeOf,typeInfo,hq,Value.cells,hz,hs,Sem.run_bind,Result.andThen]
theorem zfF {α:Type} (a b c d:List α) (k n:Nat) (h1:a.length=k) (h2:b.length=n):a ++ (d ++ c)=(a ++ (b ++ c)).take k ++ d ++ (a ++ (b ++ c)).drop (k+n):=by
 subst h1;rw [List.take_left,← h2,← List.drop_drop,List.drop_left,List.drop_left,List.append_assoc]
end Go
namespace Go.Proofs.YtplcfdnfeclpmaaGreatDoor
abbrev Rec:=Int × Int × ByteArray
def rcL (r:Rec):List Value:=[.int .u64 r.1,.int .i64 r.2.1,.string r.2.2]
def oC (O:List Rec):List Value:=(O.map rcL).flatten
theorem zdP (O:List Rec):(oC O).length=O.length*3:=by
 unfold oC
 induction O with
 | nil=>rfl
 | cons r O ih=>simp only [List.map_cons,List.flatten_cons,List.length_append,ih,List.length_cons,rcL,List.length_nil];omega
theorem zif (O P:List Rec):oC (O ++ P)=oC O ++ oC P:=by unfold oC;simp
theorem zqH (O:List Rec):∀ v∈oC O,v.oneCell'=true:=fun v hv=>by
 unfold oC at hv;obtain ⟨l,hl,hm⟩:=List.mem_flatten.1 hv;obtain ⟨r,_,rfl⟩:=List.mem_map.1 hl;simp only [rcL,List.mem_cons,List.not_mem_nil,or_false] at hm;rcases hm with rfl | rfl | rfl <;> rfl
theorem zjq (O:List Rec):∀ (k:Nat) (hk:k<O.length) (j:Nat),j<3→(oC O)[3*k+j]?=(rcL O[k])[j]?:=by
 induction O with
 | nil=>intro k hk;cases hk
 | cons r O ih =>
  intro k hk j hj;have e:oC (r :: O)=rcL r ++ oC O:=by unfold oC;simp
  rw [e];cases k with
  | zero =>
   rw [List.getElem?_append_left (by simp [rcL];omega)]
   simp
  | succ k =>
   rw [List.getElem?_append_right (by simp [rcL];omega)];rw [show 3*(k+1)+j - (rcL r).length=3*k+j by simp [rcL];omega,ih k (by simpa using hk) j hj]
   simp
structure Mc where
 h:Hart
 b:Bd
 dv:Value
 mv:Value
 E:Int
 cnt:Int
 nxt:Int
 ov:Value
def mcT (m:Mc):List Value:=[m.dv,m.mv,.int .u64 m.E,.int .u64 m.cnt,.int .u64 m.nxt,m.ov]
def mcL (m:Mc):List Value:=zby m.h ++ ((bdC m.b).toList ++ mcT m)
def mcC (m:Mc):Array Value:=(mcL m).toArray
abbrev mcV (m:Mc):Value:=.agg (mcC m)
abbrev mcO (m:Mc):Obj:=.cells (mcC m) 42
theorem zcD (h:Hart):(zby h).length=52:=by have:=zcn h;unfold zai at this;simpa using this
theorem zed (b:Bd):(bdC b).toList.length=21:=by rw [Array.length_toList,zaN]
theorem zcA (m:Mc):(mcC m).size=79:=by unfold mcC mcL mcT;simp [zcD,zaN]
theorem zf1 (m:Mc) (k:Nat) (hk:k<52):(mcC m)[k]?=(zai m.h)[k]?:=by
 unfold mcC mcL zai;rw [List.getElem?_toArray,List.getElem?_append_left (by rw [zcD];exact hk),List.getElem?_toArray]
theorem zg2 (m:Mc) (k:Nat) (hk:k<21):(mcC m)[52+k]?=(bdC m.b)[k]?:=by
 unfold mcC mcL;rw [List.getElem?_toArray,List.getElem?_append_right (by rw [zcD];omega),zcD,show 52+k - 52=k by omega,List.getElem?_append_left (by rw [zed];exact hk),Array.getElem?_toList]
theorem zec (m:Mc) (k:Nat):(mcC m)[73+k]?=(mcT m)[k]?:=by
 unfold mcC mcL;rw [List.getElem?_toArray,List.getElem?_append_right (by rw [zcD];omega),zcD,List.getElem?_append_right (by rw [zed];omega),zed]
 congr 1
 omega
theorem zyp:(Tryz.prog.info? 40).map (·.size)=some 1:=by kernel_rfl
theorem zgk:(Tryz.prog.info? 42).map (·.size)=some 79:=by kernel_rfl
theorem zdV {v:Value} {w:World} {B n e:Nat} {xs:List Value} {sz:Nat} (h:w.ownsRow B e sz v n xs):v.oneCell'=true:=by
 obtain ⟨p,c,rfl⟩:=zch h;rfl
structure Mc1 (m:Mc):Prop where
 dd:m.dv.oneCell'=true
 mm:m.mv.oneCell'=true
 oo:m.ov.oneCell'=true
theorem zr8 (m:Mc) (h:Mc1 m):(mcC m).all (·.oneCell')=true:=by
 have h1:=zhN m.h;have h2:=zhF m.b;rw [Array.all_eq_true_iff_forall_mem] at h1 h2 ⊢;intro v hv;unfold mcC mcL at hv;rw [List.mem_toArray,List.mem_append,List.mem_append] at hv;rcases hv with hv | hv | hv
 ·exact h1 v (by unfold zai;simpa using hv)
 ·exact h2 v (by simpa using hv)
 ·simp only [mcT,List.mem_cons,List.not_mem_nil,or_false] at hv
  rcases hv with rfl | rfl | rfl | rfl | rfl | rfl
  ·exact h.dd
  ·exact h.mm
  ·rfl
  ·rfl
  ·rfl
  ·exact h.oo
def MBox (w:World) (g:Nat) (m:Mc):Prop:=w.heap[g]?=some (mcO m)
theorem MBox.lt {w:World} {g:Nat} {m:Mc} (k:MBox w g m):g<w.heap.size:=(Array.getElem?_eq_some_iff.1 k).1
theorem MBox.next {w w':World} {g:Nat} {m:Mc} (k:MBox w g m) (j:Below w.heap.size w w'):MBox w' g m:=(j.block g k.lt).trans k
theorem MBox.new (w:World) (m:Mc):MBox (w.alloc (mcO m)) w.heap.size m:=heap_alloc_last w _
theorem MBox.mine {w:World} {g:Nat} {old:Array Value} (k:w.heap[g]?=some (.cells old 42 (0,0))) (m:Mc):MBox (w.setRow g (mcC m)) g m:=setRow_heap w g old (mcC m) 42 (0,0) k
theorem MBox.put {w w':World} {g:Nat} {m m':Mc} (k:MBox w g m) (h:w'=w.setRow g (mcC m')):MBox w' g m':=by subst h;exact MBox.mine k m'
theorem MBox.load {w:World} {g:Nat} {m:Mc} (k:MBox w g m):(Instr.loadAt 42 (.pointer (some ⟨g,0,none⟩))).run Tryz.prog w=.ok (mcV m) w:=by
 simp only [Instr.loadAt,Instr.sureAddr,Sem.run_bind,Sem.run_pure,Result.andThen];exact run_loadVar_row w g 42 42 (mcC m) (0,0) _ k underlying42 rfl (by rw [zgk,zcA])
theorem MBox.store {w:World} {g:Nat} {old:Array Value} (m:Mc) (h1:Mc1 m) (k:w.heap[g]?=some (.cells old 42 (0,0))) (ho:old.size=79):(Instr.storeAt 42 (.pointer (some ⟨g,0,none⟩)) (mcV m)).run Tryz.prog w=.ok () (w.setRow g (mcC m)):=by
 simp only [Instr.storeAt,Instr.sureAddr,Sem.run_bind,Sem.run_pure,Result.andThen];exact run_storeVar_row w g 42 42 old (mcC m) k (by rw [zgk,zcA]) (by rw [ho,zcA]) (zr8 m h1)
theorem MBox.load_hart {w:World} {g:Nat} {m:Mc} (k:MBox w g m):(Instr.loadAt 27 (.pointer (some ⟨g,0,none⟩))).run Tryz.prog w=.ok (zat m.h) w :=
 zd2 w g 0 42 27 (mcC m) (zby m.h) _ k underlying27 rfl (by rw [zcU,zcD]) fun j v hv=>by
  rw [Nat.zero_add,zf1 m j (by have:=(List.getElem?_eq_some_iff.1 hv).1;rwa [zcD] at this)];unfold zai
  rwa [List.getElem?_toArray]
theorem MBox.load_b {w:World} {g:Nat} {m:Mc} (k:MBox w g m):(Instr.loadAt 35 (.pointer (some ⟨g,52,none⟩))).run Tryz.prog w=.ok (bdV m.b) w :=
 (zd2 w g 52 42 35 (mcC m) (bdC m.b).toList _ k underlying35 rfl (by rw [zeK,zed]) fun j v hv=>by
  rw [zg2 m j (by have:=(List.getElem?_eq_some_iff.1 hv).1;rwa [zed] at this)]
  rwa [Array.getElem?_toList] at hv)
theorem MBox.load_pl {w:World} {g:Nat} {m:Mc} (k:MBox w g m):(Instr.loadAt 33 (.pointer (some ⟨g,64,none⟩))).run Tryz.prog w=.ok (.agg (plC m.b.pl)) w :=
 (zd2 w g 64 42 33 (mcC m) (plL m.b.pl) _ k underlying33 rfl (by rw [zeA];rfl) fun j v hv=>by
  have hj:j<9:=by have:=(List.getElem?_eq_some_iff.1 hv).1;simpa [plL] using this
  rw [show 64+j=52+(12+j) by omega,zg2 m (12+j) (by omega),ziW];exact hv)
theorem MBox.load_ram {w:World} {g:Nat} {m:Mc} (k:MBox w g m):(Instr.loadAt 39 (.pointer (some ⟨g,73,none⟩))).run Tryz.prog w=.ok (.agg #[m.dv,m.mv,.int .u64 m.E]) w :=
 (zd2 w g 73 42 39 (mcC m) [m.dv,m.mv,.int .u64 m.E] _ k underlying39 rfl (by kernel_rfl) fun j v hv=>by
  rw [zec]
  match j,hv with
  | 0,hv=>exact hv
  | 1,hv=>exact hv
  | 2,hv=>exact hv
  | j+3,hv=>simp at hv)
theorem MBox.cell_t {w:World} {g:Nat} {m:Mc} (k:MBox w g m) (j:Nat):w.cell? ⟨g,73+j,none⟩=(mcT m)[j]?:=(cell_of_row w g (73+j) (mcC m) 42 (0,0) k).trans (zec m j)
theorem MBox.load_cnt {w:World} {g:Nat} {m:Mc} (k:MBox w g m):(Instr.loadAt 22 (.pointer (some ⟨g,76,none⟩))).run Tryz.prog w=.ok (.int .u64 m.cnt) w :=
 za0 w g 76 22 42 (mcC m) _ _ k underlying22 rfl (zec m 3)
theorem MBox.load_nxt {w:World} {g:Nat} {m:Mc} (k:MBox w g m):(Instr.loadAt 22 (.pointer (some ⟨g,77,none⟩))).run Tryz.prog w=.ok (.int .u64 m.nxt) w :=
 za0 w g 77 22 42 (mcC m) _ _ k underlying22 rfl (zec m 4)
theorem MBox.load_o {w:World} {g:Nat} {m:Mc} (k:MBox w g m):(Instr.loadAt 40 (.pointer (some ⟨g,78,none⟩))).run Tryz.prog w=.ok m.ov w :=
 za0 w g 78 40 42 (mcC m) _ _ k underlying40 rfl (zec m 5)
theorem MBox.load_fr {w:World} {g:Nat} {m:Mc} (k:MBox w g m):(Instr.loadAt 28 (.pointer (some ⟨g,61,none⟩))).run Tryz.prog w=.ok (.slice m.b.fp m.b.fn m.b.fc) w :=
 za0 w g 61 28 42 (mcC m) _ _ k underlying28 rfl ((zg2 m 9 (by omega)).trans (zbc m.b 9 (by omega)))
theorem MBox.store_b {w:World} {g:Nat} {m:Mc} (k:MBox w g m) (b:Bd):(Instr.storeAt 35 (.pointer (some ⟨g,52,none⟩)) (bdV b)).run Tryz.prog w=.ok () (w.setRow g (mcC { m with b:=b })) :=
 zfk w g 52 42 35 (mcC m) (mcC { m with b:=b }) (bdC b) k (by rw [zeK,zaN]) (zhF b) (by rw [zaN,zcA];omega)
  (by show mcL _=(mcL m).take 52 ++ _ ++ (mcL m).drop _;rw [zaN];exact zfF (zby m.h) (bdC m.b).toList (mcT m) (bdC b).toList 52 21 (zcD _) (zed _))
theorem zjs (b:Bd):(bdC b).toList=bdL b ++ plL b.pl:=by unfold bdC;simp
theorem zks (m:Mc):mcL m=(zby m.h ++ bdL m.b) ++ (plL m.b.pl ++ mcT m):=by unfold mcL;rw [zjs];simp only [List.append_assoc]
theorem MBox.store_pl {w:World} {g:Nat} {m:Mc} (k:MBox w g m) (p:Pl):(Instr.storeAt 33 (.pointer (some ⟨g,64,none⟩)) (.agg (plC p))).run Tryz.prog w=.ok () (w.setRow g (mcC { m with b:={ m.b with pl:=p } })) :=
 zfk w g 64 42 33 (mcC m) (mcC { m with b:={ m.b with pl:=p } }) (plC p) k (by rw [zeA];rfl) (Pc.zkx p) (by rw [zcA];show 64+9≤79;omega)
  (by
   show mcL { m with b:={ m.b with pl:=p } }=(mcL m).take 64 ++ _ ++ (mcL m).drop (64+9)
   rw [zks m,zks { m with b:={ m.b with pl:=p } }];exact zfF (zby m.h ++ bdL m.b) (plL m.b.pl) (mcT m) (plL p) 64 9 (by rw [List.length_append,zcD];rfl) rfl)
theorem zie (m m':Mc) (k:Nat) (v:Value) (hh:m'.h=m.h) (hb:m'.b=m.b) (ht:mcT m'=(mcT m).set k v):(mcC m).setIfInBounds (73+k) v=mcC m':=by
 unfold mcC mcL;rw [List.setIfInBounds_toArray,List.set_append_right _ _ (by rw [zcD];omega),List.set_append_right _ _ (by rw [zcD,zed];omega),zcD,zed,show 73+k - 52 - 21=k by omega,← ht,hh,hb]
theorem MBox.store_nxt {w:World} {g:Nat} {m:Mc} (k:MBox w g m) (n:Int):(Instr.storeAt 22 (.pointer (some ⟨g,77,none⟩)) (.int .u64 n)).run Tryz.prog w=.ok () (w.setRow g (mcC { m with nxt:=n })) :=
 (zbQ w g 77 22 42 (mcC m) _ k zbX (by rw [zcA];omega) rfl rfl).trans (by rw [zie m { m with nxt:=n } 4 _ rfl rfl rfl])
theorem MBox.store_o {w:World} {g:Nat} {m:Mc} (k:MBox w g m) (p:Option Addr) (n c:Nat):(Instr.storeAt 40 (.pointer (some ⟨g,78,none⟩)) (.slice p n c)).run Tryz.prog w=.ok () (w.setRow g (mcC { m with ov:=.slice p n c })) :=
 (zbQ w g 78 40 42 (mcC m) _ k zyp (by rw [zcA];omega) rfl rfl).trans (by rw [zie m { m with ov:=.slice p n c } 5 _ rfl rfl rfl])
theorem MBox.store_ram {w:World} {g:Nat} {m:Mc} (k:MBox w g m) (p q:Option Addr) (n c l d:Nat) (E:Int):(Instr.storeAt 39 (.pointer (some ⟨g,73,none⟩)) (.agg #[.slice p n c,.slice q l d,.int .u64 E])).run Tryz.prog w=.ok () (w.setRow g (mcC { m with dv:=.slice p n c,mv:=.slice q l d,E:=E })) :=
 zfk w g 73 42 39 (mcC m) (mcC { m with dv:=.slice p n c,mv:=.slice q l d,E:=E }) #[.slice p n c,.slice q l d,.int .u64 E] k (by kernel_rfl) (by simp [Value.oneCell']) (by rw [zcA];show 73+3≤79;omega)
  (by
   show mcL { m with dv:=.slice p n c,mv:=.slice q l d,E:=E }=(mcL m).take 73 ++ _ ++ (mcL m).drop (73+3)
   unfold mcL;rw [← List.append_assoc,← List.append_assoc];exact zfF (zby m.h ++ (bdC m.b).toList) [m.dv,m.mv,.int .u64 m.E] [.int .u64 m.cnt,.int .u64 m.nxt,m.ov] [.slice p n c,.slice q l d,.int .u64 E] 73 3 (by rw [List.length_append,zcD,zed]) rfl)
theorem MBox.ram {w:World} {g:Nat} {m:Mc} (k:MBox w g m):zb4 w g 73 m.dv m.mv m.E:=⟨_,42,k,by decide,zec m 0,zec m 1,zec m 2⟩
end Go.Proofs.YtplcfdnfeclpmaaGreatDoor
namespace Go.Proofs.YtplcfdnfeclpmaaGreatDoor.Tr
theorem zac {B:Nat} {a b c:World} (h:Below B a b) (hB:B≤a.heap.size) (k:Below b.heap.size b c):Below B a c:=h.trans (k.mono (Nat.le_trans hB h.size))
def stV (v:Int):Int:=if (bits .and .u64 (bits .and .u64 v 924074 / 2048) 3==2)=true then bits .andNot .u64 (bits .and .u64 v 924074) 6144 else bits .and .u64 v 924074
def tbB (v:Int):Bool:=v / 1152921504606846976==0 || v / 1152921504606846976==8
def spV (w v:Int):Int:=if tbB v=true then bits .and .u64 v 17293840161288749055 else w
def U64 (x:Int):Prop:=0≤x∧x<18446744073709551616
def bitT (x:Int) (i:Nat):Bool:=(BitVec.ofInt 64 x).getLsbD i
theorem zdy (y:BitVec 64):BitVec.ofInt 64 (IntKind.u64.wrap (y.toNat:Int))=y:=by
 have h:=y.isLt;have e:IntKind.u64.wrap (y.toNat:Int)=(y.toNat:Int):=by rw [IntKind.wrap_u64];omega
 rw [e,BitVec.ofInt_natCast]
 simp
theorem zfx (a b:Int):BitVec.ofInt 64 (bits .and .u64 a b)=BitVec.ofInt 64 a &&& BitVec.ofInt 64 b:=zdy _
theorem zf3 (a b:Int):BitVec.ofInt 64 (bits .or .u64 a b)=BitVec.ofInt 64 a ||| BitVec.ofInt 64 b:=zdy _
theorem zfS (a b:Int):BitVec.ofInt 64 (bits .andNot .u64 a b)=BitVec.ofInt 64 a &&& ~~~BitVec.ofInt 64 b:=zdy _
theorem zbd (a b:Int) (i:Nat):bitT (bits .and .u64 a b) i=(bitT a i && bitT b i):=by unfold bitT;rw [zfx,BitVec.getLsbD_and]
theorem zep (a b:Int) (i:Nat):bitT (bits .or .u64 a b) i=(bitT a i || bitT b i):=by unfold bitT;rw [zf3,BitVec.getLsbD_or]
theorem zcd (a b:Int) (i:Nat) (hi:i<64):bitT (bits .andNot .u64 a b) i=(bitT a i && !bitT b i):=by
 unfold bitT;rw [zfS,BitVec.getLsbD_and,BitVec.getLsbD_not]
 simp [hi]
theorem zad (op:BinOp) (a b:Int):U64 (bits op .u64 a b):=⟨bits_lo_u64 op a b,by have:=bits_hi_u64 op a b;omega⟩
theorem zci (a b:Int) (ha:U64 a) (hb:U64 b) (h:∀ i,i<64→bitT a i=bitT b i):a=b:=by
 have e:BitVec.ofInt 64 a=BitVec.ofInt 64 b:=BitVec.eq_of_getLsbD_eq fun i hi=>h i hi
 obtain ⟨n,rfl⟩:=Int.eq_ofNat_of_zero_le ha.1;obtain ⟨k,rfl⟩:=Int.eq_ofNat_of_zero_le hb.1;have e2:=congrArg BitVec.toNat e;rw [BitVec.ofInt_natCast,BitVec.ofInt_natCast,BitVec.toNat_ofNat,BitVec.toNat_ofNat] at e2;have h1:=ha.2;have h2:=hb.2;omega
theorem zee (x:Int) (hx:U64 x) (i:Nat) (hi:i<64):bitT x i=decide (x / (2:Int) ^ i % 2=1):=by
 obtain ⟨n,rfl⟩:=Int.eq_ofNat_of_zero_le hx.1;have h:=hx.2;unfold bitT;rw [BitVec.ofInt_natCast,BitVec.getLsbD_ofNat,Nat.testBit_eq_decide_div_mod_eq];simp only [hi,decide_true,Bool.true_and]
 apply decide_eq_decide.2
 have e:(n:Int) / (2:Int) ^ i % 2=((n / 2 ^ i % 2:Nat):Int):=by simp
 rw [e];omega
theorem zcv (i:Nat):bitT 0 i=false:=by unfold bitT;simp
theorem zap:U64 0:=⟨by omega,by omega⟩
theorem ziv (v:Int) (hv:U64 v):tbB v=(!bitT v 60 && !bitT v 61 && !bitT v 62):=by
 rw [zee v hv 60 (by omega),zee v hv 61 (by omega),zee v hv 62 (by omega)];have h1:=hv.1;have h2:=hv.2;unfold tbB
 apply Bool.eq_iff_iff.2
 simp only [Bool.or_eq_true,Bool.and_eq_true,beq_iff_eq,Bool.not_eq_true',decide_eq_false_iff_not];omega
def twoB (x:Int):Bool:=bitT x 12 && !bitT x 11
theorem zxw (x:Int) (hx:U64 x):(bits .and .u64 (x / 2048) 3==2)=twoB x:=by
 unfold twoB;obtain ⟨n,rfl⟩:=Int.eq_ofNat_of_zero_le hx.1;have h2:=hx.2;have e:((n:Int) / 2048)=((n / 2048:Nat):Int):=by simp
 have h3:=bits_and_u64_nat (n / 2048) 3 (by omega) (by omega);rw [zee _ hx 12 (by omega),zee _ hx 11 (by omega),e,show (3:Int)=((3:Nat):Int) from rfl,h3,show (3:Nat)=2 ^ 2 - 1 from rfl,Nat.and_two_pow_sub_one_eq_mod]
 apply Bool.eq_iff_iff.2
 simp only [Bool.and_eq_true,beq_iff_eq,Bool.not_eq_true',decide_eq_false_iff_not,decide_eq_true_eq];omega
theorem zjV (v:Int):stV v=if twoB (bits .and .u64 v 924074)=true then bits .andNot .u64 (bits .and .u64 v 924074) 6144 else bits .and .u64 v 924074:=by
 unfold stV;rw [zxw _ (zad _ _ _)]
theorem zhJ (v:Int):U64 (stV v):=by
 unfold stV
 split <;> exact zad _ _ _
theorem zjI (u v:Int) (hu:U64 u):U64 (spV u v):=by
 unfold spV
 split
 ·exact zad _ _ _
 ·exact hu
theorem zeP (x m:Int) (hx:U64 x):(bits .andNot .u64 x m==0)=true ↔ bits .and .u64 x m=x:=by
 rw [beq_iff_eq]
 constructor
 ·intro h
  refine zci _ _ (zad _ _ _) hx fun i hi=>?_
  have h2:=congrArg (fun y=>bitT y i) h;simp only [zcd _ _ _ hi,zcv] at h2;rw [zbd]
  revert h2
  cases bitT x i <;> cases bitT m i <;> simp
 ·intro h
  refine zci _ _ (zad _ _ _) zap fun i hi=>?_
  have h2:=congrArg (fun y=>bitT y i) h;simp only [zbd] at h2;rw [zcd _ _ _ hi,zcv]
  revert h2
  cases bitT x i <;> cases bitT m i <;> simp
theorem zdi (v m:Int):(bits .andNot .u64 (bits .and .u64 v m) m==0)=true:=by
 rw [zeP _ _ (zad _ _ _)];refine zci _ _ (zad _ _ _) (zad _ _ _) fun i _=>?_
 rw [zbd,zbd];cases bitT v i <;> cases bitT m i <;> rfl
theorem c2:∀ i,i<64→bitT 18446744073709551613 i=!bitT 2 i:=by decide +kernel
theorem c1:∀ i,i<64→bitT 18446744073709551614 i=!bitT 1 i:=by decide +kernel
theorem cL:∀ i,i<64→bitT 786722 i=true→bitT 924074 i=true:=by decide +kernel
theorem c546:∀ i,i<64→bitT 546 i=true→bitT 2730 i=true:=by decide +kernel
theorem c22:∀ i,i<64→bitT 2 i=true→bitT 546 i=true:=by decide +kernel
theorem L11:bitT 786722 11=false:=by decide +kernel
theorem L12:bitT 786722 12=false:=by decide +kernel
theorem K11:bitT 6144 11=true:=by decide +kernel
theorem K12:bitT 6144 12=true:=by decide +kernel
theorem T60:bitT 17293840161288749055 60=true:=by decide +kernel
theorem T61:bitT 17293840161288749055 61=true:=by decide +kernel
theorem T62:bitT 17293840161288749055 62=true:=by decide +kernel
theorem zcq {B:Nat} {a w:World} (h:Below B a w) (n:Nat):Below B a (w.drewN n):=⟨h.os,h.tape,h.output,h.size,h.block⟩
theorem zqq (x m:Int) (hx:U64 x) (h:(bits .andNot .u64 x m==0)=true):bits .and .u64 x m=x:=(zeP x m hx).1 h
theorem zgT (x m:Int) (hx:U64 x) (h:(bits .andNot .u64 x m==0)=true) (i:Nat):bitT x i=true→bitT m i=true:=by
 have h2:=congrArg (fun y=>bitT y i) (zqq x m hx h);simp only [zbd] at h2
 revert h2
 cases bitT x i <;> cases bitT m i <;> simp
theorem zh0 (x m:Int) (hx:U64 x) (h:∀ i,i<64→bitT x i=true→bitT m i=true):(bits .andNot .u64 x m==0)=true:=by
 rw [zeP _ _ hx];refine zci _ _ (zad _ _ _) hx fun i hi=>?_
 rw [zbd];have:=h i hi
 revert this
 cases bitT x i <;> cases bitT m i <;> simp
end Go.Proofs.YtplcfdnfeclpmaaGreatDoor.Tr
namespace Go.Proofs.YtplcfdnfeclpmaaGreatDoor.Al
theorem zam {k:IntKind} {a b:Int} (h:a=b):Ending.returned (.int k a)=.returned (.int k b):=by rw [h]
theorem zaP {a b:Int} {p q:Bool} (h:a=b) (g:p=q):Ending.returned (.tuple #[.int .u64 a,.bool p])=.returned (.tuple #[.int .u64 b,.bool q]):=by rw [h,g]
theorem zaT {a b:Bool} (h:a=b):Ending.returned (.bool a)=.returned (.bool b):=by rw [h]
def U64 (x:Int):Prop:=0≤x∧x<18446744073709551616
def uV (x:Int):Int:=IntKind.u64.wrap x
def za3 (x:Int):Int:=IntKind.u64.wrap (wrap32 x)
def lowV (x:Int):Int:=IntKind.u32.wrap x
theorem zfc (x:Int):uV x=x % 18446744073709551616:=IntKind.wrap_u64 x
theorem S_eq (x:Int):wrap64 x=(x+9223372036854775808) % 18446744073709551616 - 9223372036854775808:=by unfold wrap64;omega
theorem zky:wrap64 0=0:=by rw [S_eq];omega
theorem T_eq (x:Int):wrap32 x=(x+2147483648) % 4294967296 - 2147483648:=by unfold wrap32;omega
theorem zdA (x:Int):za3 x=((x+2147483648) % 4294967296 - 2147483648) % 18446744073709551616:=by unfold za3;rw [IntKind.wrap_u64,T_eq]
theorem zeJ (x:Int):lowV x=x % 4294967296:=IntKind.wrap_u32 x
theorem zax (x:Int):U64 (uV x):=by rw [zfc];unfold U64;omega
theorem zaw (x:Int):U64 (za3 x):=by rw [zdA];unfold U64;omega
theorem zab (x:Int):U64 (lowV x):=by rw [zeJ];unfold U64;omega
theorem zcl (n:Int) (W:World):TW 112 #[(.int .u64 n)] W (.int .u64 (za3 n)):=by
 go_enter func112,ntmps112
 go_wp2
 go_ret;exact ⟨rfl,rfl⟩
theorem zfo (a b:Int) (W:World):TW 137 #[(.int .u64 a),(.int .u64 b)] W (.bool (decide (wrap64 a<wrap64 b))):=by
 go_enter func137,ntmps137
 go_wp2
 go_ret;exact ⟨rfl,rfl⟩
theorem zc9 (n:Int) (W:World):TW 211 #[(.int .u64 n)] W (.int .u64 (lowV n)):=by
 go_enter func211,ntmps211
 go_wp2
 go_ret;refine ⟨zam ?_,rfl⟩
 rw [zeJ]
def oneV (p:Bool):Int:=bif p then 1 else 0
theorem zgn (p:Bool) (W:World):TW 204 #[.bool p] W (.int .u64 (oneV p)):=by
 cases p
 ·go_enter func204,ntmps204
  go_wp2
  go_ret;exact ⟨rfl,rfl⟩
 ·go_enter func204,ntmps204
  go_wp2
  go_ret;exact ⟨rfl,rfl⟩
namespace MulN
theorem zia (a:Nat) (ha:a<18446744073709551616):bits .and .u64 (a:Int) 4294967295=((a % 4294967296:Nat):Int):=by
 have h:=bits_and_u64_nat a 4294967295 ha (by omega);have e:a &&& 4294967295=a % 4294967296:=Nat.and_two_pow_sub_one_eq_mod a 32;rw [e] at h;exact h
theorem divN (a:Nat):(a:Int) / 4294967296=((a / 4294967296:Nat):Int):=by omega
theorem mulN (a b:Nat):(a:Int)*(b:Int)=((a*b:Nat):Int):=(Int.natCast_mul a b).symm
theorem addN (a b:Nat):(a:Int)+(b:Int)=((a+b:Nat):Int):=(Int.natCast_add a b).symm
theorem zem (a:Nat) (ha:a<18446744073709551616):IntKind.u64.wrap (a:Int)=(a:Int):=by rw [IntKind.wrap_u64];omega
theorem zmD (a:Nat):IntKind.u64.wrap (a:Int)=((a % 18446744073709551616:Nat):Int):=by rw [IntKind.wrap_u64];omega
end MulN
open MulN in
theorem zy1 (x y:Nat) (hx:x<18446744073709551616) (hy:y<18446744073709551616) (W:World) :
  TW 223 #[.int .u64 x,.int .u64 y] W (.tuple #[.int .u64 ((x*y / 18446744073709551616:Nat):Int),.int .u64 ((x*y % 18446744073709551616:Nat):Int)]):=by
 obtain ⟨bd,bt,bw,hhi⟩:=Lib.mul64_hi x y hx hy;have ba:=Lib.half_mul_le (a:=x / 4294967296) (b:=y / 4294967296) (by omega) (by omega);have bb:=Lib.half_mul_le (a:=x / 4294967296) (b:=y % 4294967296) (by omega) (by omega);have bc:=Lib.half_mul_le (a:=x % 4294967296) (b:=y / 4294967296) (by omega) (by omega);have ba':x / 4294967296*(y / 4294967296)<18446744073709551616:=by omega
 have bb':x / 4294967296*(y % 4294967296)<18446744073709551616:=by omega
 have bc':x % 4294967296*(y / 4294967296)<18446744073709551616:=by omega
 have bh1:x / 4294967296*(y / 4294967296)+(x / 4294967296*(y % 4294967296)+x % 4294967296*(y % 4294967296) / 4294967296) / 4294967296<18446744073709551616:=by omega
 have bh:x / 4294967296*(y / 4294967296)+(x / 4294967296*(y % 4294967296)+x % 4294967296*(y % 4294967296) / 4294967296) / 4294967296+((x / 4294967296*(y % 4294967296)+x % 4294967296*(y % 4294967296) / 4294967296) % 4294967296+x % 4294967296*(y / 4294967296)) / 4294967296<18446744073709551616:=by omega
 go_enter func223,ntmps223
 go_wp2
 simp only [zia x hx,zia y hy,divN,mulN,addN,zem _ bd,zem _ bb',zem _ bt,zia _ bt,zem _ bc',zem _ bw,zem _ ba',zem _ bh1,zem _ bh,zmD (x*y)];rw [hhi];go_ret2;exact ⟨rfl,rfl⟩
theorem zp7 (x y:Int) (hx:U64 x) (hy:U64 y) (W:World):TW 223 #[(.int .u64 x),(.int .u64 y)] W (.tuple #[.int .u64 (x*y / 18446744073709551616),.int .u64 (uV (x*y))]):=by
 obtain ⟨a,rfl⟩:=Int.eq_ofNat_of_zero_le hx.1;obtain ⟨b,rfl⟩:=Int.eq_ofNat_of_zero_le hy.1;refine (zy1 a b (by have:=hx.2;omega) (by have:=hy.2;omega) W).mono ?_
 rintro e w ⟨rfl,rfl⟩
 refine ⟨?_,rfl⟩
 simp only [zfc,Int.natCast_ediv,Int.natCast_emod,Int.natCast_mul,Int.cast_ofNat_Int]
theorem zii (a b:Int) (ha:U64 a) (hb:U64 b) (W:World):TW 205 #[(.int .u64 a),(.int .u64 b)] W (.int .u64 (a*b / 18446744073709551616)):=by
 go_enter func205,ntmps205;go_wp2_with (go_at_call 223;with_reducible refine (zp7 a b ha hb _).tq ?_);go_ret;exact ⟨rfl,rfl⟩
def zey (a b:Int):Int:=bif decide (wrap64 a<0) then b else 0
theorem zzJ (a b:Int) (h:decide (wrap64 a<0)=true) (W:World):TW 206 #[(.int .u64 a),(.int .u64 b)] W (.int .u64 b):=by
 have h0:decide (wrap64 a<wrap64 0)=true:=by rw [zky];exact h
 go_enter func206,ntmps206;go_wp2_with (go_at_call 137;with_reducible refine (zfo a 0 _).tq ?_);go_ret;exact ⟨rfl,rfl⟩
theorem zuE (a b:Int) (h:decide (wrap64 a<0)=false) (W:World):TW 206 #[(.int .u64 a),(.int .u64 b)] W (.int .u64 0):=by
 have h0:decide (wrap64 a<wrap64 0)=false:=by rw [zky];exact h
 go_enter func206,ntmps206;go_wp2_with (go_at_call 137;with_reducible refine (zfo a 0 _).tq ?_);go_ret;exact ⟨rfl,rfl⟩
theorem zjO (a b:Int) (W:World):TW 206 #[(.int .u64 a),(.int .u64 b)] W (.int .u64 (zey a b)):=by
 unfold zey;cases h:decide (wrap64 a<0)
 ·exact zuE a b h W
 ·exact zzJ a b h W
end Go.Proofs.YtplcfdnfeclpmaaGreatDoor.Al
namespace Go.Proofs.YtplcfdnfeclpmaaGreatDoor.Al
def quV (a b:Int):Int:=if b=0 then 18446744073709551615 else a / b
def reV (a b:Int):Int:=if b=0 then a else a % b
def qsV (a b:Int):Int:=if b=0 then 18446744073709551615 else uV (wrap64 ((wrap64 a).tdiv (wrap64 b)))
def rsV (a b:Int):Int:=if b=0 then a else uV ((wrap64 a).tmod (wrap64 b))
theorem zaD (a b:Int) (ha:U64 a) (hb:U64 b):U64 (quV a b):=by
 unfold quV
 split
 ·exact ⟨by omega,by omega⟩
 ·obtain ⟨a,rfl⟩:=Int.eq_ofNat_of_zero_le ha.1
  obtain ⟨b,rfl⟩:=Int.eq_ofNat_of_zero_le hb.1;have h1:=Nat.div_le_self a b;have h2:(a:Int)<18446744073709551616:=ha.2;rw [← Int.natCast_ediv];generalize a / b=q at *;exact ⟨by omega,by omega⟩
theorem zaC (a b:Int) (ha:U64 a) (hb:U64 b):U64 (reV a b):=by
 unfold reV
 split
 ·exact ha
 ·obtain ⟨a,rfl⟩:=Int.eq_ofNat_of_zero_le ha.1
  obtain ⟨b,rfl⟩:=Int.eq_ofNat_of_zero_le hb.1;have h1:=Nat.mod_le a b;have h2:(a:Int)<18446744073709551616:=ha.2;rw [← Int.natCast_emod];generalize a % b=q at *;exact ⟨by omega,by omega⟩
theorem S_ne (b:Int) (hb:U64 b) (h:b≠0):wrap64 b≠0:=by
 rw [S_eq];have:=hb.1;have:=hb.2;omega
theorem znK (a b:Int) (ha:U64 a) (hb:U64 b) (h:b≠0):a.tdiv b=a / b∧uV (a / b)=a / b:=by
 have h1:=zaD a b ha hb;unfold quV at h1;rw [if_neg h] at h1;refine ⟨Int.tdiv_eq_ediv_of_nonneg ha.1,?_⟩
 rw [zfc];have:=h1.1;have:=h1.2;omega
theorem zAB (a b:Int) (ha:U64 a) (hb:U64 b) (h:b≠0):a.tmod b=a % b∧uV (a % b)=a % b:=by
 have h1:=zaC a b ha hb;unfold reV at h1;rw [if_neg h] at h1;refine ⟨Int.tmod_eq_emod_of_nonneg ha.1,?_⟩
 rw [zfc];have:=h1.1;have:=h1.2;omega
theorem zve (a b:Int) (h:b=0) (W:World):TW 208 #[(.int .u64 a),(.int .u64 b)] W (.int .u64 18446744073709551615):=by
 subst h;go_enter func208,ntmps208
 go_wp2
 go_ret;exact ⟨rfl,rfl⟩
theorem zs9 (a b:Int) (ha:U64 a) (hb:U64 b) (h:b≠0) (W:World):TW 208 #[(.int .u64 a),(.int .u64 b)] W (.int .u64 (a / b)):=by
 have p:(b==0)=false:=by rw [beq_eq_false_iff_ne];exact h
 go_enter func208,ntmps208
 go_wp2
 go_ret;refine ⟨zam ?_,rfl⟩
 have E:=znK a b ha hb h;rw [← E.2,E.1];rfl
theorem ziI (a b:Int) (ha:U64 a) (hb:U64 b) (W:World):TW 208 #[(.int .u64 a),(.int .u64 b)] W (.int .u64 (quV a b)):=by
 unfold quV
 by_cases h:b=0
 ·rw [if_pos h];exact zve a b h W
 ·rw [if_neg h];exact zs9 a b ha hb h W
theorem zoq (a b:Int) (h:b=0) (W:World):TW 210 #[(.int .u64 a),(.int .u64 b)] W (.int .u64 a):=by
 subst h;go_enter func210,ntmps210
 go_wp2
 go_ret;exact ⟨rfl,rfl⟩
theorem zAE (a b:Int) (ha:U64 a) (hb:U64 b) (h:b≠0) (W:World):TW 210 #[(.int .u64 a),(.int .u64 b)] W (.int .u64 (a % b)):=by
 have p:(b==0)=false:=by rw [beq_eq_false_iff_ne];exact h
 go_enter func210,ntmps210
 go_wp2
 go_ret;refine ⟨zam ?_,rfl⟩
 have E:=zAB a b ha hb h;rw [← E.2,E.1];exact E.2.symm
theorem zku (a b:Int) (ha:U64 a) (hb:U64 b) (W:World):TW 210 #[(.int .u64 a),(.int .u64 b)] W (.int .u64 (reV a b)):=by
 unfold reV
 by_cases h:b=0
 ·rw [if_pos h];exact zoq a b h W
 ·rw [if_neg h];exact zAE a b ha hb h W
theorem zlR (a b:Int) (h:b=0) (W:World):TW 207 #[(.int .u64 a),(.int .u64 b)] W (.int .u64 18446744073709551615):=by
 subst h;go_enter func207,ntmps207
 go_wp2
 go_ret;exact ⟨rfl,rfl⟩
theorem znm (a b:Int) (hb:U64 b) (h:b≠0) (W:World):TW 207 #[(.int .u64 a),(.int .u64 b)] W (.int .u64 (uV (wrap64 ((wrap64 a).tdiv (wrap64 b))))):=by
 have p:(b==0)=false:=by rw [beq_eq_false_iff_ne];exact h
 have p2:¬ wrap64 b=0:=S_ne b hb h;go_enter func207,ntmps207
 go_wp2
 go_ret;exact ⟨rfl,rfl⟩
theorem zj1 (a b:Int) (hb:U64 b) (W:World):TW 207 #[(.int .u64 a),(.int .u64 b)] W (.int .u64 (qsV a b)):=by
 unfold qsV
 by_cases h:b=0
 ·rw [if_pos h];exact zlR a b h W
 ·rw [if_neg h];exact znm a b hb h W
theorem zwu (a b:Int) (h:b=0) (W:World):TW 209 #[(.int .u64 a),(.int .u64 b)] W (.int .u64 a):=by
 subst h;go_enter func209,ntmps209
 go_wp2
 go_ret;exact ⟨rfl,rfl⟩
theorem ztF (a b:Int) (hb:U64 b) (h:b≠0) (W:World):TW 209 #[(.int .u64 a),(.int .u64 b)] W (.int .u64 (uV ((wrap64 a).tmod (wrap64 b)))):=by
 have p:(b==0)=false:=by rw [beq_eq_false_iff_ne];exact h
 have p2:¬ wrap64 b=0:=S_ne b hb h;go_enter func209,ntmps209
 go_wp2
 go_ret;exact ⟨rfl,rfl⟩
theorem zjF (a b:Int) (hb:U64 b) (W:World):TW 209 #[(.int .u64 a),(.int .u64 b)] W (.int .u64 (rsV a b)):=by
 unfold rsV
 by_cases h:b=0
 ·rw [if_pos h];exact zwu a b h W
 ·rw [if_neg h];exact ztF a b hb h W
end Go.Proofs.YtplcfdnfeclpmaaGreatDoor.Al
