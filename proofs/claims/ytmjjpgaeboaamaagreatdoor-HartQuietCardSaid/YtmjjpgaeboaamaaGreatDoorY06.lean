/- HartQuiet,part 6. -/
import Derived.Below
import Derived.Deep.Draws
import Derived.Deep.Slices
import Derived.BigQuiet
import Derived.Carry
import Derived.ChangeMaps
import Derived.ChangeKeysEq
import Derived.Deep.DeepCutAuto
import Derived.Deep.RegionHeld3
import Derived.Deep.RegionWith
import Derived.Deep.WholeRow
import Derived.IntWalk
import Derived.Laws.BitsAllLaws
import Derived.Laws.Bits64b
import Derived.Laws.Closers25b
import Derived.Laws.ResultCell
import Derived.Laws.CopyOwn
import Derived.Laws.StructEq
import Derived.Lib.Hide
import Derived.Lib.SmallJoins
import Derived.OpenShut
import Derived.ProofKit
import Derived.SizedLaws
import Derived.WalkKit
import Derived.WalkLawsBesides
import Derived.Test.YtmjjpgaeboaamaaGreatDoorY04
set_option maxHeartbeats 4000000
set_option maxRecDepth 100000
open Go.Lib (hid)
namespace Go.Proofs.YtmjjpgaeboaamaaGreatDoor.Pc
open Go.RowKit Go.Deep Go.Joins
theorem zad {B:Nat} {a b c:World} (h:Below B a b) (hB:B≤a.heap.size) (k:Below b.heap.size b c):Below B a c:=h.trans (k.mono (Nat.le_trans hB h.size))
def U32 (x:Int):Prop:=0≤x∧x<4294967296
def bitT (x:Int) (i:Nat):Bool:=(BitVec.ofInt 32 x).getLsbD i
theorem zdY (y:BitVec 32):BitVec.ofInt 32 (IntKind.u32.wrap (y.toNat:Int))=y:=by
 have h:=y.isLt
 have e:IntKind.u32.wrap (y.toNat:Int)=(y.toNat:Int):=by rw [IntKind.wrap_u32];omega
 rw [e,BitVec.ofInt_natCast]
 simp
theorem zfn (a b:Int):BitVec.ofInt 32 (bits .and .u32 a b)=BitVec.ofInt 32 a &&& BitVec.ofInt 32 b:=zdY _
theorem zfr (a b:Int):BitVec.ofInt 32 (bits .andNot .u32 a b)=BitVec.ofInt 32 a &&& ~~~BitVec.ofInt 32 b:=zdY _
theorem zdM (a b:Int) (i:Nat):bitT (bits .and .u32 a b) i=(bitT a i && bitT b i):=by unfold bitT;rw [zfn,BitVec.getLsbD_and]
theorem zg0 (a b:Int) (i:Nat) (hi:i<32):bitT (bits .andNot .u32 a b) i=(bitT a i && !bitT b i):=by
 unfold bitT
 rw [zfr,BitVec.getLsbD_and,BitVec.getLsbD_not]
 simp [hi]
theorem zgx (y:BitVec 32):U32 (IntKind.u32.wrap (y.toNat:Int)):=by
 unfold U32
 rw [IntKind.wrap_u32]
 omega
theorem zgk (a b:Int):U32 (bits .and .u32 a b):=zgx _
theorem zrV (a b:Int):U32 (bits .or .u32 a b):=zgx _
theorem ziB (a b:Int):U32 (bits .andNot .u32 a b):=zgx _
theorem zdP (a b:Int) (ha:U32 a) (hb:U32 b) (h:∀ i,i<32→bitT a i=bitT b i):a=b:=by
 have e:BitVec.ofInt 32 a=BitVec.ofInt 32 b:=BitVec.eq_of_getLsbD_eq fun i hi=>h i hi
 obtain ⟨n,rfl⟩:=Int.eq_ofNat_of_zero_le ha.1
 obtain ⟨k,rfl⟩:=Int.eq_ofNat_of_zero_le hb.1
 have e2:=congrArg BitVec.toNat e
 rw [BitVec.ofInt_natCast,BitVec.ofInt_natCast,BitVec.toNat_ofNat,BitVec.toNat_ofNat] at e2
 have h1:=ha.2
 have h2:=hb.2
 omega
theorem zdF (i:Nat):bitT 0 i=false:=by unfold bitT;simp
theorem zfO:U32 0:=⟨by omega,by omega⟩
def wt:Int→Int
 | 1=>2
 | 2=>4
 | 3=>8
 | _=>0
theorem zgc (i:Nat) (hi:i<32):bitT 2 i=(i==1):=by revert i;decide +kernel
theorem zm0 (i:Nat) (hi:i<32):bitT 4 i=(i==2):=by revert i;decide +kernel
theorem zvv (i:Nat) (hi:i<32):bitT 8 i=(i==3):=by revert i;decide +kernel
theorem ze0 (k:Nat) (hk:1≤k∧k≤3) (i:Nat) (hi:i<32):bitT (wt k) i=(i==k):=by
 match k,hk with
 | 1,_=>exact zgc i hi
 | 2,_=>exact zm0 i hi
 | 3,_=>exact zvv i hi
 | k+4,h=>omega
theorem zeA (x:Int) (k:Nat) (hk:1≤k∧k≤3):(bits .and .u32 x (wt k) != 0)=bitT x k:=by
 have e:bits .and .u32 x (wt k)=if bitT x k=true then wt k else 0:=by
  apply zdP _ _ (zgk _ _)
  ·split
   ·match k,hk with
    | 1,_=>exact ⟨by decide,by decide⟩
    | 2,_=>exact ⟨by decide,by decide⟩
    | 3,_=>exact ⟨by decide,by decide⟩
    | k+4,h=>omega
   ·exact zfO
  ·intro i hi
   rw [zdM,ze0 k hk i hi]
   by_cases hik:i=k
   ·subst hik
    split
    ·rename_i h;rw [ze0 i hk i hi,h];rfl
    ·rename_i h;rw [zdF];simp at h;rw [h];rfl
   ·have:(i==k)=false:=by simp [hik]
    rw [this]
    split
    ·rw [ze0 k hk i hi,this];simp
    ·rw [zdF];simp
 rw [e]
 match k,hk with
 | 1,_=>cases bitT x 1 <;> rfl
 | 2,_=>cases bitT x 2 <;> rfl
 | 3,_=>cases bitT x 3 <;> rfl
 | k+4,h=>omega
structure Ok (h:Pl):Prop where
 p0:U32 h.p0
 p1:U32 h.p1
 p2:U32 h.p2
 p3:U32 h.p3
 e0:U32 h.e0
 e1:U32 h.e1
 l0:U32 h.l0
 l1:U32 h.l1
 c:U32 h.c
abbrev plV (h:Pl):Value:=.agg (plC h)
abbrev plO (h:Pl):Obj:=.cells (plC h) 33
theorem zeN (h:Pl):(plC h).size=9:=rfl
theorem zdb (h:Pl) (k:Nat):(plC h)[k]?=(plL h)[k]?:=by unfold plC;rw [List.getElem?_toArray]
theorem zjy (h g:Pl) (k:Nat) (v:Value) (ht:plL g=(plL h).set k v):(plC h).setIfInBounds k v=plC g:=by
 unfold plC
 rw [List.setIfInBounds_toArray,ht]
theorem zjC (h:Pl):(plC h).all (·.oneCell')=true:=by
 unfold plC plL
 simp [Value.oneCell']
theorem zeC:(Tryz.prog.info? 33).map (·.size)=some 9:=by kernel_rfl
theorem zpc:(Tryz.prog.info? 30).map (·.size)=some 4:=by kernel_rfl
theorem ziX:(Tryz.prog.info? 29).map (·.size)=some 1:=by kernel_rfl
end Go.Proofs.YtmjjpgaeboaamaaGreatDoor.Pc
namespace Go.Proofs.YtmjjpgaeboaamaaGreatDoor.Pc
open Go.RowKit Go.Deep Go.Joins
def Box (w:World) (b:Nat) (h:Pl):Prop:=w.heap[b]?=some (plO h)
theorem Box.lt {w:World} {b:Nat} {h:Pl} (k:Box w b h):b<w.heap.size:=(Array.getElem?_eq_some_iff.1 k).1
theorem Box.next {w w':World} {b:Nat} {h:Pl} (k:Box w b h) (j:Below w.heap.size w w'):Box w' b h:=(j.block b k.lt).trans k
theorem Box.alloc {w:World} {b:Nat} {h:Pl} (k:Box w b h) (o:Obj):Box (w.alloc o) b h:=k.next ((Below.refl _ _).alloc (Nat.le_refl _) o)
theorem Box.new (w:World) (h:Pl):Box (w.alloc (plO h)) w.heap.size h:=heap_alloc_last w _
theorem Box.over {w:World} {b g:Nat} {h:Pl} (k:Box w b h) (hg:b≠g) (cs:Array Value):Box (w.setRow g cs) b h:=(setRow_other w g b cs hg).trans k
theorem Box.mine {w:World} {g:Nat} {old:Array Value} (k:w.heap[g]?=some (.cells old 33 (0,0))) (h:Pl):Box (w.setRow g (plC h)) g h:=setRow_heap w g old (plC h) 33 (0,0) k
theorem Box.load {w:World} {b:Nat} {h:Pl} (k:Box w b h):(Instr.loadAt 33 (.pointer (some ⟨b,0,none⟩))).run Tryz.prog w=.ok (plV h) w:=by
 simp only [Instr.loadAt,Instr.sureAddr,Sem.run_bind,Sem.run_pure,Result.andThen]
 exact run_loadVar_row w b 33 33 (plC h) (0,0) _ k Tryz.underlying33 rfl (by rw [zeC,zeN])
theorem Box.result {w:World} {b:Nat} {h:Pl} (k:Box w b h):(loadVar 33 ⟨b,0,none⟩).run Tryz.prog w=.ok (plV h) w :=
 run_loadVar_row w b 33 33 (plC h) (0,0) _ k Tryz.underlying33 rfl (by rw [zeC,zeN])
theorem Box.load_prio {w:World} {b:Nat} {h:Pl} (k:Box w b h):(Instr.loadAt 30 (.pointer (some ⟨b,0,none⟩))).run Tryz.prog w=.ok (.agg #[.int .u32 h.p0,.int .u32 h.p1,.int .u32 h.p2,.int .u32 h.p3]) w :=
 zdS w b 0 33 30 (plC h) [.int .u32 h.p0,.int .u32 h.p1,.int .u32 h.p2,.int .u32 h.p3] _ k Tryz.underlying30 rfl (by rw [zpc];rfl) fun j v hv=>by
  rw [Nat.zero_add,zdb]
  match j,hv with
  | 0,hv=>exact hv
  | 1,hv=>exact hv
  | 2,hv=>exact hv
  | 3,hv=>exact hv
  | j+4,hv=>simp at hv
theorem Box.cell {w:World} {b:Nat} {h:Pl} (k:Box w b h) (i:Nat):w.cell? ⟨b,i,none⟩=(plL h)[i]?:=by
 rw [cell_of_row w b _ (plC h) 33 (0,0) k,zdb]
theorem Box.load_p1 {w:World} {b:Nat} {h:Pl} (k:Box w b h):(Instr.loadAt 29 (.pointer (some ⟨b,1,none⟩))).run Tryz.prog w=.ok (.int .u32 h.p1) w :=
 zaU w b 1 29 33 (plC h) _ _ k Tryz.underlying29 rfl (zdb h 1)
theorem Box.load_p2 {w:World} {b:Nat} {h:Pl} (k:Box w b h):(Instr.loadAt 29 (.pointer (some ⟨b,2,none⟩))).run Tryz.prog w=.ok (.int .u32 h.p2) w :=
 zaU w b 2 29 33 (plC h) _ _ k Tryz.underlying29 rfl (zdb h 2)
theorem Box.load_p3 {w:World} {b:Nat} {h:Pl} (k:Box w b h):(Instr.loadAt 29 (.pointer (some ⟨b,3,none⟩))).run Tryz.prog w=.ok (.int .u32 h.p3) w :=
 zaU w b 3 29 33 (plC h) _ _ k Tryz.underlying29 rfl (zdb h 3)
theorem Box.load_e0 {w:World} {b:Nat} {h:Pl} (k:Box w b h):(Instr.loadAt 29 (.pointer (some ⟨b,4,none⟩))).run Tryz.prog w=.ok (.int .u32 h.e0) w :=
 zaU w b 4 29 33 (plC h) _ _ k Tryz.underlying29 rfl (zdb h 4)
theorem Box.load_e1 {w:World} {b:Nat} {h:Pl} (k:Box w b h):(Instr.loadAt 29 (.pointer (some ⟨b,5,none⟩))).run Tryz.prog w=.ok (.int .u32 h.e1) w :=
 zaU w b 5 29 33 (plC h) _ _ k Tryz.underlying29 rfl (zdb h 5)
theorem Box.load_l0 {w:World} {b:Nat} {h:Pl} (k:Box w b h):(Instr.loadAt 29 (.pointer (some ⟨b,6,none⟩))).run Tryz.prog w=.ok (.int .u32 h.l0) w :=
 zaU w b 6 29 33 (plC h) _ _ k Tryz.underlying29 rfl (zdb h 6)
theorem Box.load_l1 {w:World} {b:Nat} {h:Pl} (k:Box w b h):(Instr.loadAt 29 (.pointer (some ⟨b,7,none⟩))).run Tryz.prog w=.ok (.int .u32 h.l1) w :=
 zaU w b 7 29 33 (plC h) _ _ k Tryz.underlying29 rfl (zdb h 7)
theorem Box.load_c {w:World} {b:Nat} {h:Pl} (k:Box w b h):(Instr.loadAt 29 (.pointer (some ⟨b,8,none⟩))).run Tryz.prog w=.ok (.int .u32 h.c) w :=
 zaU w b 8 29 33 (plC h) _ _ k Tryz.underlying29 rfl (zdb h 8)
theorem zaT (w:World) (b:Nat) (old:Array Value) (h:Pl) (k:w.heap[b]?=some (.cells old 33 (0,0))) (ho:old.size=9):(Instr.storeAt 33 (.pointer (some ⟨b,0,none⟩)) (plV h)).run Tryz.prog w=.ok () (w.setRow b (plC h)):=by
 simp only [Instr.storeAt,Instr.sureAddr,Sem.run_bind,Sem.run_pure,Result.andThen]
 exact run_storeVar_row w b 33 33 old (plC h) k (by rw [zeC,zeN]) (by rw [ho,zeN]) (zjC h)
def zc4:Pl:=⟨0,0,0,0,0,0,0,0,0⟩
abbrev zeroC:Array Value:=#[.int .u32 0,.int .u32 0,.int .u32 0,.int .u32 0,.int .u32 0,.int .u32 0,.int .u32 0,.int .u32 0,.int .u32 0]
abbrev zak:Obj:=.cells zeroC 33
def St (n:Nat) (W:World) (h:Pl) (r:Array Value):World:=((W.alloc (plO h)).alloc (.cells r 33)).drewN n
theorem St.box (n:Nat) (W:World) (h:Pl) (r:Array Value):Box (St n W h r) W.heap.size h:=(Box.new W h).alloc (.cells r 33)
theorem St.res (n:Nat) (W:World) (h:Pl) (r:Array Value):(St n W h r).heap[W.heap.size+1]?=some (.cells r 33 (0,0)):=by
 have k:=heap_alloc_last (W.alloc (plO h)) (.cells r 33)
 rwa [World.size_alloc] at k
theorem St.put (n:Nat) (W:World) (h g:Pl) (r:Array Value):(St n W h r).setRow W.heap.size (plC g)=St n W g r:=by
 have k:((W.alloc (plO h)).alloc (.cells r 33)).setRow W.heap.size (plC g)=(W.alloc (plO g)).alloc (.cells r 33):=by rw [zjV _ _ _ _ (by simp),World.setRow_alloc_new]
 exact congrArg (fun w=>w.drewN n) k
theorem St.full (n:Nat) (W:World) (h:Pl) (r r':Array Value):(St n W h r).setRow (W.heap.size+1) r'=St n W h r':=by
 have k:=World.setRow_alloc_new (W.alloc (plO h)) r r' 33
 rw [World.size_alloc] at k
 exact congrArg (fun w=>w.drewN n) k
theorem St.below (n:Nat) (W:World) (h:Pl) (r:Array Value):Below W.heap.size W (St n W h r):=⟨rfl,rfl,rfl,by show W.heap.size≤((W.heap.push _).push _).size;simp;omega,fun k hk=>(((Below.refl _ _).alloc (Nat.le_refl _) _).alloc (by simp) _).block k hk⟩
theorem St.load (n:Nat) (W:World) (h:Pl) (r:Array Value):(Instr.loadAt 33 (.pointer (some ⟨W.heap.size,0,none⟩))).run Tryz.prog (St n W h r)=.ok (plV h) (St n W h r):=(St.box n W h r).load
theorem St.store (n:Nat) (W:World) (h g:Pl):(Instr.storeAt 33 (.pointer (some ⟨W.heap.size+1,0,none⟩)) (plV g)).run Tryz.prog (St n W h zeroC)=.ok () (St n W h (plC g)) :=
 (zaT _ _ _ _ (St.res n W h zeroC) rfl).trans (by rw [St.full])
theorem St.store_at {n:Nat} {W:World} {h:Pl} (g:Pl) {r:Array Value} (i:Nat) {v:Value} (hi:i<9) (h1:v.oneCell'=true) (hc:v.cells=#[v]) (ht:plL g=(plL h).set i v):(Instr.storeAt 29 (.pointer (some ⟨W.heap.size,i,none⟩)) v).run Tryz.prog (St n W h r)=.ok () (St n W g r):=by
 refine (zbL _ _ i 29 33 _ _ (St.box n W h r) ziX (by rw [zeN];omega) h1 hc).trans ?_
 rw [zjy h g i v ht,St.put]
theorem zaZ {fn:Func} {p u q:Tmp} (h:fn.results=#[.cell p 33,.tmp u,.tmp q]) (tmps:Array Value) (w:World) (g:Nat) (k:Pl) (v x:Value) (hp:tmps.getD p undef=.pointer (some ⟨g,0,none⟩)) (hg:Box w g k) (hv:tmps.getD u undef=v) (hx:tmps.getD q undef=x) :
  (results fn tmps).run Tryz.prog w=.ok (.tuple #[plV k,v,x]) w:=by
 have hp':tmps[p]?.getD undef=.pointer (some ⟨g,0,none⟩):=by simpa using hp
 have hv':tmps[u]?.getD undef=v:=by simpa using hv
 have hx':tmps[q]?.getD undef=x:=by simpa using hx
 simp [results,h,hp',hv',hx',asAddr,Box.result hg]
theorem zbg {fn:Func} {p u:Tmp} (h:fn.results=#[.cell p 33,.tmp u]) (tmps:Array Value) (w:World) (g:Nat) (k:Pl) (v:Value) (hp:tmps.getD p undef=.pointer (some ⟨g,0,none⟩)) (hg:Box w g k) (hv:tmps.getD u undef=v) :
  (results fn tmps).run Tryz.prog w=.ok (.tuple #[plV k,v]) w:=by
 rw [results_cell_tmp h,hp,hv]
 simp [asAddr,Result.andThen,Box.result hg]
end Go.Proofs.YtmjjpgaeboaamaaGreatDoor.Pc
namespace Go.Proofs.YtmjjpgaeboaamaaGreatDoor.Pc
open Go.RowKit Go.Deep Go.Joins
def zbx (s c:Int):Int:=bits .and .u32 (bits .andNot .u32 s c) 14
theorem zha (h:Pl) (s:Int) (W:World):TB 135 #[plV h,.int .u32 s] W (.int .u32 (zbx s h.c)):=by
 have m_c:(plC h)[8]?=some (.int .u32 h.c):=zdb h 8
 go_enter Tryz.func135,Tryz.ntmps135
 go_wp2
 go_ret
 exact ⟨rfl,(Below.refl _ _).alloc (Nat.le_refl _) _⟩
theorem zet (W:World):TW 136 #[.int .u32 0] W (.int .u32 0):=by
 go_enter Tryz.func136,Tryz.ntmps136
 go_wp2
 go_ret
 exact ⟨zah (by decide +kernel),rfl⟩
theorem zdk (W:World):TW 136 #[.int .u32 1] W (.int .u32 2):=by
 go_enter Tryz.func136,Tryz.ntmps136
 go_wp2
 go_ret
 exact ⟨zah (by decide +kernel),rfl⟩
theorem zdo (W:World):TW 136 #[.int .u32 2] W (.int .u32 4):=by
 go_enter Tryz.func136,Tryz.ntmps136
 go_wp2
 go_ret
 exact ⟨zah (by decide +kernel),rfl⟩
theorem zdp (W:World):TW 136 #[.int .u32 3] W (.int .u32 8):=by
 go_enter Tryz.func136,Tryz.ntmps136
 go_wp2
 go_ret
 exact ⟨zah (by decide +kernel),rfl⟩
theorem zru (k:Nat) (h:k≤32) (h4:4≤k):bits .and .u32 (2 ^ k % 4294967296) 14=0:=by
 revert k
 decide +kernel
theorem zis (n:Int) (hn:U32 n) (h4:4≤n) (W:World):TW 136 #[.int .u32 n] W (.int .u32 0):=by
 obtain ⟨h0,h1⟩:=hn
 have HB:=hid (zru (min n.toNat 32) (by omega) (by omega))
 go_enter Tryz.func136,Tryz.ntmps136
 go_wp2
 go_ret
 exact ⟨zah HB.out,rfl⟩
theorem zjs (W:World):TW 327 #[.int .u64 201326596] W (.tuple #[.int .i64 1,.int .i64 1]):=by
 go_enter Tryz.func327,Tryz.ntmps327
 go_wp2
 go_ret2
 exact ⟨rfl,rfl⟩
theorem zjJ (W:World):TW 327 #[.int .u64 201326600] W (.tuple #[.int .i64 1,.int .i64 2]):=by
 go_enter Tryz.func327,Tryz.ntmps327
 go_wp2
 go_ret2
 exact ⟨rfl,rfl⟩
theorem zhL (W:World):TW 327 #[.int .u64 201326604] W (.tuple #[.int .i64 1,.int .i64 3]):=by
 go_enter Tryz.func327,Tryz.ntmps327
 go_wp2
 go_ret2
 exact ⟨rfl,rfl⟩
theorem zi1 (W:World):TW 327 #[.int .u64 201330688] W (.tuple #[.int .i64 2,.int .i64 0]):=by
 go_enter Tryz.func327,Tryz.ntmps327
 go_wp2
 go_ret2
 exact ⟨rfl,rfl⟩
theorem zh5 (W:World):TW 327 #[.int .u64 201334784] W (.tuple #[.int .i64 3,.int .i64 0]):=by
 go_enter Tryz.func327,Tryz.ntmps327
 go_wp2
 go_ret2
 exact ⟨rfl,rfl⟩
theorem zh3 (W:World):TW 327 #[.int .u64 201334912] W (.tuple #[.int .i64 3,.int .i64 1]):=by
 go_enter Tryz.func327,Tryz.ntmps327
 go_wp2
 go_ret2
 exact ⟨rfl,rfl⟩
theorem zjI (W:World):TW 327 #[.int .u64 203423744] W (.tuple #[.int .i64 4,.int .i64 0]):=by
 go_enter Tryz.func327,Tryz.ntmps327
 go_wp2
 go_ret2
 exact ⟨rfl,rfl⟩
theorem zjv (W:World):TW 327 #[.int .u64 203427840] W (.tuple #[.int .i64 4,.int .i64 1]):=by
 go_enter Tryz.func327,Tryz.ntmps327
 go_wp2
 go_ret2
 exact ⟨rfl,rfl⟩
theorem zdy (W:World):TW 327 #[.int .u64 203423748] W (.tuple #[.int .i64 5,.int .i64 0]):=by
 go_enter Tryz.func327,Tryz.ntmps327
 go_wp2
 go_ret2
 exact ⟨rfl,rfl⟩
theorem zdD (W:World):TW 327 #[.int .u64 203427844] W (.tuple #[.int .i64 5,.int .i64 1]):=by
 go_enter Tryz.func327,Tryz.ntmps327
 go_wp2
 go_ret2
 exact ⟨rfl,rfl⟩
structure zdg (t:Int):Prop where
 n_p1:¬ t=201326596
 n_p2:¬ t=201326600
 n_p3:¬ t=201326604
 n_wait:¬ t=201330688
 n_e0:¬ t=201334784
 n_e1:¬ t=201334912
 n_l0:¬ t=203423744
 n_l1:¬ t=203427840
 n_b0:¬ t=203423748
 n_b1:¬ t=203427844
theorem zik (t:Int) (hn:zdg t) (W:World):TW 327 #[.int .u64 t] W (.tuple #[.int .i64 0,.int .i64 0]):=by
 have x_p1:=hn.n_p1
 have x_p2:=hn.n_p2
 have x_p3:=hn.n_p3
 have x_wait:=hn.n_wait
 have x_e0:=hn.n_e0
 have x_e1:=hn.n_e1
 have x_l0:=hn.n_l0
 have x_l1:=hn.n_l1
 have x_b0:=hn.n_b0
 have x_b1:=hn.n_b1
 go_enter Tryz.func327,Tryz.ntmps327
 go_wp2
 go_ret2
 exact ⟨rfl,rfl⟩
structure Near (w:World) where
 wx:World
 near:Below w.heap.size w wx
theorem zbF {P:Program} {id:Nat} {Q:Exit→Act→World→Prop} {a:Act} {w:World} {l:List Oper} (hm:P.follows .mixedOrders=true) (hB:Region.lexB .any l.toArray=true)
  (h:wpQuiet P l.toArray (fun w'=>∃ p:Near w,w'=p.wx) (fun a'=>∀ w',(∃ p:Near w,w'=p.wx)→Q .normal a' w') l a):(Code.region id l.toArray true).wp P Q a w :=
 wp_region_quiet (C:=fun w'=>∃ p:Near w,w'=p.wx) hm hB ⟨⟨w.drew,(Below.refl _ _).drew⟩,rfl⟩ (by simpa using h)
theorem zaV {P:Program} {f:FuncId} {args:Array Value} {w:World} {p:Near w} {v:Value} (h:Calls P f args p.wx fun e w'=>e=.returned v∧Below p.wx.heap.size p.wx w') :
  Calls P f args p.wx fun e w''=>e=.returned v∧∃ p:Near w,w''=p.wx :=
 h.mono fun _ _ ⟨he,hb⟩=>⟨he,⟨_,zad p.near (Nat.le_refl _) hb⟩,rfl⟩
theorem zbn {P:Program} {a:Act} {C:World→Prop} {o:Oper} {K:Act→Prop} (r:Value) (hrun:∀ w,C w→(execOp a.eval o).run P w=.ok (.value r) w) (hk:K (a.put o.dst r)):o.quiet P a C K :=
 ⟨r,fun w hw=>by unfold Oper.quietAt;rw [hrun w hw];exact ⟨rfl,rfl⟩,hk⟩
theorem za6 {P:Program} {ρ:Operand→Value} {o:Oper} {t:TypeId} {p:Operand} (ho:o.op=.load t p) {v r:Value} {w:World} (hrun:(Instr.loadAt t v).run P w=.ok r w) (hp:ρ p=v):(execOp ρ o).run P w=.ok (.value r) w:=by
 unfold execOp
 simp [ho,hp,hrun,Result.andThen]
theorem zgC {w:World} {ops:Array Oper} {rest:List Oper} {o:Oper} {a:Act} {Q:Exit→Act→World→Prop} (hgd:Region.wanted o (yielded ops a.tmps)=true) {r:Value} (hrun:(execOp a.eval o).run Tryz.prog w=.ok (.value r) w)
  (h:wpList Tryz.prog ops Q rest (a.put o.dst r) w):wpList Tryz.prog ops Q (o :: rest) a w:=by
 refine wpList_step fun K hK=>?_
 rw [if_pos hgd]
 unfold Oper.wp
 rw [hrun]
 exact hK _ _ h
theorem zbV {w:World} {b:Nat} {h:Pl} (k:Box w b h) (w':World) (hw:∃ p:Near w,w'=p.wx):(Instr.loadAt 33 (.pointer (some ⟨b,0,none⟩))).run Tryz.prog w'=.ok (plV h) w':=by
 obtain ⟨p,rfl⟩:=hw
 exact (k.next p.near).load
theorem zng {w:World} {b:Nat} {h:Pl} (k:Box w b h) (w':World) (hw:∃ p:Near w,w'=p.wx):(Instr.loadAt 29 (.pointer (some ⟨b,4,none⟩))).run Tryz.prog w'=.ok (.int .u32 h.e0) w':=by
 obtain ⟨p,rfl⟩:=hw
 exact (k.next p.near).load_e0
theorem zlp {w:World} {b:Nat} {h:Pl} (k:Box w b h) (w':World) (hw:∃ p:Near w,w'=p.wx):(Instr.loadAt 29 (.pointer (some ⟨b,5,none⟩))).run Tryz.prog w'=.ok (.int .u32 h.e1) w':=by
 obtain ⟨p,rfl⟩:=hw
 exact (k.next p.near).load_e1
theorem ztq {w:World} {b:Nat} {h:Pl} (k:Box w b h) (w':World) (hw:∃ p:Near w,w'=p.wx):(Instr.loadAt 29 (.pointer (some ⟨b,6,none⟩))).run Tryz.prog w'=.ok (.int .u32 h.l0) w':=by
 obtain ⟨p,rfl⟩:=hw
 exact (k.next p.near).load_l0
theorem zrI {w:World} {b:Nat} {h:Pl} (k:Box w b h) (w':World) (hw:∃ p:Near w,w'=p.wx):(Instr.loadAt 29 (.pointer (some ⟨b,7,none⟩))).run Tryz.prog w'=.ok (.int .u32 h.l1) w':=by
 obtain ⟨p,rfl⟩:=hw
 exact (k.next p.near).load_l1
theorem zh6 (x:Int):bits .and .u32 x 0=0:=by
 apply zdP _ _ (zgk _ _) zfO
 intro i _
 rw [zdM,zdF]
 simp
def za3 (m:Bool) (k q:Int) (x:Int × Int):Int × Int:=if (m && decide (x.2<q))=true then (k,q) else x
def onB (h:Pl) (s e:Int) (k:Nat):Bool:=bitT (bits .and .u32 (zbx s h.c) e) k
def stB (h:Pl) (s e l:Int):Nat→Int × Int
 | 0=>(0,l)
 | 1=>(0,l)
 | 2=>za3 (onB h s e 1) 1 h.p1 (0,l)
 | 3=>za3 (onB h s e 2) 2 h.p2 (za3 (onB h s e 1) 1 h.p1 (0,l))
 | _=>za3 (onB h s e 3) 3 h.p3 (za3 (onB h s e 2) 2 h.p2 (za3 (onB h s e 1) 1 h.p1 (0,l)))
theorem zeS (m:Bool) (k q b t:Int) (hm:m=true) (h:t<q):za3 m k q (b,t)=(k,q):=by unfold za3;simp [hm,h]
theorem zeF (m:Bool) (k q b t:Int) (hm:m=false):za3 m k q (b,t)=(b,t):=by unfold za3;simp [hm]
theorem zeD (m:Bool) (k q b t:Int) (h:¬ t<q):za3 m k q (b,t)=(b,t):=by unfold za3;simp [h]
def zaM (h:Pl) (s who:Int):Int:=if who=0 then (stB h s h.e0 h.l0 4).1 else if who=1 then (stB h s h.e1 h.l1 4).1 else 0
theorem zlu (h:Pl) (s:Int) (W:World):TB 99 #[plV h,.int .u32 s,.int .i64 0] W (.int .i64 (stB h s h.e0 h.l0 4).1):=by
 have a1:=hid (zeA (bits .and .u32 (zbx s h.c) h.e0) 1 (by omega))
 have a2:=hid (zeA (bits .and .u32 (zbx s h.c) h.e0) 2 (by omega))
 have a3:=hid (zeA (bits .and .u32 (zbx s h.c) h.e0) 3 (by omega))
 have i0:∀ w:World,(Instr.index 30 (.agg #[.int .u32 h.p0,.int .u32 h.p1,.int .u32 h.p2,.int .u32 h.p3]) (.int .i64 0)).run Tryz.prog w=.ok (.int .u32 h.p0) w:=fun _=>by kernel_rfl
 have i1:∀ w:World,(Instr.index 30 (.agg #[.int .u32 h.p0,.int .u32 h.p1,.int .u32 h.p2,.int .u32 h.p3]) (.int .i64 1)).run Tryz.prog w=.ok (.int .u32 h.p1) w:=fun _=>by kernel_rfl
 have i2:∀ w:World,(Instr.index 30 (.agg #[.int .u32 h.p0,.int .u32 h.p1,.int .u32 h.p2,.int .u32 h.p3]) (.int .i64 2)).run Tryz.prog w=.ok (.int .u32 h.p2) w:=fun _=>by kernel_rfl
 have i3:∀ w:World,(Instr.index 30 (.agg #[.int .u32 h.p0,.int .u32 h.p1,.int .u32 h.p2,.int .u32 h.p3]) (.int .i64 3)).run Tryz.prog w=.ok (.int .u32 h.p3) w:=fun _=>by kernel_rfl
 go_enter Tryz.func99,Tryz.ntmps99
 go_upto_region 3 with (fail)
 have X0:=hid (Box.new W h)
 have B0:=hid (show Below W.heap.size W (W.alloc (plO h)) from (Below.refl _ _).alloc (Nat.le_refl _) _)
 generalize W.alloc (plO h)=w0 at *
 have hne:Nonempty (Near w0):=⟨⟨w0,Below.refl _ _⟩⟩
 refine zbF (by kernel_rfl) (by kernel_rfl) ?_
 repeat (first | (go_big_quiet_want;(with_reducible refine zbn _ (fun w hw=>za6 (t:=33) rfl (zbV X0.out w hw) rfl) ?_);simp only [Act.put,List.setIfInBounds_toArray,List.set_cons_zero,List.set_cons_succ];go_big_quiet_on) | (go_big_quiet_want;(with_reducible refine zbn _ (fun w hw=>za6 (t:=29) rfl (zng X0.out w hw) rfl) ?_);simp only [Act.put,List.setIfInBounds_toArray,List.set_cons_zero,List.set_cons_succ];go_big_quiet_on) | go_big_quiet_step (first | (go_at_call 135;exact zaV (zha h s _)) | fail))
 refine wpQuiet_nil ?_
 rintro _ ⟨pn,rfl⟩
 have X1:=hid (X0.out.next pn.near)
 have B1:=hid (zad B0.out (Nat.le_refl _) pn.near)
 clear X0 B0 hne
 generalize pn.wx=w1 at *
 go_upto_region 4 with (fail)
 have hne:Nonempty (Near w1):=⟨⟨w1,Below.refl _ _⟩⟩
 refine zbF (by kernel_rfl) (by kernel_rfl) ?_
 repeat (first | (go_big_quiet_want;(with_reducible refine zbn _ (fun w hw=>za6 (t:=29) rfl (ztq X1.out w hw) rfl) ?_);simp only [Act.put,List.setIfInBounds_toArray,List.set_cons_zero,List.set_cons_succ];go_big_quiet_on) | go_big_quiet_step (first | fail | fail))
 refine wpQuiet_nil ?_
 rintro _ ⟨pn,rfl⟩
 have X2:=hid (X1.out.next pn.near)
 have B2:=hid (zad B1.out (by have:=B1.out.size;omega) pn.near)
 clear X1 B1 hne
 generalize pn.wx=w2 at *
 go_wp2_with (first | (with_reducible refine zaa rfl rfl (Box.load_prio X2.out) rfl ?_) | fail)
 go_loopw [8,9,32] (fun b t i wr=>∃ (k:Nat) (x:Int × Int),k≤4∧i=.int .i64 k∧b=.int .i64 x.1∧t=.int .u32 x.2∧Hid (stB h s h.e0 h.l0 k=x)∧Hid (w2=wr)) (fun _ _ i _=>4 - (intOf i).toNat)
 case atStart=>exact ⟨0,_,by omega,rfl,rfl,rfl,hid rfl,hid rfl⟩
 case round =>
  obtain ⟨k,⟨b,t⟩,hk,rfl,rfl,rfl,HN,HW⟩:=hrel
  cases HW.out
  clear HW
  match k,hk,HN with
  | 0,_,HN =>
   have hz:(bits .and .u32 (bits .and .u32 (zbx s h.c) h.e0) 0 != 0)=false:=by rw [zh6];rfl
   have HS:Hid (stB h s h.e0 h.l0 1=(b,t)):=hid (HN.out)
   go_wp2_with (first | (go_at_call 136;(with_reducible refine (zet _).mono ?_);rintro e w' ⟨rfl,rfl⟩) | fail)
   go_round
   case rel=>exact ⟨1,_,by omega,rfl,rfl,rfl,HS,hid (by trivial)⟩
   case measure=>simp [intOf]
  | 1,_,HN =>
   rcases Bool.eq_false_or_eq_true (onB h s h.e0 1) with hm | hm
   ·have hz:(bits .and .u32 (bits .and .u32 (zbx s h.c) h.e0) 2 != 0)=true:=a1.out.trans hm
    by_cases ht:t<h.p1
    ·have HS:Hid (stB h s h.e0 h.l0 2=(1,h.p1)):=hid (by show za3 (onB h s h.e0 1) 1 h.p1 (stB h s h.e0 h.l0 1)=_;rw [HN.out];exact zeS _ _ _ _ _ hm ht)
     go_wp2_with (first | (go_at_call 136;(with_reducible refine (zdk _).mono ?_);rintro e w' ⟨rfl,rfl⟩) | fail)
     go_round
     case rel=>exact ⟨2,_,by omega,rfl,rfl,rfl,HS,hid (by trivial)⟩
     case measure=>simp [intOf]
    ·have HS:Hid (stB h s h.e0 h.l0 2=(b,t)):=hid (by show za3 (onB h s h.e0 1) 1 h.p1 (stB h s h.e0 h.l0 1)=_;rw [HN.out];exact zeD _ _ _ _ _ ht)
     go_wp2_with (first | (go_at_call 136;(with_reducible refine (zdk _).mono ?_);rintro e w' ⟨rfl,rfl⟩) | fail)
     go_round
     case rel=>exact ⟨2,_,by omega,rfl,rfl,rfl,HS,hid (by trivial)⟩
     case measure=>simp [intOf]
   ·have hz:(bits .and .u32 (bits .and .u32 (zbx s h.c) h.e0) 2 != 0)=false:=a1.out.trans hm
    have HS:Hid (stB h s h.e0 h.l0 2=(b,t)):=hid (by show za3 (onB h s h.e0 1) 1 h.p1 (stB h s h.e0 h.l0 1)=_;rw [HN.out];exact zeF _ _ _ _ _ hm)
    go_wp2_with (first | (go_at_call 136;(with_reducible refine (zdk _).mono ?_);rintro e w' ⟨rfl,rfl⟩) | fail)
    go_round
    case rel=>exact ⟨2,_,by omega,rfl,rfl,rfl,HS,hid (by trivial)⟩
    case measure=>simp [intOf]
  | 2,_,HN =>
   rcases Bool.eq_false_or_eq_true (onB h s h.e0 2) with hm | hm
   ·have hz:(bits .and .u32 (bits .and .u32 (zbx s h.c) h.e0) 4 != 0)=true:=a2.out.trans hm
    by_cases ht:t<h.p2
    ·have HS:Hid (stB h s h.e0 h.l0 3=(2,h.p2)):=hid (by show za3 (onB h s h.e0 2) 2 h.p2 (stB h s h.e0 h.l0 2)=_;rw [HN.out];exact zeS _ _ _ _ _ hm ht)
     go_wp2_with (first | (go_at_call 136;(with_reducible refine (zdo _).mono ?_);rintro e w' ⟨rfl,rfl⟩) | fail)
     go_round
     case rel=>exact ⟨3,_,by omega,rfl,rfl,rfl,HS,hid (by trivial)⟩
     case measure=>simp [intOf]
    ·have HS:Hid (stB h s h.e0 h.l0 3=(b,t)):=hid (by show za3 (onB h s h.e0 2) 2 h.p2 (stB h s h.e0 h.l0 2)=_;rw [HN.out];exact zeD _ _ _ _ _ ht)
     go_wp2_with (first | (go_at_call 136;(with_reducible refine (zdo _).mono ?_);rintro e w' ⟨rfl,rfl⟩) | fail)
     go_round
     case rel=>exact ⟨3,_,by omega,rfl,rfl,rfl,HS,hid (by trivial)⟩
     case measure=>simp [intOf]
   ·have hz:(bits .and .u32 (bits .and .u32 (zbx s h.c) h.e0) 4 != 0)=false:=a2.out.trans hm
    have HS:Hid (stB h s h.e0 h.l0 3=(b,t)):=hid (by show za3 (onB h s h.e0 2) 2 h.p2 (stB h s h.e0 h.l0 2)=_;rw [HN.out];exact zeF _ _ _ _ _ hm)
    go_wp2_with (first | (go_at_call 136;(with_reducible refine (zdo _).mono ?_);rintro e w' ⟨rfl,rfl⟩) | fail)
    go_round
    case rel=>exact ⟨3,_,by omega,rfl,rfl,rfl,HS,hid (by trivial)⟩
    case measure=>simp [intOf]
  | 3,_,HN =>
   rcases Bool.eq_false_or_eq_true (onB h s h.e0 3) with hm | hm
   ·have hz:(bits .and .u32 (bits .and .u32 (zbx s h.c) h.e0) 8 != 0)=true:=a3.out.trans hm
    by_cases ht:t<h.p3
    ·have HS:Hid (stB h s h.e0 h.l0 4=(3,h.p3)):=hid (by show za3 (onB h s h.e0 3) 3 h.p3 (stB h s h.e0 h.l0 3)=_;rw [HN.out];exact zeS _ _ _ _ _ hm ht)
     go_wp2_with (first | (go_at_call 136;(with_reducible refine (zdp _).mono ?_);rintro e w' ⟨rfl,rfl⟩) | fail)
     go_round
     case rel=>exact ⟨4,_,by omega,rfl,rfl,rfl,HS,hid (by trivial)⟩
     case measure=>simp [intOf]
    ·have HS:Hid (stB h s h.e0 h.l0 4=(b,t)):=hid (by show za3 (onB h s h.e0 3) 3 h.p3 (stB h s h.e0 h.l0 3)=_;rw [HN.out];exact zeD _ _ _ _ _ ht)
     go_wp2_with (first | (go_at_call 136;(with_reducible refine (zdp _).mono ?_);rintro e w' ⟨rfl,rfl⟩) | fail)
     go_round
     case rel=>exact ⟨4,_,by omega,rfl,rfl,rfl,HS,hid (by trivial)⟩
     case measure=>simp [intOf]
   ·have hz:(bits .and .u32 (bits .and .u32 (zbx s h.c) h.e0) 8 != 0)=false:=a3.out.trans hm
    have HS:Hid (stB h s h.e0 h.l0 4=(b,t)):=hid (by show za3 (onB h s h.e0 3) 3 h.p3 (stB h s h.e0 h.l0 3)=_;rw [HN.out];exact zeF _ _ _ _ _ hm)
    go_wp2_with (first | (go_at_call 136;(with_reducible refine (zdp _).mono ?_);rintro e w' ⟨rfl,rfl⟩) | fail)
    go_round
    case rel=>exact ⟨4,_,by omega,rfl,rfl,rfl,HS,hid (by trivial)⟩
    case measure=>simp [intOf]
  | 4,_,HN =>
   have HE:Hid ((stB h s h.e0 h.l0 4).1=b):=hid (by rw [HN.out])
   go_wp2_with fail
   go_ret
   exact ⟨zah HE.out.symm,B2.out⟩
theorem zwV (h:Pl) (s:Int) (W:World):TB 99 #[plV h,.int .u32 s,.int .i64 1] W (.int .i64 (stB h s h.e1 h.l1 4).1):=by
 have a1:=hid (zeA (bits .and .u32 (zbx s h.c) h.e1) 1 (by omega))
 have a2:=hid (zeA (bits .and .u32 (zbx s h.c) h.e1) 2 (by omega))
 have a3:=hid (zeA (bits .and .u32 (zbx s h.c) h.e1) 3 (by omega))
 have i0:∀ w:World,(Instr.index 30 (.agg #[.int .u32 h.p0,.int .u32 h.p1,.int .u32 h.p2,.int .u32 h.p3]) (.int .i64 0)).run Tryz.prog w=.ok (.int .u32 h.p0) w:=fun _=>by kernel_rfl
 have i1:∀ w:World,(Instr.index 30 (.agg #[.int .u32 h.p0,.int .u32 h.p1,.int .u32 h.p2,.int .u32 h.p3]) (.int .i64 1)).run Tryz.prog w=.ok (.int .u32 h.p1) w:=fun _=>by kernel_rfl
 have i2:∀ w:World,(Instr.index 30 (.agg #[.int .u32 h.p0,.int .u32 h.p1,.int .u32 h.p2,.int .u32 h.p3]) (.int .i64 2)).run Tryz.prog w=.ok (.int .u32 h.p2) w:=fun _=>by kernel_rfl
 have i3:∀ w:World,(Instr.index 30 (.agg #[.int .u32 h.p0,.int .u32 h.p1,.int .u32 h.p2,.int .u32 h.p3]) (.int .i64 3)).run Tryz.prog w=.ok (.int .u32 h.p3) w:=fun _=>by kernel_rfl
 go_enter Tryz.func99,Tryz.ntmps99
 go_upto_region 3 with (fail)
 have X0:=hid (Box.new W h)
 have B0:=hid (show Below W.heap.size W (W.alloc (plO h)) from (Below.refl _ _).alloc (Nat.le_refl _) _)
 generalize W.alloc (plO h)=w0 at *
 have hne:Nonempty (Near w0):=⟨⟨w0,Below.refl _ _⟩⟩
 refine zbF (by kernel_rfl) (by kernel_rfl) ?_
 repeat (first | (go_big_quiet_want;(with_reducible refine zbn _ (fun w hw=>za6 (t:=33) rfl (zbV X0.out w hw) rfl) ?_);simp only [Act.put,List.setIfInBounds_toArray,List.set_cons_zero,List.set_cons_succ];go_big_quiet_on) | (go_big_quiet_want;(with_reducible refine zbn _ (fun w hw=>za6 (t:=29) rfl (zlp X0.out w hw) rfl) ?_);simp only [Act.put,List.setIfInBounds_toArray,List.set_cons_zero,List.set_cons_succ];go_big_quiet_on) | go_big_quiet_step (first | (go_at_call 135;exact zaV (zha h s _)) | fail))
 refine wpQuiet_nil ?_
 rintro _ ⟨pn,rfl⟩
 have X1:=hid (X0.out.next pn.near)
 have B1:=hid (zad B0.out (Nat.le_refl _) pn.near)
 clear X0 B0 hne
 generalize pn.wx=w1 at *
 go_upto_region 4 with (fail)
 have hne:Nonempty (Near w1):=⟨⟨w1,Below.refl _ _⟩⟩
 refine zbF (by kernel_rfl) (by kernel_rfl) ?_
 repeat (first | (go_big_quiet_want;(with_reducible refine zbn _ (fun w hw=>za6 (t:=29) rfl (zrI X1.out w hw) rfl) ?_);simp only [Act.put,List.setIfInBounds_toArray,List.set_cons_zero,List.set_cons_succ];go_big_quiet_on) | go_big_quiet_step (first | fail | fail))
 refine wpQuiet_nil ?_
 rintro _ ⟨pn,rfl⟩
 have X2:=hid (X1.out.next pn.near)
 have B2:=hid (zad B1.out (by have:=B1.out.size;omega) pn.near)
 clear X1 B1 hne
 generalize pn.wx=w2 at *
 go_wp2_with (first | (with_reducible refine zaa rfl rfl (Box.load_prio X2.out) rfl ?_) | fail)
 go_loopw [8,9,32] (fun b t i wr=>∃ (k:Nat) (x:Int × Int),k≤4∧i=.int .i64 k∧b=.int .i64 x.1∧t=.int .u32 x.2∧Hid (stB h s h.e1 h.l1 k=x)∧Hid (w2=wr)) (fun _ _ i _=>4 - (intOf i).toNat)
 case atStart=>exact ⟨0,_,by omega,rfl,rfl,rfl,hid rfl,hid rfl⟩
 case round =>
  obtain ⟨k,⟨b,t⟩,hk,rfl,rfl,rfl,HN,HW⟩:=hrel
  cases HW.out
  clear HW
  match k,hk,HN with
  | 0,_,HN =>
   have hz:(bits .and .u32 (bits .and .u32 (zbx s h.c) h.e1) 0 != 0)=false:=by rw [zh6];rfl
   have HS:Hid (stB h s h.e1 h.l1 1=(b,t)):=hid (HN.out)
   go_wp2_with (first | (go_at_call 136;(with_reducible refine (zet _).mono ?_);rintro e w' ⟨rfl,rfl⟩) | fail)
   go_round
   case rel=>exact ⟨1,_,by omega,rfl,rfl,rfl,HS,hid (by trivial)⟩
   case measure=>simp [intOf]
  | 1,_,HN =>
   rcases Bool.eq_false_or_eq_true (onB h s h.e1 1) with hm | hm
   ·have hz:(bits .and .u32 (bits .and .u32 (zbx s h.c) h.e1) 2 != 0)=true:=a1.out.trans hm
    by_cases ht:t<h.p1
    ·have HS:Hid (stB h s h.e1 h.l1 2=(1,h.p1)):=hid (by show za3 (onB h s h.e1 1) 1 h.p1 (stB h s h.e1 h.l1 1)=_;rw [HN.out];exact zeS _ _ _ _ _ hm ht)
     go_wp2_with (first | (go_at_call 136;(with_reducible refine (zdk _).mono ?_);rintro e w' ⟨rfl,rfl⟩) | fail)
     go_round
     case rel=>exact ⟨2,_,by omega,rfl,rfl,rfl,HS,hid (by trivial)⟩
     case measure=>simp [intOf]
    ·have HS:Hid (stB h s h.e1 h.l1 2=(b,t)):=hid (by show za3 (onB h s h.e1 1) 1 h.p1 (stB h s h.e1 h.l1 1)=_;rw [HN.out];exact zeD _ _ _ _ _ ht)
     go_wp2_with (first | (go_at_call 136;(with_reducible refine (zdk _).mono ?_);rintro e w' ⟨rfl,rfl⟩) | fail)
     go_round
     case rel=>exact ⟨2,_,by omega,rfl,rfl,rfl,HS,hid (by trivial)⟩
     case measure=>simp [intOf]
   ·have hz:(bits .and .u32 (bits .and .u32 (zbx s h.c) h.e1) 2 != 0)=false:=a1.out.trans hm
    have HS:Hid (stB h s h.e1 h.l1 2=(b,t)):=hid (by show za3 (onB h s h.e1 1) 1 h.p1 (stB h s h.e1 h.l1 1)=_;rw [HN.out];exact zeF _ _ _ _ _ hm)
    go_wp2_with (first | (go_at_call 136;(with_reducible refine (zdk _).mono ?_);rintro e w' ⟨rfl,rfl⟩) | fail)
    go_round
    case rel=>exact ⟨2,_,by omega,rfl,rfl,rfl,HS,hid (by trivial)⟩
    case measure=>simp [intOf]
  | 2,_,HN =>
   rcases Bool.eq_false_or_eq_true (onB h s h.e1 2) with hm | hm
   ·have hz:(bits .and .u32 (bits .and .u32 (zbx s h.c) h.e1) 4 != 0)=true:=a2.out.trans hm
    by_cases ht:t<h.p2
    ·have HS:Hid (stB h s h.e1 h.l1 3=(2,h.p2)):=hid (by show za3 (onB h s h.e1 2) 2 h.p2 (stB h s h.e1 h.l1 2)=_;rw [HN.out];exact zeS _ _ _ _ _ hm ht)
     go_wp2_with (first | (go_at_call 136;(with_reducible refine (zdo _).mono ?_);rintro e w' ⟨rfl,rfl⟩) | fail)
     go_round
     case rel=>exact ⟨3,_,by omega,rfl,rfl,rfl,HS,hid (by trivial)⟩
     case measure=>simp [intOf]
    ·have HS:Hid (stB h s h.e1 h.l1 3=(b,t)):=hid (by show za3 (onB h s h.e1 2) 2 h.p2 (stB h s h.e1 h.l1 2)=_;rw [HN.out];exact zeD _ _ _ _ _ ht)
     go_wp2_with (first | (go_at_call 136;(with_reducible refine (zdo _).mono ?_);rintro e w' ⟨rfl,rfl⟩) | fail)
     go_round
     case rel=>exact ⟨3,_,by omega,rfl,rfl,rfl,HS,hid (by trivial)⟩
     case measure=>simp [intOf]
   ·have hz:(bits .and .u32 (bits .and .u32 (zbx s h.c) h.e1) 4 != 0)=false:=a2.out.trans hm
    have HS:Hid (stB h s h.e1 h.l1 3=(b,t)):=hid (by show za3 (onB h s h.e1 2) 2 h.p2 (stB h s h.e1 h.l1 2)=_;rw [HN.out];exact zeF _ _ _ _ _ hm)
    go_wp2_with (first | (go_at_call 136;(with_reducible refine (zdo _).mono ?_);rintro e w' ⟨rfl,rfl⟩) | fail)
    go_round
    case rel=>exact ⟨3,_,by omega,rfl,rfl,rfl,HS,hid (by trivial)⟩
    case measure=>simp [intOf]
  | 3,_,HN =>
   rcases Bool.eq_false_or_eq_true (onB h s h.e1 3) with hm | hm
   ·have hz:(bits .and .u32 (bits .and .u32 (zbx s h.c) h.e1) 8 != 0)=true:=a3.out.trans hm
    by_cases ht:t<h.p3
    ·have HS:Hid (stB h s h.e1 h.l1 4=(3,h.p3)):=hid (by show za3 (onB h s h.e1 3) 3 h.p3 (stB h s h.e1 h.l1 3)=_;rw [HN.out];exact zeS _ _ _ _ _ hm ht)
     go_wp2_with (first | (go_at_call 136;(with_reducible refine (zdp _).mono ?_);rintro e w' ⟨rfl,rfl⟩) | fail)
     go_round
     case rel=>exact ⟨4,_,by omega,rfl,rfl,rfl,HS,hid (by trivial)⟩
     case measure=>simp [intOf]
    ·have HS:Hid (stB h s h.e1 h.l1 4=(b,t)):=hid (by show za3 (onB h s h.e1 3) 3 h.p3 (stB h s h.e1 h.l1 3)=_;rw [HN.out];exact zeD _ _ _ _ _ ht)
     go_wp2_with (first | (go_at_call 136;(with_reducible refine (zdp _).mono ?_);rintro e w' ⟨rfl,rfl⟩) | fail)
     go_round
     case rel=>exact ⟨4,_,by omega,rfl,rfl,rfl,HS,hid (by trivial)⟩
     case measure=>simp [intOf]
   ·have hz:(bits .and .u32 (bits .and .u32 (zbx s h.c) h.e1) 8 != 0)=false:=a3.out.trans hm
    have HS:Hid (stB h s h.e1 h.l1 4=(b,t)):=hid (by show za3 (onB h s h.e1 3) 3 h.p3 (stB h s h.e1 h.l1 3)=_;rw [HN.out];exact zeF _ _ _ _ _ hm)
    go_wp2_with (first | (go_at_call 136;(with_reducible refine (zdp _).mono ?_);rintro e w' ⟨rfl,rfl⟩) | fail)
    go_round
    case rel=>exact ⟨4,_,by omega,rfl,rfl,rfl,HS,hid (by trivial)⟩
    case measure=>simp [intOf]
  | 4,_,HN =>
   have HE:Hid ((stB h s h.e1 h.l1 4).1=b):=hid (by rw [HN.out])
   go_wp2_with fail
   go_ret
   exact ⟨zah HE.out.symm,B2.out⟩
theorem zry (h:Pl) (s who:Int) (h0:(who != 0)=true) (h1:(who != 1)=true) (W:World):TB 99 #[plV h,.int .u32 s,.int .i64 who] W (.int .i64 0):=by
 go_enter Tryz.func99,Tryz.ntmps99
 go_wp2
 go_ret
 exact ⟨rfl,(Below.refl _ _).alloc (Nat.le_refl _) _⟩
theorem zcl (h:Pl) (s who:Int) (W:World):TB 99 #[plV h,.int .u32 s,.int .i64 who] W (.int .i64 (zaM h s who)):=by
 unfold zaM
 split
 ·rename_i hw
  subst hw
  exact zlu h s W
 ·split
  ·rename_i _ hw
   subst hw
   exact zwV h s W
  ·rename_i h0 h1
   exact zry h s who (by simpa using h0) (by simpa using h1) W
end Go.Proofs.YtmjjpgaeboaamaaGreatDoor.Pc
