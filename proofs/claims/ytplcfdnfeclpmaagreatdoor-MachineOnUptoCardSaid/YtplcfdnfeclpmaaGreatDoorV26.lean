/- MachineOn, part 26. -/
import Derived.Test.YtplcfdnfeclpmaaGreatDoorV07
set_option maxHeartbeats 4000000
set_option maxRecDepth 100000
open Go.Lib (hid)
open Go Go.RowKit Go.Deep Go.Joins Go.Proofs.Tryz
namespace Go.Proofs.YtplcfdnfeclpmaaGreatDoor.Tr
abbrev zbf (h:Hart):Obj:=.cells (zai h) 27
theorem zyK (h g:Hart) (k:Nat) (v:Value) (hx:xL g=xL h) (ht:zbA g=(zbA h).set k v):(zai h).setIfInBounds (32+k) v=zai g:=by
 unfold zai zby;rw [List.setIfInBounds_toArray,List.set_append_right _ _ (by rw [zdS];omega),zdS,hx,ht]
 congr 4
 omega
theorem zcU:(Tryz.prog.info? 27).map (·.size)=some 52:=by kernel_rfl
theorem zkt:(Tryz.prog.info? 23).map (·.size)=some 32:=by kernel_rfl
theorem zc2:(Tryz.prog.info? 25).map (·.size)=some 16:=by kernel_rfl
theorem zbX:(Tryz.prog.info? 22).map (·.size)=some 1:=by kernel_rfl
theorem zhD:(Tryz.prog.info? 3).map (·.size)=some 1:=by kernel_rfl
theorem zev:(Tryz.prog.info? 4).map (·.size)=some 1:=by kernel_rfl
end Go.Proofs.YtplcfdnfeclpmaaGreatDoor.Tr
namespace Go.Proofs.YtplcfdnfeclpmaaGreatDoor.Tr
def Box (w:World) (b:Nat) (h:Hart):Prop:=w.heap[b]?=some (zbf h)
theorem Box.lt {w:World} {b:Nat} {h:Hart} (k:Box w b h):b<w.heap.size:=(Array.getElem?_eq_some_iff.1 k).1
theorem Box.next {w w':World} {b:Nat} {h:Hart} (k:Box w b h) (j:Below w.heap.size w w'):Box w' b h:=(j.block b k.lt).trans k
theorem Box.alloc {w:World} {b:Nat} {h:Hart} (k:Box w b h) (o:Obj):Box (w.alloc o) b h:=k.next ((Below.refl _ _).alloc (Nat.le_refl _) o)
theorem Box.new (w:World) (h:Hart):Box (w.alloc (zbf h)) w.heap.size h:=heap_alloc_last w _
theorem Box.over {w:World} {b g:Nat} {h:Hart} (k:Box w b h) (hg:b≠g) (cs:Array Value):Box (w.setRow g cs) b h:=(setRow_other w g b cs hg).trans k
theorem Box.mine {w:World} {g:Nat} {old:Array Value} (k:w.heap[g]?=some (.cells old 27 (0,0))) (h:Hart):Box (w.setRow g (zai h)) g h:=setRow_heap w g old (zai h) 27 (0,0) k
theorem Box.load {w:World} {b:Nat} {h:Hart} (k:Box w b h):(Instr.loadAt 27 (.pointer (some ⟨b,0,none⟩))).run Tryz.prog w=.ok (zat h) w:=by
 simp only [Instr.loadAt,Instr.sureAddr,Sem.run_bind,Sem.run_pure,Result.andThen];exact run_loadVar_row w b 27 27 (zai h) (0,0) _ k underlying27 rfl (by rw [zcU,zcn])
theorem Box.result {w:World} {b:Nat} {h:Hart} (k:Box w b h):(loadVar 27 ⟨b,0,none⟩).run Tryz.prog w=.ok (zat h) w :=
 run_loadVar_row w b 27 27 (zai h) (0,0) _ k underlying27 rfl (by rw [zcU,zcn])
theorem Box.load_c {w:World} {b:Nat} {h:Hart} (k:Box w b h):(Instr.loadAt 25 (.pointer (some ⟨b,34,none⟩))).run Tryz.prog w=.ok (regV h.c) w :=
 zd2 w b 34 27 25 (zai h) [.int .u64 h.c.s0,.int .u64 h.c.s1,.int .u64 h.c.s2,.int .u64 h.c.s3,.int .u64 h.c.s4,.int .u64 h.c.s5,.int .u64 h.c.s6,.int .u64 h.c.s7,.int .u64 h.c.s8,.int .u64 h.c.s9,.int .u64 h.c.s10,.int .u64 h.c.s11,.int .u64 h.c.s12,.int .u64 h.c.s13,.int .u64 h.c.s14,.int .u64 h.c.s15] _ k underlying25 rfl (by rw [zc2];rfl) fun j v hv=>by
  rw [show 34+j=32+(2+j) from by omega,zas]
  match j,hv with
  | 0,hv=>exact hv
  | 1,hv=>exact hv
  | 2,hv=>exact hv
  | 3,hv=>exact hv
  | 4,hv=>exact hv
  | 5,hv=>exact hv
  | 6,hv=>exact hv
  | 7,hv=>exact hv
  | 8,hv=>exact hv
  | 9,hv=>exact hv
  | 10,hv=>exact hv
  | 11,hv=>exact hv
  | 12,hv=>exact hv
  | 13,hv=>exact hv
  | 14,hv=>exact hv
  | 15,hv=>exact hv
  | j+16,hv=>simp at hv
theorem Box.load_pc {w:World} {b:Nat} {h:Hart} (k:Box w b h):(Instr.loadAt 22 (.pointer (some ⟨b,32,none⟩))).run Tryz.prog w=.ok (.int .u64 h.pc) w :=
 za0 w b 32 22 27 (zai h) _ _ k underlying22 rfl (zas h 0)
theorem Box.load_mode {w:World} {b:Nat} {h:Hart} (k:Box w b h):(Instr.loadAt 3 (.pointer (some ⟨b,33,none⟩))).run Tryz.prog w=.ok (.int .i64 h.mode) w :=
 za0 w b 33 3 27 (zai h) _ _ k underlying3 rfl (zas h 1)
theorem Box.load_c_s0 {w:World} {b:Nat} {h:Hart} (k:Box w b h):(Instr.loadAt 22 (.pointer (some ⟨b,34,none⟩))).run Tryz.prog w=.ok (.int .u64 h.c.s0) w :=
 za0 w b 34 22 27 (zai h) _ _ k underlying22 rfl (zas h 2)
theorem Box.load_c_s5 {w:World} {b:Nat} {h:Hart} (k:Box w b h):(Instr.loadAt 22 (.pointer (some ⟨b,39,none⟩))).run Tryz.prog w=.ok (.int .u64 h.c.s5) w :=
 za0 w b 39 22 27 (zai h) _ _ k underlying22 rfl (zas h 7)
theorem Box.load_c_s7 {w:World} {b:Nat} {h:Hart} (k:Box w b h):(Instr.loadAt 22 (.pointer (some ⟨b,41,none⟩))).run Tryz.prog w=.ok (.int .u64 h.c.s7) w :=
 za0 w b 41 22 27 (zai h) _ _ k underlying22 rfl (zas h 9)
theorem Box.load_c_s10 {w:World} {b:Nat} {h:Hart} (k:Box w b h):(Instr.loadAt 22 (.pointer (some ⟨b,44,none⟩))).run Tryz.prog w=.ok (.int .u64 h.c.s10) w :=
 za0 w b 44 22 27 (zai h) _ _ k underlying22 rfl (zas h 12)
theorem Box.load_c_s12 {w:World} {b:Nat} {h:Hart} (k:Box w b h):(Instr.loadAt 22 (.pointer (some ⟨b,46,none⟩))).run Tryz.prog w=.ok (.int .u64 h.c.s12) w :=
 za0 w b 46 22 27 (zai h) _ _ k underlying22 rfl (zas h 14)
theorem zaY (w:World) (b:Nat) (old:Array Value) (h:Hart) (k:w.heap[b]?=some (.cells old 27 (0,0))) (ho:old.size=52):(Instr.storeAt 27 (.pointer (some ⟨b,0,none⟩)) (zat h)).run Tryz.prog w=.ok () (w.setRow b (zai h)):=by
 simp only [Instr.storeAt,Instr.sureAddr,Sem.run_bind,Sem.run_pure,Result.andThen];exact run_storeVar_row w b 27 27 old (zai h) k (by rw [zcU,zcn]) (by rw [ho,zcn]) (zhN h)
abbrev zeroC:Array Value:=#[.int .u64 0,.int .u64 0,.int .u64 0,.int .u64 0,.int .u64 0,.int .u64 0,.int .u64 0,.int .u64 0,.int .u64 0,.int .u64 0,.int .u64 0,.int .u64 0,.int .u64 0,.int .u64 0,.int .u64 0,.int .u64 0,.int .u64 0,.int .u64 0,.int .u64 0,.int .u64 0,.int .u64 0,.int .u64 0,.int .u64 0,.int .u64 0,.int .u64 0,.int .u64 0,.int .u64 0,.int .u64 0,.int .u64 0,.int .u64 0,.int .u64 0,.int .u64 0,.int .u64 0,.int .i64 0,.int .u64 0,.int .u64 0,.int .u64 0,.int .u64 0,.int .u64 0,.int .u64 0,.int .u64 0,.int .u64 0,.int .u64 0,.int .u64 0,.int .u64 0,.int .u64 0,.int .u64 0,.int .u64 0,.int .u64 0,.int .u64 0,.bool false,.int .u64 0]
abbrev zaj:Obj:=.cells zeroC 27
def St (n:Nat) (W:World) (h:Hart) (r:Array Value):World:=((W.alloc (zbf h)).alloc (.cells r 27)).drewN n
theorem St.box (n:Nat) (W:World) (h:Hart) (r:Array Value):Box (St n W h r) W.heap.size h:=(Box.new W h).alloc (.cells r 27)
theorem St.res (n:Nat) (W:World) (h:Hart) (r:Array Value):(St n W h r).heap[W.heap.size+1]?=some (.cells r 27 (0,0)):=by
 have k:=heap_alloc_last (W.alloc (zbf h)) (.cells r 27)
 rwa [World.size_alloc] at k
theorem St.put (n:Nat) (W:World) (h g:Hart) (r:Array Value):(St n W h r).setRow W.heap.size (zai g)=St n W g r:=by
 have k:((W.alloc (zbf h)).alloc (.cells r 27)).setRow W.heap.size (zai g)=(W.alloc (zbf g)).alloc (.cells r 27):=by rw [zkX _ _ _ _ (by simp),World.setRow_alloc_new]
 exact congrArg (fun w=>w.drewN n) k
theorem St.full (n:Nat) (W:World) (h:Hart) (r r':Array Value):(St n W h r).setRow (W.heap.size+1) r'=St n W h r':=by
 have k:=World.setRow_alloc_new (W.alloc (zbf h)) r r' 27;rw [World.size_alloc] at k;exact congrArg (fun w=>w.drewN n) k
theorem St.below (n:Nat) (W:World) (h:Hart) (r:Array Value):Below W.heap.size W (St n W h r):=⟨rfl,rfl,rfl,by show W.heap.size≤((W.heap.push _).push _).size;simp;omega,fun k hk=>(((Below.refl _ _).alloc (Nat.le_refl _) _).alloc (by simp) _).block k hk⟩
theorem St.load (n:Nat) (W:World) (h:Hart) (r:Array Value):(Instr.loadAt 27 (.pointer (some ⟨W.heap.size,0,none⟩))).run Tryz.prog (St n W h r)=.ok (zat h) (St n W h r):=(St.box n W h r).load
theorem St.store (n:Nat) (W:World) (h g:Hart):(Instr.storeAt 27 (.pointer (some ⟨W.heap.size+1,0,none⟩)) (zat g)).run Tryz.prog (St n W h zeroC)=.ok () (St n W h (zai g)) :=
 (zaY _ _ _ _ (St.res n W h zeroC) rfl).trans (by rw [St.full])
theorem St.store_at {n:Nat} {W:World} {h:Hart} (g:Hart) {r:Array Value} {t k:Nat} (i:Nat) {v:Value} (hk:k=32+i) (hi:i<20) (hs:(Tryz.prog.info? t).map (·.size)=some 1) (h1:v.oneCell'=true) (hc:v.cells=#[v]) (hx:xL g=xL h) (ht:zbA g=(zbA h).set i v):(Instr.storeAt t (.pointer (some ⟨W.heap.size,k,none⟩)) v).run Tryz.prog (St n W h r)=.ok () (St n W g r):=by
 subst hk;refine (zbQ _ _ (32+i) t 27 _ _ (St.box n W h r) hs (by rw [zcn];omega) h1 hc).trans ?_
 rw [zyK h g i v hx ht,St.put]
theorem St.load_pc {n:Nat} {W:World} {x:List Int} {hx:x.length=32} {pc mode s0 s1 s2 s3 s4 s5 s6 s7 s8 s9 s10 s11 s12 s13 s14 s15:Int} {held:Bool} {rat:Int} {r:Array Value}:(Instr.loadAt 22 (.pointer (some ⟨W.heap.size,32,none⟩))).run Tryz.prog (St n W (⟨x,hx,pc,mode,⟨s0,s1,s2,s3,s4,s5,s6,s7,s8,s9,s10,s11,s12,s13,s14,s15⟩,held,rat⟩:Hart) r)=.ok (.int .u64 pc) (St n W (⟨x,hx,pc,mode,⟨s0,s1,s2,s3,s4,s5,s6,s7,s8,s9,s10,s11,s12,s13,s14,s15⟩,held,rat⟩:Hart) r):=(St.box n W _ r).load_pc
theorem St.store_pc {n:Nat} {W:World} {x:List Int} {hx:x.length=32} {pc mode s0 s1 s2 s3 s4 s5 s6 s7 s8 s9 s10 s11 s12 s13 s14 s15:Int} {held:Bool} {rat:Int} {r:Array Value} {v:Int}:(Instr.storeAt 22 (.pointer (some ⟨W.heap.size,32,none⟩)) (.int .u64 v)).run Tryz.prog (St n W (⟨x,hx,pc,mode,⟨s0,s1,s2,s3,s4,s5,s6,s7,s8,s9,s10,s11,s12,s13,s14,s15⟩,held,rat⟩:Hart) r)=.ok () (St n W (⟨x,hx,v,mode,⟨s0,s1,s2,s3,s4,s5,s6,s7,s8,s9,s10,s11,s12,s13,s14,s15⟩,held,rat⟩:Hart) r):=St.store_at (⟨x,hx,v,mode,⟨s0,s1,s2,s3,s4,s5,s6,s7,s8,s9,s10,s11,s12,s13,s14,s15⟩,held,rat⟩:Hart) 0 rfl (by omega) zbX rfl rfl rfl rfl
theorem St.load_mode {n:Nat} {W:World} {x:List Int} {hx:x.length=32} {pc mode s0 s1 s2 s3 s4 s5 s6 s7 s8 s9 s10 s11 s12 s13 s14 s15:Int} {held:Bool} {rat:Int} {r:Array Value}:(Instr.loadAt 3 (.pointer (some ⟨W.heap.size,33,none⟩))).run Tryz.prog (St n W (⟨x,hx,pc,mode,⟨s0,s1,s2,s3,s4,s5,s6,s7,s8,s9,s10,s11,s12,s13,s14,s15⟩,held,rat⟩:Hart) r)=.ok (.int .i64 mode) (St n W (⟨x,hx,pc,mode,⟨s0,s1,s2,s3,s4,s5,s6,s7,s8,s9,s10,s11,s12,s13,s14,s15⟩,held,rat⟩:Hart) r):=(St.box n W _ r).load_mode
theorem St.store_mode {n:Nat} {W:World} {x:List Int} {hx:x.length=32} {pc mode s0 s1 s2 s3 s4 s5 s6 s7 s8 s9 s10 s11 s12 s13 s14 s15:Int} {held:Bool} {rat:Int} {r:Array Value} {v:Int}:(Instr.storeAt 3 (.pointer (some ⟨W.heap.size,33,none⟩)) (.int .i64 v)).run Tryz.prog (St n W (⟨x,hx,pc,mode,⟨s0,s1,s2,s3,s4,s5,s6,s7,s8,s9,s10,s11,s12,s13,s14,s15⟩,held,rat⟩:Hart) r)=.ok () (St n W (⟨x,hx,pc,v,⟨s0,s1,s2,s3,s4,s5,s6,s7,s8,s9,s10,s11,s12,s13,s14,s15⟩,held,rat⟩:Hart) r):=St.store_at (⟨x,hx,pc,v,⟨s0,s1,s2,s3,s4,s5,s6,s7,s8,s9,s10,s11,s12,s13,s14,s15⟩,held,rat⟩:Hart) 1 rfl (by omega) zhD rfl rfl rfl rfl
theorem St.load_s0 {n:Nat} {W:World} {x:List Int} {hx:x.length=32} {pc mode s0 s1 s2 s3 s4 s5 s6 s7 s8 s9 s10 s11 s12 s13 s14 s15:Int} {held:Bool} {rat:Int} {r:Array Value}:(Instr.loadAt 22 (.pointer (some ⟨W.heap.size,34,none⟩))).run Tryz.prog (St n W (⟨x,hx,pc,mode,⟨s0,s1,s2,s3,s4,s5,s6,s7,s8,s9,s10,s11,s12,s13,s14,s15⟩,held,rat⟩:Hart) r)=.ok (.int .u64 s0) (St n W (⟨x,hx,pc,mode,⟨s0,s1,s2,s3,s4,s5,s6,s7,s8,s9,s10,s11,s12,s13,s14,s15⟩,held,rat⟩:Hart) r):=(St.box n W _ r).load_c_s0
theorem St.store_s0 {n:Nat} {W:World} {x:List Int} {hx:x.length=32} {pc mode s0 s1 s2 s3 s4 s5 s6 s7 s8 s9 s10 s11 s12 s13 s14 s15:Int} {held:Bool} {rat:Int} {r:Array Value} {v:Int}:(Instr.storeAt 22 (.pointer (some ⟨W.heap.size,34,none⟩)) (.int .u64 v)).run Tryz.prog (St n W (⟨x,hx,pc,mode,⟨s0,s1,s2,s3,s4,s5,s6,s7,s8,s9,s10,s11,s12,s13,s14,s15⟩,held,rat⟩:Hart) r)=.ok () (St n W (⟨x,hx,pc,mode,⟨v,s1,s2,s3,s4,s5,s6,s7,s8,s9,s10,s11,s12,s13,s14,s15⟩,held,rat⟩:Hart) r):=St.store_at (⟨x,hx,pc,mode,⟨v,s1,s2,s3,s4,s5,s6,s7,s8,s9,s10,s11,s12,s13,s14,s15⟩,held,rat⟩:Hart) 2 rfl (by omega) zbX rfl rfl rfl rfl
theorem St.load_s5 {n:Nat} {W:World} {x:List Int} {hx:x.length=32} {pc mode s0 s1 s2 s3 s4 s5 s6 s7 s8 s9 s10 s11 s12 s13 s14 s15:Int} {held:Bool} {rat:Int} {r:Array Value}:(Instr.loadAt 22 (.pointer (some ⟨W.heap.size,39,none⟩))).run Tryz.prog (St n W (⟨x,hx,pc,mode,⟨s0,s1,s2,s3,s4,s5,s6,s7,s8,s9,s10,s11,s12,s13,s14,s15⟩,held,rat⟩:Hart) r)=.ok (.int .u64 s5) (St n W (⟨x,hx,pc,mode,⟨s0,s1,s2,s3,s4,s5,s6,s7,s8,s9,s10,s11,s12,s13,s14,s15⟩,held,rat⟩:Hart) r):=(St.box n W _ r).load_c_s5
theorem St.load_s7 {n:Nat} {W:World} {x:List Int} {hx:x.length=32} {pc mode s0 s1 s2 s3 s4 s5 s6 s7 s8 s9 s10 s11 s12 s13 s14 s15:Int} {held:Bool} {rat:Int} {r:Array Value}:(Instr.loadAt 22 (.pointer (some ⟨W.heap.size,41,none⟩))).run Tryz.prog (St n W (⟨x,hx,pc,mode,⟨s0,s1,s2,s3,s4,s5,s6,s7,s8,s9,s10,s11,s12,s13,s14,s15⟩,held,rat⟩:Hart) r)=.ok (.int .u64 s7) (St n W (⟨x,hx,pc,mode,⟨s0,s1,s2,s3,s4,s5,s6,s7,s8,s9,s10,s11,s12,s13,s14,s15⟩,held,rat⟩:Hart) r):=(St.box n W _ r).load_c_s7
theorem St.store_s7 {n:Nat} {W:World} {x:List Int} {hx:x.length=32} {pc mode s0 s1 s2 s3 s4 s5 s6 s7 s8 s9 s10 s11 s12 s13 s14 s15:Int} {held:Bool} {rat:Int} {r:Array Value} {v:Int}:(Instr.storeAt 22 (.pointer (some ⟨W.heap.size,41,none⟩)) (.int .u64 v)).run Tryz.prog (St n W (⟨x,hx,pc,mode,⟨s0,s1,s2,s3,s4,s5,s6,s7,s8,s9,s10,s11,s12,s13,s14,s15⟩,held,rat⟩:Hart) r)=.ok () (St n W (⟨x,hx,pc,mode,⟨s0,s1,s2,s3,s4,s5,s6,v,s8,s9,s10,s11,s12,s13,s14,s15⟩,held,rat⟩:Hart) r):=St.store_at (⟨x,hx,pc,mode,⟨s0,s1,s2,s3,s4,s5,s6,v,s8,s9,s10,s11,s12,s13,s14,s15⟩,held,rat⟩:Hart) 9 rfl (by omega) zbX rfl rfl rfl rfl
theorem St.store_s8 {n:Nat} {W:World} {x:List Int} {hx:x.length=32} {pc mode s0 s1 s2 s3 s4 s5 s6 s7 s8 s9 s10 s11 s12 s13 s14 s15:Int} {held:Bool} {rat:Int} {r:Array Value} {v:Int}:(Instr.storeAt 22 (.pointer (some ⟨W.heap.size,42,none⟩)) (.int .u64 v)).run Tryz.prog (St n W (⟨x,hx,pc,mode,⟨s0,s1,s2,s3,s4,s5,s6,s7,s8,s9,s10,s11,s12,s13,s14,s15⟩,held,rat⟩:Hart) r)=.ok () (St n W (⟨x,hx,pc,mode,⟨s0,s1,s2,s3,s4,s5,s6,s7,v,s9,s10,s11,s12,s13,s14,s15⟩,held,rat⟩:Hart) r):=St.store_at (⟨x,hx,pc,mode,⟨s0,s1,s2,s3,s4,s5,s6,s7,v,s9,s10,s11,s12,s13,s14,s15⟩,held,rat⟩:Hart) 10 rfl (by omega) zbX rfl rfl rfl rfl
theorem St.store_s9 {n:Nat} {W:World} {x:List Int} {hx:x.length=32} {pc mode s0 s1 s2 s3 s4 s5 s6 s7 s8 s9 s10 s11 s12 s13 s14 s15:Int} {held:Bool} {rat:Int} {r:Array Value} {v:Int}:(Instr.storeAt 22 (.pointer (some ⟨W.heap.size,43,none⟩)) (.int .u64 v)).run Tryz.prog (St n W (⟨x,hx,pc,mode,⟨s0,s1,s2,s3,s4,s5,s6,s7,s8,s9,s10,s11,s12,s13,s14,s15⟩,held,rat⟩:Hart) r)=.ok () (St n W (⟨x,hx,pc,mode,⟨s0,s1,s2,s3,s4,s5,s6,s7,s8,v,s10,s11,s12,s13,s14,s15⟩,held,rat⟩:Hart) r):=St.store_at (⟨x,hx,pc,mode,⟨s0,s1,s2,s3,s4,s5,s6,s7,s8,v,s10,s11,s12,s13,s14,s15⟩,held,rat⟩:Hart) 11 rfl (by omega) zbX rfl rfl rfl rfl
theorem St.load_s10 {n:Nat} {W:World} {x:List Int} {hx:x.length=32} {pc mode s0 s1 s2 s3 s4 s5 s6 s7 s8 s9 s10 s11 s12 s13 s14 s15:Int} {held:Bool} {rat:Int} {r:Array Value}:(Instr.loadAt 22 (.pointer (some ⟨W.heap.size,44,none⟩))).run Tryz.prog (St n W (⟨x,hx,pc,mode,⟨s0,s1,s2,s3,s4,s5,s6,s7,s8,s9,s10,s11,s12,s13,s14,s15⟩,held,rat⟩:Hart) r)=.ok (.int .u64 s10) (St n W (⟨x,hx,pc,mode,⟨s0,s1,s2,s3,s4,s5,s6,s7,s8,s9,s10,s11,s12,s13,s14,s15⟩,held,rat⟩:Hart) r):=(St.box n W _ r).load_c_s10
theorem St.load_s12 {n:Nat} {W:World} {x:List Int} {hx:x.length=32} {pc mode s0 s1 s2 s3 s4 s5 s6 s7 s8 s9 s10 s11 s12 s13 s14 s15:Int} {held:Bool} {rat:Int} {r:Array Value}:(Instr.loadAt 22 (.pointer (some ⟨W.heap.size,46,none⟩))).run Tryz.prog (St n W (⟨x,hx,pc,mode,⟨s0,s1,s2,s3,s4,s5,s6,s7,s8,s9,s10,s11,s12,s13,s14,s15⟩,held,rat⟩:Hart) r)=.ok (.int .u64 s12) (St n W (⟨x,hx,pc,mode,⟨s0,s1,s2,s3,s4,s5,s6,s7,s8,s9,s10,s11,s12,s13,s14,s15⟩,held,rat⟩:Hart) r):=(St.box n W _ r).load_c_s12
theorem St.store_s12 {n:Nat} {W:World} {x:List Int} {hx:x.length=32} {pc mode s0 s1 s2 s3 s4 s5 s6 s7 s8 s9 s10 s11 s12 s13 s14 s15:Int} {held:Bool} {rat:Int} {r:Array Value} {v:Int}:(Instr.storeAt 22 (.pointer (some ⟨W.heap.size,46,none⟩)) (.int .u64 v)).run Tryz.prog (St n W (⟨x,hx,pc,mode,⟨s0,s1,s2,s3,s4,s5,s6,s7,s8,s9,s10,s11,s12,s13,s14,s15⟩,held,rat⟩:Hart) r)=.ok () (St n W (⟨x,hx,pc,mode,⟨s0,s1,s2,s3,s4,s5,s6,s7,s8,s9,s10,s11,v,s13,s14,s15⟩,held,rat⟩:Hart) r):=St.store_at (⟨x,hx,pc,mode,⟨s0,s1,s2,s3,s4,s5,s6,s7,s8,s9,s10,s11,v,s13,s14,s15⟩,held,rat⟩:Hart) 14 rfl (by omega) zbX rfl rfl rfl rfl
theorem St.store_s13 {n:Nat} {W:World} {x:List Int} {hx:x.length=32} {pc mode s0 s1 s2 s3 s4 s5 s6 s7 s8 s9 s10 s11 s12 s13 s14 s15:Int} {held:Bool} {rat:Int} {r:Array Value} {v:Int}:(Instr.storeAt 22 (.pointer (some ⟨W.heap.size,47,none⟩)) (.int .u64 v)).run Tryz.prog (St n W (⟨x,hx,pc,mode,⟨s0,s1,s2,s3,s4,s5,s6,s7,s8,s9,s10,s11,s12,s13,s14,s15⟩,held,rat⟩:Hart) r)=.ok () (St n W (⟨x,hx,pc,mode,⟨s0,s1,s2,s3,s4,s5,s6,s7,s8,s9,s10,s11,s12,v,s14,s15⟩,held,rat⟩:Hart) r):=St.store_at (⟨x,hx,pc,mode,⟨s0,s1,s2,s3,s4,s5,s6,s7,s8,s9,s10,s11,s12,v,s14,s15⟩,held,rat⟩:Hart) 15 rfl (by omega) zbX rfl rfl rfl rfl
theorem St.store_s14 {n:Nat} {W:World} {x:List Int} {hx:x.length=32} {pc mode s0 s1 s2 s3 s4 s5 s6 s7 s8 s9 s10 s11 s12 s13 s14 s15:Int} {held:Bool} {rat:Int} {r:Array Value} {v:Int}:(Instr.storeAt 22 (.pointer (some ⟨W.heap.size,48,none⟩)) (.int .u64 v)).run Tryz.prog (St n W (⟨x,hx,pc,mode,⟨s0,s1,s2,s3,s4,s5,s6,s7,s8,s9,s10,s11,s12,s13,s14,s15⟩,held,rat⟩:Hart) r)=.ok () (St n W (⟨x,hx,pc,mode,⟨s0,s1,s2,s3,s4,s5,s6,s7,s8,s9,s10,s11,s12,s13,v,s15⟩,held,rat⟩:Hart) r):=St.store_at (⟨x,hx,pc,mode,⟨s0,s1,s2,s3,s4,s5,s6,s7,s8,s9,s10,s11,s12,s13,v,s15⟩,held,rat⟩:Hart) 16 rfl (by omega) zbX rfl rfl rfl rfl
theorem St.store_held {n:Nat} {W:World} {x:List Int} {hx:x.length=32} {pc mode s0 s1 s2 s3 s4 s5 s6 s7 s8 s9 s10 s11 s12 s13 s14 s15:Int} {held:Bool} {rat:Int} {r:Array Value} {v:Bool}:(Instr.storeAt 4 (.pointer (some ⟨W.heap.size,50,none⟩)) (.bool v)).run Tryz.prog (St n W (⟨x,hx,pc,mode,⟨s0,s1,s2,s3,s4,s5,s6,s7,s8,s9,s10,s11,s12,s13,s14,s15⟩,held,rat⟩:Hart) r)=.ok () (St n W (⟨x,hx,pc,mode,⟨s0,s1,s2,s3,s4,s5,s6,s7,s8,s9,s10,s11,s12,s13,s14,s15⟩,v,rat⟩:Hart) r):=St.store_at (⟨x,hx,pc,mode,⟨s0,s1,s2,s3,s4,s5,s6,s7,s8,s9,s10,s11,s12,s13,s14,s15⟩,v,rat⟩:Hart) 18 rfl (by omega) zev rfl rfl rfl rfl
theorem St.store_rat {n:Nat} {W:World} {x:List Int} {hx:x.length=32} {pc mode s0 s1 s2 s3 s4 s5 s6 s7 s8 s9 s10 s11 s12 s13 s14 s15:Int} {held:Bool} {rat:Int} {r:Array Value} {v:Int}:(Instr.storeAt 22 (.pointer (some ⟨W.heap.size,51,none⟩)) (.int .u64 v)).run Tryz.prog (St n W (⟨x,hx,pc,mode,⟨s0,s1,s2,s3,s4,s5,s6,s7,s8,s9,s10,s11,s12,s13,s14,s15⟩,held,rat⟩:Hart) r)=.ok () (St n W (⟨x,hx,pc,mode,⟨s0,s1,s2,s3,s4,s5,s6,s7,s8,s9,s10,s11,s12,s13,s14,s15⟩,held,v⟩:Hart) r):=St.store_at (⟨x,hx,pc,mode,⟨s0,s1,s2,s3,s4,s5,s6,s7,s8,s9,s10,s11,s12,s13,s14,s15⟩,held,v⟩:Hart) 19 rfl (by omega) zbX rfl rfl rfl rfl
end Go.Proofs.YtplcfdnfeclpmaaGreatDoor.Tr
namespace Go.Proofs.YtplcfdnfeclpmaaGreatDoor.Tr
def wV (n b:Int) (on:Bool):Int:=if on=true then bits .or .u64 n b else bits .andNot .u64 n b
def bV (n b:Int):Bool:=bits .and .u64 (n / b) 1==1
def nzV (n m:Int):Bool:=bits .and .u64 n m != 0
theorem zfn (n b:Int) (on:Bool) (W:World):TW 94 #[.int .u64 n,.int .u64 b,.bool on] W (.int .u64 (wV n b on)):=by
 cases on
 all_goals
  go_enter func94,ntmps94
  go_wp2
  go_ret;exact ⟨rfl,rfl⟩
def zbU (n:Int):Int:=if (bits .and .u64 (n / 2048) 1 != 0)=true then 11 else if (bits .and .u64 (n / 8) 1 != 0)=true then 3 else if (bits .and .u64 (n / 128) 1 != 0)=true then 7 else if (bits .and .u64 (n / 512) 1 != 0)=true then 9 else if (bits .and .u64 (n / 2) 1 != 0)=true then 1 else if (bits .and .u64 (n / 32) 1 != 0)=true then 5 else -1
def zmO (n:Int):List Bool:=[(bits .and .u64 (n / 2048) 1 != 0),(bits .and .u64 (n / 8) 1 != 0),(bits .and .u64 (n / 128) 1 != 0),(bits .and .u64 (n / 512) 1 != 0),(bits .and .u64 (n / 2) 1 != 0),(bits .and .u64 (n / 32) 1 != 0)]
def zeB (n:Int) (k:Nat):Prop:=∀ j,j<k→(zmO n).getD j false=false
theorem zfT (n:Int) (W:World):TW 67 #[.int .u64 n] W (.int .i64 (zbU n)):=by
 have i0:∀ w:World,(Instr.index 128 (.agg #[.int .i64 11,.int .i64 3,.int .i64 7,.int .i64 9,.int .i64 1,.int .i64 5]) (.int .i64 0)).run Tryz.prog w=.ok (.int .i64 11) w:=fun _=>by kernel_rfl
 have i1:∀ w:World,(Instr.index 128 (.agg #[.int .i64 11,.int .i64 3,.int .i64 7,.int .i64 9,.int .i64 1,.int .i64 5]) (.int .i64 1)).run Tryz.prog w=.ok (.int .i64 3) w:=fun _=>by kernel_rfl
 have i2:∀ w:World,(Instr.index 128 (.agg #[.int .i64 11,.int .i64 3,.int .i64 7,.int .i64 9,.int .i64 1,.int .i64 5]) (.int .i64 2)).run Tryz.prog w=.ok (.int .i64 7) w:=fun _=>by kernel_rfl
 have i3:∀ w:World,(Instr.index 128 (.agg #[.int .i64 11,.int .i64 3,.int .i64 7,.int .i64 9,.int .i64 1,.int .i64 5]) (.int .i64 3)).run Tryz.prog w=.ok (.int .i64 9) w:=fun _=>by kernel_rfl
 have i4:∀ w:World,(Instr.index 128 (.agg #[.int .i64 11,.int .i64 3,.int .i64 7,.int .i64 9,.int .i64 1,.int .i64 5]) (.int .i64 4)).run Tryz.prog w=.ok (.int .i64 1) w:=fun _=>by kernel_rfl
 have i5:∀ w:World,(Instr.index 128 (.agg #[.int .i64 11,.int .i64 3,.int .i64 7,.int .i64 9,.int .i64 1,.int .i64 5]) (.int .i64 5)).run Tryz.prog w=.ok (.int .i64 5) w:=fun _=>by kernel_rfl
 go_enter func67,ntmps67
 go_wp2
 go_loop [6] (fun i=>∃ k:Nat,k≤6∧i=.int .i64 k∧zeB n k) (fun i=>6 - (intOf i).toNat)
 case atStart=>exact ⟨0,by omega,rfl,fun j hj=>absurd hj (by omega)⟩
 case round =>
  obtain ⟨k,hk,rfl,hn⟩:=hrel;have HN:=hid hn;clear hn
  match k,hk,HN with
  | 0,_,HN =>
   rcases Bool.eq_false_or_eq_true ((bits .and .u64 (n / 2048) 1 != 0)) with h | h
   ·have HE:Hid (zbU n=11):=hid (by unfold zbU;simp only [h,if_true])
    go_wp2
    go_ret;exact ⟨zam HE.out.symm,rfl⟩
   ·have HS:Hid (zeB n 1):=hid fun j hj=>by
     by_cases e:j=0
     ·subst e;exact h
     ·exact HN.out j (by omega)
    go_wp2
    go_round
    case rel=>exact ⟨1,by omega,rfl,HS.out⟩
    case measure=>simp [intOf]
  | 1,_,HN =>
   have E0:Hid ((bits .and .u64 (n / 2048) 1 != 0)=false):=hid (HN.out 0 (by omega));rcases Bool.eq_false_or_eq_true ((bits .and .u64 (n / 8) 1 != 0)) with h | h
   ·have HE:Hid (zbU n=3):=hid (by unfold zbU;simp only [E0.out,h,if_true,if_false,Bool.false_eq_true])
    go_wp2
    go_ret;exact ⟨zam HE.out.symm,rfl⟩
   ·have HS:Hid (zeB n 2):=hid fun j hj=>by
     by_cases e:j=1
     ·subst e;exact h
     ·exact HN.out j (by omega)
    go_wp2
    go_round
    case rel=>exact ⟨2,by omega,rfl,HS.out⟩
    case measure=>simp [intOf]
  | 2,_,HN =>
   have E0:Hid ((bits .and .u64 (n / 2048) 1 != 0)=false):=hid (HN.out 0 (by omega));have E1:Hid ((bits .and .u64 (n / 8) 1 != 0)=false):=hid (HN.out 1 (by omega));rcases Bool.eq_false_or_eq_true ((bits .and .u64 (n / 128) 1 != 0)) with h | h
   ·have HE:Hid (zbU n=7):=hid (by unfold zbU;simp only [E0.out,E1.out,h,if_true,if_false,Bool.false_eq_true])
    go_wp2
    go_ret;exact ⟨zam HE.out.symm,rfl⟩
   ·have HS:Hid (zeB n 3):=hid fun j hj=>by
     by_cases e:j=2
     ·subst e;exact h
     ·exact HN.out j (by omega)
    go_wp2
    go_round
    case rel=>exact ⟨3,by omega,rfl,HS.out⟩
    case measure=>simp [intOf]
  | 3,_,HN =>
   have E0:Hid ((bits .and .u64 (n / 2048) 1 != 0)=false):=hid (HN.out 0 (by omega));have E1:Hid ((bits .and .u64 (n / 8) 1 != 0)=false):=hid (HN.out 1 (by omega));have E2:Hid ((bits .and .u64 (n / 128) 1 != 0)=false):=hid (HN.out 2 (by omega));rcases Bool.eq_false_or_eq_true ((bits .and .u64 (n / 512) 1 != 0)) with h | h
   ·have HE:Hid (zbU n=9):=hid (by unfold zbU;simp only [E0.out,E1.out,E2.out,h,if_true,if_false,Bool.false_eq_true])
    go_wp2
    go_ret;exact ⟨zam HE.out.symm,rfl⟩
   ·have HS:Hid (zeB n 4):=hid fun j hj=>by
     by_cases e:j=3
     ·subst e;exact h
     ·exact HN.out j (by omega)
    go_wp2
    go_round
    case rel=>exact ⟨4,by omega,rfl,HS.out⟩
    case measure=>simp [intOf]
  | 4,_,HN =>
   have E0:Hid ((bits .and .u64 (n / 2048) 1 != 0)=false):=hid (HN.out 0 (by omega));have E1:Hid ((bits .and .u64 (n / 8) 1 != 0)=false):=hid (HN.out 1 (by omega));have E2:Hid ((bits .and .u64 (n / 128) 1 != 0)=false):=hid (HN.out 2 (by omega));have E3:Hid ((bits .and .u64 (n / 512) 1 != 0)=false):=hid (HN.out 3 (by omega));rcases Bool.eq_false_or_eq_true ((bits .and .u64 (n / 2) 1 != 0)) with h | h
   ·have HE:Hid (zbU n=1):=hid (by unfold zbU;simp only [E0.out,E1.out,E2.out,E3.out,h,if_true,if_false,Bool.false_eq_true])
    go_wp2
    go_ret;exact ⟨zam HE.out.symm,rfl⟩
   ·have HS:Hid (zeB n 5):=hid fun j hj=>by
     by_cases e:j=4
     ·subst e;exact h
     ·exact HN.out j (by omega)
    go_wp2
    go_round
    case rel=>exact ⟨5,by omega,rfl,HS.out⟩
    case measure=>simp [intOf]
  | 5,_,HN =>
   have E0:Hid ((bits .and .u64 (n / 2048) 1 != 0)=false):=hid (HN.out 0 (by omega));have E1:Hid ((bits .and .u64 (n / 8) 1 != 0)=false):=hid (HN.out 1 (by omega));have E2:Hid ((bits .and .u64 (n / 128) 1 != 0)=false):=hid (HN.out 2 (by omega));have E3:Hid ((bits .and .u64 (n / 512) 1 != 0)=false):=hid (HN.out 3 (by omega));have E4:Hid ((bits .and .u64 (n / 2) 1 != 0)=false):=hid (HN.out 4 (by omega));rcases Bool.eq_false_or_eq_true ((bits .and .u64 (n / 32) 1 != 0)) with h | h
   ·have HE:Hid (zbU n=5):=hid (by unfold zbU;simp only [E0.out,E1.out,E2.out,E3.out,E4.out,h,if_true,if_false,Bool.false_eq_true])
    go_wp2
    go_ret;exact ⟨zam HE.out.symm,rfl⟩
   ·have HS:Hid (zeB n 6):=hid fun j hj=>by
     by_cases e:j=5
     ·subst e;exact h
     ·exact HN.out j (by omega)
    go_wp2
    go_round
    case rel=>exact ⟨6,by omega,rfl,HS.out⟩
    case measure=>simp [intOf]
  | 6,_,HN =>
   have E0:Hid ((bits .and .u64 (n / 2048) 1 != 0)=false):=hid (HN.out 0 (by omega));have E1:Hid ((bits .and .u64 (n / 8) 1 != 0)=false):=hid (HN.out 1 (by omega));have E2:Hid ((bits .and .u64 (n / 128) 1 != 0)=false):=hid (HN.out 2 (by omega));have E3:Hid ((bits .and .u64 (n / 512) 1 != 0)=false):=hid (HN.out 3 (by omega));have E4:Hid ((bits .and .u64 (n / 2) 1 != 0)=false):=hid (HN.out 4 (by omega));have E5:Hid ((bits .and .u64 (n / 32) 1 != 0)=false):=hid (HN.out 5 (by omega));have HE:Hid (zbU n=-1):=hid (by unfold zbU;simp only [E0.out,E1.out,E2.out,E3.out,E4.out,E5.out,if_false,Bool.false_eq_true])
   go_wp2
   go_ret;exact ⟨zam HE.out.symm,rfl⟩
end Go.Proofs.YtplcfdnfeclpmaaGreatDoor.Tr
namespace Go.Proofs.YtplcfdnfeclpmaaGreatDoor.Tr
theorem Box.cell {w:World} {b:Nat} {h:Hart} (k:Box w b h) (i:Nat):w.cell? ⟨b,32+i,none⟩=(zbA h)[i]?:=by
 rw [cell_of_row w b _ (zai h) 27 (0,0) k,zas]
def upV (h:Hart):Bool:=h.mode != 3 || nzV h.c.s0 8
def midV (h:Hart):Bool:=decide (h.mode<1) || (h.mode==1 && nzV h.c.s0 2)
theorem zhO (h:Hart) (b:Bool) (hb:upV h=b) (W:World):TB 66 #[zat h] W (.bool b):=by
 subst hb;have m_mode:(zai h)[33]?=some (.int .i64 h.mode):=zas h 1;have m_s0:(zai h)[34]?=some (.int .u64 h.c.s0):=zas h 2;go_enter func66,ntmps66
 go_wp2
 all_goals go_ret
 ·exact ⟨zaT (by unfold upV nzV;simp [*]),(Below.refl _ _).alloc (Nat.le_refl _) _⟩
 ·exact ⟨zaT (by unfold upV;simp [*]),(Below.refl _ _).alloc (Nat.le_refl _) _⟩
theorem zgt (h:Hart) (b:Bool) (hb:midV h=b) (W:World):TB 68 #[zat h] W (.bool b):=by
 subst hb;have m_mode:(zai h)[33]?=some (.int .i64 h.mode):=zas h 1;have m_s0:(zai h)[34]?=some (.int .u64 h.c.s0):=zas h 2;go_enter func68,ntmps68
 go_wp2
 all_goals go_ret
 all_goals exact ⟨zaT (by unfold midV nzV;first | (simp [*];done) | (simp [*];omega)),(Below.refl _ _).alloc (Nat.le_refl _) _⟩
def zel (h:Hart) (k:Nat) (it:Bool):Bool:=decide (h.mode≤1) && (bits .and .u64 ((if it=true then h.c.s2 else h.c.s1) / 2 ^ k) 1 != 0)
theorem zgi (h:Hart) (k:Nat) (it:Bool) (b:Bool) (hk:k≤63) (hb:zel h k it=b) (W:World):TB 69 #[zat h,.int .i64 k,.bool it] W (.bool b):=by
 subst hb;have m_mode:(zai h)[33]?=some (.int .i64 h.mode):=zas h 1;have m_s1:(zai h)[35]?=some (.int .u64 h.c.s1):=zas h 3;have m_s2:(zai h)[36]?=some (.int .u64 h.c.s2):=zas h 4;cases it
 all_goals
  go_enter func69,ntmps69
  go_wp2
  all_goals go_ret
  all_goals exact ⟨zaT (by unfold zel;first | (simp [*];done) | (simp [*];omega)),(Below.refl _ _).alloc (Nat.le_refl _) _⟩
def zez (v t:Int):Int:=if (nzV t 9223372036854775808 && nzV v 1)=true then IntKind.u64.wrap (bits .andNot .u64 v 3+IntKind.u64.wrap (4*bits .andNot .u64 t 9223372036854775808)) else bits .andNot .u64 v 3
theorem zjl (v t:Int) (W:World):TW 95 #[.int .u64 v,.int .u64 t] W (.int .u64 (zez v t)):=by
 rcases Bool.eq_false_or_eq_true (bits .and .u64 t 9223372036854775808 != 0) with h1 | h1
 all_goals rcases Bool.eq_false_or_eq_true (bits .and .u64 v 1 != 0) with h2 | h2
 all_goals
  go_enter func95,ntmps95
  go_wp2
  go_ret;exact ⟨zam (by unfold zez nzV;rw [h1,h2];rfl),rfl⟩
def onV (h:Hart) (l:Int):Int:=bits .and .u64 (bits .and .u64 (bits .or .u64 h.c.s4 l) h.c.s3) 2730
def topV (h:Hart) (l:Int):Int:=bits .andNot .u64 (onV h l) h.c.s2
def lowV (h:Hart) (l:Int):Int:=bits .and .u64 (onV h l) h.c.s2
def zbq (h:Hart) (l:Int):Int:=if (topV h l != 0 && upV h)=true then zbU (topV h l) else if midV h=true then zbU (lowV h l) else -1
end Go.Proofs.YtplcfdnfeclpmaaGreatDoor.Tr
namespace Go.Proofs.YtplcfdnfeclpmaaGreatDoor.Tr
theorem zkl (h:Hart) (l:Int) (h1:(topV h l != 0)=true) (h2:upV h=true) (W:World):TB 47 #[zat h,.int .u64 l] W (.int .i64 (zbq h l)):=by
 have m_s2:(zai h)[36]?=some (.int .u64 h.c.s2):=zas h 4;have m_s3:(zai h)[37]?=some (.int .u64 h.c.s3):=zas h 5;have m_s4:(zai h)[38]?=some (.int .u64 h.c.s4):=zas h 6;have HE:Hid (zbq h l=zbU (topV h l)):=hid (by unfold zbq;rw [h1,h2];rfl);have h1r:((bits .andNot .u64 (bits .and .u64 (bits .and .u64 (bits .or .u64 h.c.s4 l) h.c.s3) 2730) h.c.s2) != 0)=true:=h1;clear h1;have c18:=hid h2;clear h2;go_enter func47,ntmps47;go_wp2_with (first | (with_reducible show wpList _ _ _ (⟨some 25,Op.load 27 (.tmp 2),27,_,_,_⟩ :: _) _ _;refine zaU (by first | exact rfl | (simp [Region.wanted,yielded];done) | (simp [Region.wanted,yielded,Act.put];done)) rfl (Box.load (Box.new W h)) rfl ?_) | (go_at_call 66;(with_reducible refine (zhO h _ c18.out _).mono ?_);rintro e w1 ⟨rfl,k1⟩) | (go_at_call 67;(with_reducible refine (zfT _ _).mono ?_);rintro e w3 ⟨rfl,rfl⟩));go_ret;exact ⟨zam HE.out.symm,zac ((Below.refl _ _).alloc (Nat.le_refl _) (zbf h)) (Nat.le_refl _) k1⟩
theorem zqM (h:Hart) (l:Int) (h1:(topV h l != 0)=true) (h2:upV h=false) (h3:midV h=true) (W:World):TB 47 #[zat h,.int .u64 l] W (.int .i64 (zbq h l)):=by
 have m_s2:(zai h)[36]?=some (.int .u64 h.c.s2):=zas h 4;have m_s3:(zai h)[37]?=some (.int .u64 h.c.s3):=zas h 5;have m_s4:(zai h)[38]?=some (.int .u64 h.c.s4):=zas h 6;have HE:Hid (zbq h l=zbU (lowV h l)):=hid (by unfold zbq;rw [h1,h2,h3];rfl);have h1r:((bits .andNot .u64 (bits .and .u64 (bits .and .u64 (bits .or .u64 h.c.s4 l) h.c.s3) 2730) h.c.s2) != 0)=true:=h1;clear h1;have c18:=hid h2;clear h2;have c20:=hid h3;clear h3;go_enter func47,ntmps47;go_wp2_with (first | (with_reducible show wpList _ _ _ (⟨some 25,Op.load 27 (.tmp 2),27,_,_,_⟩ :: _) _ _;refine zaU (by first | exact rfl | (simp [Region.wanted,yielded];done) | (simp [Region.wanted,yielded,Act.put];done)) rfl (Box.load (Box.new W h)) rfl ?_) | (go_at_call 66;(with_reducible refine (zhO h _ c18.out _).mono ?_);rintro e w1 ⟨rfl,k1⟩) | (with_reducible show wpList _ _ _ (⟨some 30,Op.load 27 (.tmp 2),27,_,_,none⟩ :: _) _ _;refine zaa rfl rfl (Box.load ((Box.new W h).next k1)) rfl ?_) | (go_at_call 68;(with_reducible refine (zgt h _ c20.out _).mono ?_);rintro e w2 ⟨rfl,k2⟩;have m_w2_s2:w2.cell? ⟨W.heap.size,36,none⟩=some (.int .u64 h.c.s2):=(((Box.new W h).next k1).next k2).cell 4) | (go_at_call 67;(with_reducible refine (zfT _ _).mono ?_);rintro e w3 ⟨rfl,rfl⟩));go_ret;exact ⟨zam HE.out.symm,zac (zac ((Below.refl _ _).alloc (Nat.le_refl _) (zbf h)) (Nat.le_refl _) k1) (Nat.le_refl _) k2⟩
theorem zqn (h:Hart) (l:Int) (h1:(topV h l != 0)=false) (h3:midV h=true) (W:World):TB 47 #[zat h,.int .u64 l] W (.int .i64 (zbq h l)):=by
 have m_s2:(zai h)[36]?=some (.int .u64 h.c.s2):=zas h 4;have m_s3:(zai h)[37]?=some (.int .u64 h.c.s3):=zas h 5;have m_s4:(zai h)[38]?=some (.int .u64 h.c.s4):=zas h 6;have HE:Hid (zbq h l=zbU (lowV h l)):=hid (by unfold zbq;rw [h1,h3];rfl);have h1r:((bits .andNot .u64 (bits .and .u64 (bits .and .u64 (bits .or .u64 h.c.s4 l) h.c.s3) 2730) h.c.s2) != 0)=false:=h1;clear h1;have c20:=hid h3;clear h3;go_enter func47,ntmps47;go_wp2_with (first | (with_reducible show wpList _ _ _ (⟨some 30,Op.load 27 (.tmp 2),27,_,_,none⟩ :: _) _ _;refine zaa rfl rfl (Box.load (Box.new W h)) rfl ?_) | (go_at_call 68;(with_reducible refine (zgt h _ c20.out _).mono ?_);rintro e w2 ⟨rfl,k2⟩;have m_w2_s2:w2.cell? ⟨W.heap.size,36,none⟩=some (.int .u64 h.c.s2):=((Box.new W h).next k2).cell 4) | (go_at_call 67;(with_reducible refine (zfT _ _).mono ?_);rintro e w3 ⟨rfl,rfl⟩));go_ret;exact ⟨zam HE.out.symm,zac ((Below.refl _ _).alloc (Nat.le_refl _) (zbf h)) (Nat.le_refl _) k2⟩
theorem zwg (h:Hart) (l:Int) (h1:(topV h l != 0)=true) (h2:upV h=false) (h3:midV h=false) (W:World):TB 47 #[zat h,.int .u64 l] W (.int .i64 (zbq h l)):=by
 have m_s2:(zai h)[36]?=some (.int .u64 h.c.s2):=zas h 4;have m_s3:(zai h)[37]?=some (.int .u64 h.c.s3):=zas h 5;have m_s4:(zai h)[38]?=some (.int .u64 h.c.s4):=zas h 6;have HE:Hid (zbq h l=-1):=hid (by unfold zbq;rw [h1,h2,h3];rfl);have h1r:((bits .andNot .u64 (bits .and .u64 (bits .and .u64 (bits .or .u64 h.c.s4 l) h.c.s3) 2730) h.c.s2) != 0)=true:=h1;clear h1;have c18:=hid h2;clear h2;have c20:=hid h3;clear h3;go_enter func47,ntmps47;go_wp2_with (first | (with_reducible show wpList _ _ _ (⟨some 25,Op.load 27 (.tmp 2),27,_,_,_⟩ :: _) _ _;refine zaU (by first | exact rfl | (simp [Region.wanted,yielded];done) | (simp [Region.wanted,yielded,Act.put];done)) rfl (Box.load (Box.new W h)) rfl ?_) | (go_at_call 66;(with_reducible refine (zhO h _ c18.out _).mono ?_);rintro e w1 ⟨rfl,k1⟩) | (with_reducible show wpList _ _ _ (⟨some 30,Op.load 27 (.tmp 2),27,_,_,none⟩ :: _) _ _;refine zaa rfl rfl (Box.load ((Box.new W h).next k1)) rfl ?_) | (go_at_call 68;(with_reducible refine (zgt h _ c20.out _).mono ?_);rintro e w2 ⟨rfl,k2⟩;have m_w2_s2:w2.cell? ⟨W.heap.size,36,none⟩=some (.int .u64 h.c.s2):=(((Box.new W h).next k1).next k2).cell 4) | (go_at_call 67;(with_reducible refine (zfT _ _).mono ?_);rintro e w3 ⟨rfl,rfl⟩));go_ret;exact ⟨zam HE.out.symm,zac (zac ((Below.refl _ _).alloc (Nat.le_refl _) (zbf h)) (Nat.le_refl _) k1) (Nat.le_refl _) k2⟩
theorem zrO (h:Hart) (l:Int) (h1:(topV h l != 0)=false) (h3:midV h=false) (W:World):TB 47 #[zat h,.int .u64 l] W (.int .i64 (zbq h l)):=by
 have m_s2:(zai h)[36]?=some (.int .u64 h.c.s2):=zas h 4;have m_s3:(zai h)[37]?=some (.int .u64 h.c.s3):=zas h 5;have m_s4:(zai h)[38]?=some (.int .u64 h.c.s4):=zas h 6;have HE:Hid (zbq h l=-1):=hid (by unfold zbq;rw [h1,h3];rfl);have h1r:((bits .andNot .u64 (bits .and .u64 (bits .and .u64 (bits .or .u64 h.c.s4 l) h.c.s3) 2730) h.c.s2) != 0)=false:=h1;clear h1;have c20:=hid h3;clear h3;go_enter func47,ntmps47;go_wp2_with (first | (with_reducible show wpList _ _ _ (⟨some 30,Op.load 27 (.tmp 2),27,_,_,none⟩ :: _) _ _;refine zaa rfl rfl (Box.load (Box.new W h)) rfl ?_) | (go_at_call 68;(with_reducible refine (zgt h _ c20.out _).mono ?_);rintro e w2 ⟨rfl,k2⟩;have m_w2_s2:w2.cell? ⟨W.heap.size,36,none⟩=some (.int .u64 h.c.s2):=((Box.new W h).next k2).cell 4) | (go_at_call 67;(with_reducible refine (zfT _ _).mono ?_);rintro e w3 ⟨rfl,rfl⟩));go_ret;exact ⟨zam HE.out.symm,zac ((Below.refl _ _).alloc (Nat.le_refl _) (zbf h)) (Nat.le_refl _) k2⟩
theorem zfB (h:Hart) (l:Int) (W:World):TB 47 #[zat h,.int .u64 l] W (.int .i64 (zbq h l)):=by
 rcases Bool.eq_false_or_eq_true (midV h) with h3 | h3
 all_goals rcases Bool.eq_false_or_eq_true (topV h l != 0) with h1 | h1
 ·rcases Bool.eq_false_or_eq_true (upV h) with h2 | h2
  ·exact zkl h l h1 h2 W
  ·exact zqM h l h1 h2 h3 W
 ·exact zqn h l h1 h3 W
 ·rcases Bool.eq_false_or_eq_true (upV h) with h2 | h2
  ·exact zkl h l h1 h2 W
  ·exact zwg h l h1 h2 h3 W
 ·exact zrO h l h1 h3 W
end Go.Proofs.YtplcfdnfeclpmaaGreatDoor.Tr
