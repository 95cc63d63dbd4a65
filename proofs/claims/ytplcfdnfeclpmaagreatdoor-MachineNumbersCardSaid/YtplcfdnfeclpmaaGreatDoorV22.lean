/- MachineNumbers, part 22. -/
import Derived.StillTailTactics
import Derived.Test.YtplcfdnfeclpmaaGreatDoorV06
set_option maxHeartbeats 4000000
set_option maxRecDepth 100000
open Go.Lib (hid)
open Go Go.RowKit Go.Deep Go.Joins Go.Proofs.Tryz
namespace Go.Proofs.YtplcfdnfeclpmaaGreatDoor.Pc
structure Own (W w:World) (h:Pl) (r:Array Value):Prop where
 box:Box w W.heap.size h
 res:w.heap[W.heap.size+1]?=some (.cells r 33 (0,0))
 below:Below W.heap.size W w
theorem Own.next {W w w':World} {h:Pl} {r:Array Value} (k:Own W w h r) (j:Below w.heap.size w w'):Own W w' h r :=
 ⟨k.box.next j,(j.block _ (Array.getElem?_eq_some_iff.1 k.res).1).trans k.res,k.below.trans (j.mono k.below.size)⟩
theorem Own.drew {W w:World} {h:Pl} {r:Array Value} (k:Own W w h r):Own W w.drew h r:=k.next (Below.refl _ _).drew
theorem Own.new (W:World) (h:Pl):Own W ((W.alloc (plO h)).alloc zai) h zeroC:=⟨St.box 0 W h zeroC,St.res 0 W h zeroC,St.below 0 W h zeroC⟩
theorem zpv (w:World) (b:Nat) (cs:Array Value):(w.setRow b cs).heap.size=w.heap.size:=by simp [World.setRow]
theorem zjc {B:Nat} {w0 w:World} (k:Below B w0 w) (b:Nat) (hb:B≤b) (cs:Array Value):Below B w0 (w.setRow b cs) :=
 ⟨k.os,k.tape,k.output,by rw [zpv];exact k.size,fun i hi=>(setRow_other w b i cs (by omega)).trans (k.block i hi)⟩
theorem Own.put {W w:World} {h:Pl} {r:Array Value} (k:Own W w h r) (g:Pl):Own W (w.setRow W.heap.size (plC g)) g r :=
 ⟨Box.mine k.box g,(setRow_other w _ _ _ (by omega)).trans k.res,zjc k.below _ (Nat.le_refl _) _⟩
theorem Own.full {W w:World} {h:Pl} {r:Array Value} (k:Own W w h r) (r':Array Value):Own W (w.setRow (W.heap.size+1) r') h r' :=
 ⟨k.box.over (by omega) _,setRow_heap w _ r r' 33 (0,0) k.res,zjc k.below _ (by omega) _⟩
theorem Own.load {W w:World} {h:Pl} {r:Array Value} (k:Own W w h r):(Instr.loadAt 33 (.pointer (some ⟨W.heap.size,0,none⟩))).run Tryz.prog w=.ok (plV h) w:=k.box.load
theorem Own.tell {W w:World} {h:Pl} {r:Array Value} (k:Own W w h r) (hr:r.size=9) (g:Pl):∃ w',(Instr.storeAt 33 (.pointer (some ⟨W.heap.size+1,0,none⟩)) (plV g)).run Tryz.prog w=.ok () w'∧Own W w' h (plC g) :=
 ⟨_,zaV _ _ _ _ k.res hr,k.full _⟩
theorem Own.zero {W w:World} {h:Pl} {r:Array Value} (k:Own W w h r) (hr:r.size=9):∃ w',(Instr.storeAt 33 (.pointer (some ⟨W.heap.size+1,0,none⟩)) (.agg zeroC)).run Tryz.prog w=.ok () w'∧Own W w' h (plC zdj):=k.tell hr zdj
theorem Own.result {W w:World} {h g:Pl} (k:Own W w h (plC g)):Box w (W.heap.size+1) g:=k.res
theorem Own.store_at {W w:World} {h:Pl} {r:Array Value} (k:Own W w h r) (g:Pl) (i:Nat) {v:Value} (hi:i<9) (h1:v.oneCell'=true) (hc:v.cells=#[v]) (ht:plL g=(plL h).set i v):∃ w',(Instr.storeAt 29 (.pointer (some ⟨W.heap.size,i,none⟩)) v).run Tryz.prog w=.ok () w'∧Own W w' g r :=
 ⟨_,zbH _ _ i 29 33 _ _ k.box zjP (by rw [ze8];omega) h1 hc,by rw [zld h g i v ht];exact k.put g⟩
theorem Own.load_p1 {W w:World} {h:Pl} {r:Array Value} (k:Own W w h r):(Instr.loadAt 29 (.pointer (some ⟨W.heap.size,1,none⟩))).run Tryz.prog w=.ok (.int .u32 h.p1) w:=k.box.load_p1
theorem Own.store_p1 {W w:World} {h:Pl} {r:Array Value} (k:Own W w h r) (v:Int):∃ w',(Instr.storeAt 29 (.pointer (some ⟨W.heap.size,1,none⟩)) (.int .u32 v)).run Tryz.prog w=.ok () w'∧Own W w' { h with p1:=v } r:=k.store_at _ 1 (by omega) rfl rfl rfl
theorem Own.load_p2 {W w:World} {h:Pl} {r:Array Value} (k:Own W w h r):(Instr.loadAt 29 (.pointer (some ⟨W.heap.size,2,none⟩))).run Tryz.prog w=.ok (.int .u32 h.p2) w:=k.box.load_p2
theorem Own.store_p2 {W w:World} {h:Pl} {r:Array Value} (k:Own W w h r) (v:Int):∃ w',(Instr.storeAt 29 (.pointer (some ⟨W.heap.size,2,none⟩)) (.int .u32 v)).run Tryz.prog w=.ok () w'∧Own W w' { h with p2:=v } r:=k.store_at _ 2 (by omega) rfl rfl rfl
theorem Own.load_p3 {W w:World} {h:Pl} {r:Array Value} (k:Own W w h r):(Instr.loadAt 29 (.pointer (some ⟨W.heap.size,3,none⟩))).run Tryz.prog w=.ok (.int .u32 h.p3) w:=k.box.load_p3
theorem Own.store_p3 {W w:World} {h:Pl} {r:Array Value} (k:Own W w h r) (v:Int):∃ w',(Instr.storeAt 29 (.pointer (some ⟨W.heap.size,3,none⟩)) (.int .u32 v)).run Tryz.prog w=.ok () w'∧Own W w' { h with p3:=v } r:=k.store_at _ 3 (by omega) rfl rfl rfl
theorem Own.load_e0 {W w:World} {h:Pl} {r:Array Value} (k:Own W w h r):(Instr.loadAt 29 (.pointer (some ⟨W.heap.size,4,none⟩))).run Tryz.prog w=.ok (.int .u32 h.e0) w:=k.box.load_e0
theorem Own.store_e0 {W w:World} {h:Pl} {r:Array Value} (k:Own W w h r) (v:Int):∃ w',(Instr.storeAt 29 (.pointer (some ⟨W.heap.size,4,none⟩)) (.int .u32 v)).run Tryz.prog w=.ok () w'∧Own W w' { h with e0:=v } r:=k.store_at _ 4 (by omega) rfl rfl rfl
theorem Own.load_e1 {W w:World} {h:Pl} {r:Array Value} (k:Own W w h r):(Instr.loadAt 29 (.pointer (some ⟨W.heap.size,5,none⟩))).run Tryz.prog w=.ok (.int .u32 h.e1) w:=k.box.load_e1
theorem Own.store_e1 {W w:World} {h:Pl} {r:Array Value} (k:Own W w h r) (v:Int):∃ w',(Instr.storeAt 29 (.pointer (some ⟨W.heap.size,5,none⟩)) (.int .u32 v)).run Tryz.prog w=.ok () w'∧Own W w' { h with e1:=v } r:=k.store_at _ 5 (by omega) rfl rfl rfl
theorem Own.load_l0 {W w:World} {h:Pl} {r:Array Value} (k:Own W w h r):(Instr.loadAt 29 (.pointer (some ⟨W.heap.size,6,none⟩))).run Tryz.prog w=.ok (.int .u32 h.l0) w:=k.box.load_l0
theorem Own.store_l0 {W w:World} {h:Pl} {r:Array Value} (k:Own W w h r) (v:Int):∃ w',(Instr.storeAt 29 (.pointer (some ⟨W.heap.size,6,none⟩)) (.int .u32 v)).run Tryz.prog w=.ok () w'∧Own W w' { h with l0:=v } r:=k.store_at _ 6 (by omega) rfl rfl rfl
theorem Own.load_l1 {W w:World} {h:Pl} {r:Array Value} (k:Own W w h r):(Instr.loadAt 29 (.pointer (some ⟨W.heap.size,7,none⟩))).run Tryz.prog w=.ok (.int .u32 h.l1) w:=k.box.load_l1
theorem Own.store_l1 {W w:World} {h:Pl} {r:Array Value} (k:Own W w h r) (v:Int):∃ w',(Instr.storeAt 29 (.pointer (some ⟨W.heap.size,7,none⟩)) (.int .u32 v)).run Tryz.prog w=.ok () w'∧Own W w' { h with l1:=v } r:=k.store_at _ 7 (by omega) rfl rfl rfl
theorem Own.load_c {W w:World} {h:Pl} {r:Array Value} (k:Own W w h r):(Instr.loadAt 29 (.pointer (some ⟨W.heap.size,8,none⟩))).run Tryz.prog w=.ok (.int .u32 h.c) w:=k.box.load_c
theorem Own.store_c {W w:World} {h:Pl} {r:Array Value} (k:Own W w h r) (v:Int):∃ w',(Instr.storeAt 29 (.pointer (some ⟨W.heap.size,8,none⟩)) (.int .u32 v)).run Tryz.prog w=.ok () w'∧Own W w' { h with c:=v } r:=k.store_at _ 8 (by omega) rfl rfl rfl
end Go.Proofs.YtplcfdnfeclpmaaGreatDoor.Pc
namespace Go
theorem zay {P:Program} {w:World} {ops:Array Oper} {rest:List Oper} {o:Oper} {a:Act} {Q:Exit→Act→World→Prop} {T:World→Prop} (hgd:o.guard=none) {t:TypeId} {p x:Operand} (ho:o.op=.store t p x) {v u:Value}
  (hrun:∃ w',(Instr.storeAt t v u).run P w=.ok () w'∧T w') (hp:a.eval p=v) (hx:a.eval x=u) (h:∀ w',T w'→wpList P ops Q rest (a.put o.dst undef) w'):wpList P ops Q (o :: rest) a w:=by
 obtain ⟨w',hr,ht⟩:=hrun;exact zam hgd ho hr hp hx (h w' ht)
end Go
namespace Go.Proofs.YtplcfdnfeclpmaaGreatDoor.Pc
theorem zaL {P:Program} {ops:Array Oper} {w:World} {Q:Act→Prop} {rest:List Oper} {o:Oper} {a:Act} (hgd:o.guard=none) {t:TypeId} {p:Operand} (ho:o.op=.load t p) {v r:Value} (hrun:(Instr.loadAt t v).run P w=.ok r w) (hp:a.eval p=v) (h:wpStill P ops w Q rest (a.put o.dst r)):wpStill P ops w Q (o :: rest) a:=by
 refine wpStill_step fun K hK=>?_
 simp only [Region.wanted,hgd,if_true];unfold Oper.still;rw [zbe ho hrun hp];exact ⟨rfl,hK _ h⟩
end Go.Proofs.YtplcfdnfeclpmaaGreatDoor.Pc
namespace Go.Proofs.YtplcfdnfeclpmaaGreatDoor.Pc
theorem zja (x:Int) (hx:U32 x):bits .andNot .u32 x 0=x:=by
 apply zce _ _ (zho _ _) hx
 intro i hi;rw [zb8 _ _ i hi,zco]
 simp
theorem ztx (x:Int):bits .and .u32 0 x=0:=by
 apply zce _ _ (zgi _ _) zfH
 intro i _;rw [zbc,zco]
 simp
theorem zrv (k:Nat) (hk:1≤k∧k≤3):U32 (wt k):=by
 match k,hk with
 | 1,_=>exact ⟨by decide,by decide⟩
 | 2,_=>exact ⟨by decide,by decide⟩
 | 3,_=>exact ⟨by decide,by decide⟩
 | k+4,h=>omega
theorem zyk (e:Int) (k:Nat) (hk:1≤k∧k≤3):bits .and .u32 (wt k) e=if bitT e k=true then wt k else 0:=by
 apply zce _ _ (zgi _ _)
 ·split
  ·exact zrv k hk
  ·exact zfH
 ·intro i hi
  rw [zbc,ze5 k hk i hi]
  by_cases hik:i=k
  ·subst hik
   split
   ·rename_i h;rw [ze5 i hk i hi,h];simp
   ·rename_i h;rw [zco];simp at h;rw [h];simp
  ·have:(i==k)=false:=by simp [hik]
   rw [this]
   split
   ·rw [ze5 k hk i hi,this];rfl
   ·rw [zco];rfl
theorem zfa (h:Pl) (hc:U32 h.c) (e:Int) (k:Nat) (hk:1≤k∧k≤3):bits .andNot .u32 h.c (bits .and .u32 (wt k) e)=zbJ h k e:=by
 unfold zbJ;rw [zyk e k hk]
 by_cases hb:bitT e k=true
 ·rw [if_pos hb,if_pos ⟨by omega,by simpa using hb⟩]
 ·rw [if_neg hb,if_neg (fun a=>hb (by simpa using a.2)),zja _ hc]
theorem zgF (h:Pl) (e n:Int) (hn:n<1∨3<n):zbJ h n e=h.c:=by
 unfold zbJ;rw [if_neg (by omega)]
theorem zgA (h:Pl) (hc:U32 h.c) (e:Int):bits .andNot .u32 h.c (bits .and .u32 0 e)=h.c:=by rw [ztx,zja _ hc]
theorem store_p1 (h:Pl) (v:Int) (W:World):TB 199 #[plV h,.int .u64 201326596,.int .i64 4,.int .u64 v] W (.tuple #[plV (stF h 201326596 4 v).1,.bool (stF h 201326596 4 v).2]):=by
 rw [znP];go_enter func199,ntmps199;go_upto_region 1 with (fail);have X:=hid (Own.new W h);generalize (W.alloc (plO h)).alloc zai=w0 at *;go_wp2_with (first | (go_at_call 219;with_reducible refine (zkY _).tq ?_) | (with_reducible refine zay rfl rfl (Own.store_p1 X.out _) rfl rfl ?_;intro wy hy;have X:=hid hy;clear hy) | (with_reducible refine zaa rfl rfl (Own.load X.out) rfl ?_) | (with_reducible refine zay rfl rfl (Own.tell X.out rfl _) rfl rfl ?_;intro wy hy;have X:=hid hy;clear hy));exact bodyPost_ret (v:=.tuple #[plV ({ h with p1:=bits .and .u32 (IntKind.u32.wrap v) 7 }),.bool true]) (za9 results199 _ _ (W.heap.size+1) _ _ rfl X.out.result rfl) rfl ⟨rfl,X.out.below⟩
theorem store_p2 (h:Pl) (v:Int) (W:World):TB 199 #[plV h,.int .u64 201326600,.int .i64 4,.int .u64 v] W (.tuple #[plV (stF h 201326600 4 v).1,.bool (stF h 201326600 4 v).2]):=by
 rw [zqk];go_enter func199,ntmps199;go_upto_region 1 with (fail);have X:=hid (Own.new W h);generalize (W.alloc (plO h)).alloc zai=w0 at *;go_wp2_with (first | (go_at_call 219;with_reducible refine (zkv _).tq ?_) | (with_reducible refine zay rfl rfl (Own.store_p2 X.out _) rfl rfl ?_;intro wy hy;have X:=hid hy;clear hy) | (with_reducible refine zaa rfl rfl (Own.load X.out) rfl ?_) | (with_reducible refine zay rfl rfl (Own.tell X.out rfl _) rfl rfl ?_;intro wy hy;have X:=hid hy;clear hy));exact bodyPost_ret (v:=.tuple #[plV ({ h with p2:=bits .and .u32 (IntKind.u32.wrap v) 7 }),.bool true]) (za9 results199 _ _ (W.heap.size+1) _ _ rfl X.out.result rfl) rfl ⟨rfl,X.out.below⟩
theorem store_p3 (h:Pl) (v:Int) (W:World):TB 199 #[plV h,.int .u64 201326604,.int .i64 4,.int .u64 v] W (.tuple #[plV (stF h 201326604 4 v).1,.bool (stF h 201326604 4 v).2]):=by
 rw [zo4];go_enter func199,ntmps199;go_upto_region 1 with (fail);have X:=hid (Own.new W h);generalize (W.alloc (plO h)).alloc zai=w0 at *;go_wp2_with (first | (go_at_call 219;with_reducible refine (zjo _).tq ?_) | (with_reducible refine zay rfl rfl (Own.store_p3 X.out _) rfl rfl ?_;intro wy hy;have X:=hid hy;clear hy) | (with_reducible refine zaa rfl rfl (Own.load X.out) rfl ?_) | (with_reducible refine zay rfl rfl (Own.tell X.out rfl _) rfl rfl ?_;intro wy hy;have X:=hid hy;clear hy));exact bodyPost_ret (v:=.tuple #[plV ({ h with p3:=bits .and .u32 (IntKind.u32.wrap v) 7 }),.bool true]) (za9 results199 _ _ (W.heap.size+1) _ _ rfl X.out.result rfl) rfl ⟨rfl,X.out.below⟩
theorem store_e0 (h:Pl) (v:Int) (W:World):TB 199 #[plV h,.int .u64 201334784,.int .i64 4,.int .u64 v] W (.tuple #[plV (stF h 201334784 4 v).1,.bool (stF h 201334784 4 v).2]):=by
 rw [zyO];go_enter func199,ntmps199;go_upto_region 1 with (fail);have X:=hid (Own.new W h);generalize (W.alloc (plO h)).alloc zai=w0 at *;go_wp2_with (first | (go_at_call 219;with_reducible refine (zi7 _).tq ?_) | (with_reducible refine zay rfl rfl (Own.store_e0 X.out _) rfl rfl ?_;intro wy hy;have X:=hid hy;clear hy) | (with_reducible refine zaa rfl rfl (Own.load X.out) rfl ?_) | (with_reducible refine zay rfl rfl (Own.tell X.out rfl _) rfl rfl ?_;intro wy hy;have X:=hid hy;clear hy));exact bodyPost_ret (v:=.tuple #[plV ({ h with e0:=bits .and .u32 (IntKind.u32.wrap v) 14 }),.bool true]) (za9 results199 _ _ (W.heap.size+1) _ _ rfl X.out.result rfl) rfl ⟨rfl,X.out.below⟩
theorem store_e1 (h:Pl) (v:Int) (W:World):TB 199 #[plV h,.int .u64 201334912,.int .i64 4,.int .u64 v] W (.tuple #[plV (stF h 201334912 4 v).1,.bool (stF h 201334912 4 v).2]):=by
 rw [zx9];go_enter func199,ntmps199;go_upto_region 1 with (fail);have X:=hid (Own.new W h);generalize (W.alloc (plO h)).alloc zai=w0 at *;go_wp2_with (first | (go_at_call 219;with_reducible refine (zk9 _).tq ?_) | (with_reducible refine zay rfl rfl (Own.store_e1 X.out _) rfl rfl ?_;intro wy hy;have X:=hid hy;clear hy) | (with_reducible refine zaa rfl rfl (Own.load X.out) rfl ?_) | (with_reducible refine zay rfl rfl (Own.tell X.out rfl _) rfl rfl ?_;intro wy hy;have X:=hid hy;clear hy));exact bodyPost_ret (v:=.tuple #[plV ({ h with e1:=bits .and .u32 (IntKind.u32.wrap v) 14 }),.bool true]) (za9 results199 _ _ (W.heap.size+1) _ _ rfl X.out.result rfl) rfl ⟨rfl,X.out.below⟩
theorem store_l0 (h:Pl) (v:Int) (W:World):TB 199 #[plV h,.int .u64 203423744,.int .i64 4,.int .u64 v] W (.tuple #[plV (stF h 203423744 4 v).1,.bool (stF h 203423744 4 v).2]):=by
 rw [zp2];go_enter func199,ntmps199;go_upto_region 1 with (fail);have X:=hid (Own.new W h);generalize (W.alloc (plO h)).alloc zai=w0 at *;go_wp2_with (first | (go_at_call 219;with_reducible refine (zjM _).tq ?_) | (with_reducible refine zay rfl rfl (Own.store_l0 X.out _) rfl rfl ?_;intro wy hy;have X:=hid hy;clear hy) | (with_reducible refine zaa rfl rfl (Own.load X.out) rfl ?_) | (with_reducible refine zay rfl rfl (Own.tell X.out rfl _) rfl rfl ?_;intro wy hy;have X:=hid hy;clear hy));exact bodyPost_ret (v:=.tuple #[plV ({ h with l0:=bits .and .u32 (IntKind.u32.wrap v) 7 }),.bool true]) (za9 results199 _ _ (W.heap.size+1) _ _ rfl X.out.result rfl) rfl ⟨rfl,X.out.below⟩
theorem store_l1 (h:Pl) (v:Int) (W:World):TB 199 #[plV h,.int .u64 203427840,.int .i64 4,.int .u64 v] W (.tuple #[plV (stF h 203427840 4 v).1,.bool (stF h 203427840 4 v).2]):=by
 rw [zoS];go_enter func199,ntmps199;go_upto_region 1 with (fail);have X:=hid (Own.new W h);generalize (W.alloc (plO h)).alloc zai=w0 at *;go_wp2_with (first | (go_at_call 219;with_reducible refine (zkV _).tq ?_) | (with_reducible refine zay rfl rfl (Own.store_l1 X.out _) rfl rfl ?_;intro wy hy;have X:=hid hy;clear hy) | (with_reducible refine zaa rfl rfl (Own.load X.out) rfl ?_) | (with_reducible refine zay rfl rfl (Own.tell X.out rfl _) rfl rfl ?_;intro wy hy;have X:=hid hy;clear hy));exact bodyPost_ret (v:=.tuple #[plV ({ h with l1:=bits .and .u32 (IntKind.u32.wrap v) 7 }),.bool true]) (za9 results199 _ _ (W.heap.size+1) _ _ rfl X.out.result rfl) rfl ⟨rfl,X.out.below⟩
theorem zzF (h:Pl) (v:Int) (hc:U32 h.c) (hv:IntKind.u32.wrap v=0) (W:World):TB 199 #[plV h,.int .u64 203423748,.int .i64 4,.int .u64 v] W (.tuple #[plV (stF h 203423748 4 v).1,.bool (stF h 203423748 4 v).2]):=by
 rw [zf0,hv];rw [zgF h h.e0 0 (by omega)];have HC:=hid (zgA h hc h.e0);clear hc;go_enter func199,ntmps199;go_upto_region 1 with (fail);have X:=hid (Own.new W h);generalize (W.alloc (plO h)).alloc zai=w0 at *;go_upto_region 14 with (first | (with_reducible refine zaa rfl rfl (Own.load X.out) rfl ?_) | (go_at_call 219;with_reducible refine (zdX _).tq ?_));refine wp_region_still_tail 11 (by kernel_rfl) (by kernel_rfl) ?_
 simp only [List.take_succ_cons,List.take_zero,List.drop_succ_cons,List.drop_zero];have X:Hid (Own W { w0 with drawn:=w0.drawn+1 } h zeroC):=hid X.out.drew;generalize ({ w0 with drawn:=w0.drawn+1 }:World)=w3 at *
 repeat (first | (with_reducible first | refine zaL rfl rfl (Own.load_c X.out) rfl ?_ | refine zaL rfl rfl (Own.load_e0 X.out) rfl ?_) | still_step)
 still_call ((ze6 _).mono fun _ _ h=>⟨h.1,h.2.symm⟩)
 repeat (first | (with_reducible first | refine zaL rfl rfl (Own.load_c X.out) rfl ?_ | refine zaL rfl rfl (Own.load_e0 X.out) rfl ?_) | still_step)
 refine wpStill_nil ?_
 go_wp2_with (first | (with_reducible refine zay rfl rfl (Own.store_c X.out _) rfl rfl ?_;intro wy hy;have X:=hid hy;clear hy;rw [HC.out] at X) | (with_reducible refine zaa rfl rfl (Own.load X.out) rfl ?_) | (with_reducible refine zay rfl rfl (Own.tell X.out rfl _) rfl rfl ?_;intro wy hy;have X:=hid hy;clear hy));exact bodyPost_ret (v:=.tuple #[plV ({ h with c:=h.c }),.bool true]) (za9 results199 _ _ (W.heap.size+1) _ _ rfl X.out.result rfl) rfl ⟨rfl,X.out.below⟩
theorem zrx (h:Pl) (v:Int) (hc:U32 h.c) (hv:IntKind.u32.wrap v=1) (W:World):TB 199 #[plV h,.int .u64 203423748,.int .i64 4,.int .u64 v] W (.tuple #[plV (stF h 203423748 4 v).1,.bool (stF h 203423748 4 v).2]):=by
 rw [zf0,hv];have HC:Hid (bits .andNot .u32 h.c (bits .and .u32 2 h.e0)=zbJ h 1 h.e0):=hid (zfa h hc h.e0 1 (by omega));clear hc;go_enter func199,ntmps199;go_upto_region 1 with (fail);have X:=hid (Own.new W h);generalize (W.alloc (plO h)).alloc zai=w0 at *;go_upto_region 14 with (first | (with_reducible refine zaa rfl rfl (Own.load X.out) rfl ?_) | (go_at_call 219;with_reducible refine (zdX _).tq ?_));refine wp_region_still_tail 11 (by kernel_rfl) (by kernel_rfl) ?_
 simp only [List.take_succ_cons,List.take_zero,List.drop_succ_cons,List.drop_zero];have X:Hid (Own W { w0 with drawn:=w0.drawn+1 } h zeroC):=hid X.out.drew;generalize ({ w0 with drawn:=w0.drawn+1 }:World)=w3 at *
 repeat (first | (with_reducible first | refine zaL rfl rfl (Own.load_c X.out) rfl ?_ | refine zaL rfl rfl (Own.load_e0 X.out) rfl ?_) | still_step)
 still_call ((zdC _).mono fun _ _ h=>⟨h.1,h.2.symm⟩)
 repeat (first | (with_reducible first | refine zaL rfl rfl (Own.load_c X.out) rfl ?_ | refine zaL rfl rfl (Own.load_e0 X.out) rfl ?_) | still_step)
 refine wpStill_nil ?_
 go_wp2_with (first | (with_reducible refine zay rfl rfl (Own.store_c X.out _) rfl rfl ?_;intro wy hy;have X:=hid hy;clear hy;rw [HC.out] at X) | (with_reducible refine zaa rfl rfl (Own.load X.out) rfl ?_) | (with_reducible refine zay rfl rfl (Own.tell X.out rfl _) rfl rfl ?_;intro wy hy;have X:=hid hy;clear hy));exact bodyPost_ret (v:=.tuple #[plV ({ h with c:=zbJ h 1 h.e0 }),.bool true]) (za9 results199 _ _ (W.heap.size+1) _ _ rfl X.out.result rfl) rfl ⟨rfl,X.out.below⟩
theorem zuz (h:Pl) (v:Int) (hc:U32 h.c) (hv:IntKind.u32.wrap v=2) (W:World):TB 199 #[plV h,.int .u64 203423748,.int .i64 4,.int .u64 v] W (.tuple #[plV (stF h 203423748 4 v).1,.bool (stF h 203423748 4 v).2]):=by
 rw [zf0,hv];have HC:Hid (bits .andNot .u32 h.c (bits .and .u32 4 h.e0)=zbJ h 2 h.e0):=hid (zfa h hc h.e0 2 (by omega));clear hc;go_enter func199,ntmps199;go_upto_region 1 with (fail);have X:=hid (Own.new W h);generalize (W.alloc (plO h)).alloc zai=w0 at *;go_upto_region 14 with (first | (with_reducible refine zaa rfl rfl (Own.load X.out) rfl ?_) | (go_at_call 219;with_reducible refine (zdX _).tq ?_));refine wp_region_still_tail 11 (by kernel_rfl) (by kernel_rfl) ?_
 simp only [List.take_succ_cons,List.take_zero,List.drop_succ_cons,List.drop_zero];have X:Hid (Own W { w0 with drawn:=w0.drawn+1 } h zeroC):=hid X.out.drew;generalize ({ w0 with drawn:=w0.drawn+1 }:World)=w3 at *
 repeat (first | (with_reducible first | refine zaL rfl rfl (Own.load_c X.out) rfl ?_ | refine zaL rfl rfl (Own.load_e0 X.out) rfl ?_) | still_step)
 still_call ((zdD _).mono fun _ _ h=>⟨h.1,h.2.symm⟩)
 repeat (first | (with_reducible first | refine zaL rfl rfl (Own.load_c X.out) rfl ?_ | refine zaL rfl rfl (Own.load_e0 X.out) rfl ?_) | still_step)
 refine wpStill_nil ?_
 go_wp2_with (first | (with_reducible refine zay rfl rfl (Own.store_c X.out _) rfl rfl ?_;intro wy hy;have X:=hid hy;clear hy;rw [HC.out] at X) | (with_reducible refine zaa rfl rfl (Own.load X.out) rfl ?_) | (with_reducible refine zay rfl rfl (Own.tell X.out rfl _) rfl rfl ?_;intro wy hy;have X:=hid hy;clear hy));exact bodyPost_ret (v:=.tuple #[plV ({ h with c:=zbJ h 2 h.e0 }),.bool true]) (za9 results199 _ _ (W.heap.size+1) _ _ rfl X.out.result rfl) rfl ⟨rfl,X.out.below⟩
theorem zqv (h:Pl) (v:Int) (hc:U32 h.c) (hv:IntKind.u32.wrap v=3) (W:World):TB 199 #[plV h,.int .u64 203423748,.int .i64 4,.int .u64 v] W (.tuple #[plV (stF h 203423748 4 v).1,.bool (stF h 203423748 4 v).2]):=by
 rw [zf0,hv];have HC:Hid (bits .andNot .u32 h.c (bits .and .u32 8 h.e0)=zbJ h 3 h.e0):=hid (zfa h hc h.e0 3 (by omega));clear hc;go_enter func199,ntmps199;go_upto_region 1 with (fail);have X:=hid (Own.new W h);generalize (W.alloc (plO h)).alloc zai=w0 at *;go_upto_region 14 with (first | (with_reducible refine zaa rfl rfl (Own.load X.out) rfl ?_) | (go_at_call 219;with_reducible refine (zdX _).tq ?_));refine wp_region_still_tail 11 (by kernel_rfl) (by kernel_rfl) ?_
 simp only [List.take_succ_cons,List.take_zero,List.drop_succ_cons,List.drop_zero];have X:Hid (Own W { w0 with drawn:=w0.drawn+1 } h zeroC):=hid X.out.drew;generalize ({ w0 with drawn:=w0.drawn+1 }:World)=w3 at *
 repeat (first | (with_reducible first | refine zaL rfl rfl (Own.load_c X.out) rfl ?_ | refine zaL rfl rfl (Own.load_e0 X.out) rfl ?_) | still_step)
 still_call ((zdF _).mono fun _ _ h=>⟨h.1,h.2.symm⟩)
 repeat (first | (with_reducible first | refine zaL rfl rfl (Own.load_c X.out) rfl ?_ | refine zaL rfl rfl (Own.load_e0 X.out) rfl ?_) | still_step)
 refine wpStill_nil ?_
 go_wp2_with (first | (with_reducible refine zay rfl rfl (Own.store_c X.out _) rfl rfl ?_;intro wy hy;have X:=hid hy;clear hy;rw [HC.out] at X) | (with_reducible refine zaa rfl rfl (Own.load X.out) rfl ?_) | (with_reducible refine zay rfl rfl (Own.tell X.out rfl _) rfl rfl ?_;intro wy hy;have X:=hid hy;clear hy));exact bodyPost_ret (v:=.tuple #[plV ({ h with c:=zbJ h 3 h.e0 }),.bool true]) (za9 results199 _ _ (W.heap.size+1) _ _ rfl X.out.result rfl) rfl ⟨rfl,X.out.below⟩
theorem zmZ (h:Pl) (v n:Int) (hc:U32 h.c) (hv:IntKind.u32.wrap v=n) (hu:U32 n) (h4:4≤n) (W:World):TB 199 #[plV h,.int .u64 203423748,.int .i64 4,.int .u64 v] W (.tuple #[plV (stF h 203423748 4 v).1,.bool (stF h 203423748 4 v).2]):=by
 rw [zf0,hv,zgF h h.e0 n (by omega)];have HC:=hid (zgA h hc h.e0);clear hc;go_enter func199,ntmps199;go_upto_region 1 with (fail);have X:=hid (Own.new W h);generalize (W.alloc (plO h)).alloc zai=w0 at *;go_upto_region 14 with (first | (with_reducible refine zaa rfl rfl (Own.load X.out) rfl ?_) | (go_at_call 219;with_reducible refine (zdX _).tq ?_));refine wp_region_still_tail 11 (by kernel_rfl) (by kernel_rfl) ?_
 simp only [List.take_succ_cons,List.take_zero,List.drop_succ_cons,List.drop_zero];have X:Hid (Own W { w0 with drawn:=w0.drawn+1 } h zeroC):=hid X.out.drew;generalize ({ w0 with drawn:=w0.drawn+1 }:World)=w3 at *
 repeat (first | (with_reducible first | refine zaL rfl rfl (Own.load_c X.out) rfl ?_ | refine zaL rfl rfl (Own.load_e0 X.out) rfl ?_) | still_step)
 still_call ((zkp n hu h4 _).mono fun _ _ h=>⟨h.1,h.2.symm⟩)
 repeat (first | (with_reducible first | refine zaL rfl rfl (Own.load_c X.out) rfl ?_ | refine zaL rfl rfl (Own.load_e0 X.out) rfl ?_) | still_step)
 refine wpStill_nil ?_
 go_wp2_with (first | (with_reducible refine zay rfl rfl (Own.store_c X.out _) rfl rfl ?_;intro wy hy;have X:=hid hy;clear hy;rw [HC.out] at X) | (with_reducible refine zaa rfl rfl (Own.load X.out) rfl ?_) | (with_reducible refine zay rfl rfl (Own.tell X.out rfl _) rfl rfl ?_;intro wy hy;have X:=hid hy;clear hy));exact bodyPost_ret (v:=.tuple #[plV ({ h with c:=h.c }),.bool true]) (za9 results199 _ _ (W.heap.size+1) _ _ rfl X.out.result rfl) rfl ⟨rfl,X.out.below⟩
theorem zti (h:Pl) (v:Int) (hc:U32 h.c) (W:World):TB 199 #[plV h,.int .u64 203423748,.int .i64 4,.int .u64 v] W (.tuple #[plV (stF h 203423748 4 v).1,.bool (stF h 203423748 4 v).2]):=by
 have hu:U32 (IntKind.u32.wrap v):=by unfold U32;rw [IntKind.wrap_u32];omega
 have h0:=hu.1;rcases (show IntKind.u32.wrap v=0∨IntKind.u32.wrap v=1∨IntKind.u32.wrap v=2∨IntKind.u32.wrap v=3∨4≤IntKind.u32.wrap v by omega) with e | e | e | e | e
 ·exact zzF h v hc e W
 ·exact zrx h v hc e W
 ·exact zuz h v hc e W
 ·exact zqv h v hc e W
 ·exact zmZ h v _ hc rfl hu e W
theorem zyH (h:Pl) (v:Int) (hc:U32 h.c) (hv:IntKind.u32.wrap v=0) (W:World):TB 199 #[plV h,.int .u64 203427844,.int .i64 4,.int .u64 v] W (.tuple #[plV (stF h 203427844 4 v).1,.bool (stF h 203427844 4 v).2]):=by
 rw [zfY,hv];rw [zgF h h.e1 0 (by omega)];have HC:=hid (zgA h hc h.e1);clear hc;go_enter func199,ntmps199;go_upto_region 1 with (fail);have X:=hid (Own.new W h);generalize (W.alloc (plO h)).alloc zai=w0 at *;go_upto_region 14 with (first | (with_reducible refine zaa rfl rfl (Own.load X.out) rfl ?_) | (go_at_call 219;with_reducible refine (zd2 _).tq ?_));refine wp_region_still_tail 11 (by kernel_rfl) (by kernel_rfl) ?_
 simp only [List.take_succ_cons,List.take_zero,List.drop_succ_cons,List.drop_zero];have X:Hid (Own W { w0 with drawn:=w0.drawn+1 } h zeroC):=hid X.out.drew;generalize ({ w0 with drawn:=w0.drawn+1 }:World)=w3 at *
 repeat (first | (with_reducible first | refine zaL rfl rfl (Own.load_c X.out) rfl ?_ | refine zaL rfl rfl (Own.load_e1 X.out) rfl ?_) | still_step)
 still_call ((ze6 _).mono fun _ _ h=>⟨h.1,h.2.symm⟩)
 repeat (first | (with_reducible first | refine zaL rfl rfl (Own.load_c X.out) rfl ?_ | refine zaL rfl rfl (Own.load_e1 X.out) rfl ?_) | still_step)
 refine wpStill_nil ?_
 go_wp2_with (first | (with_reducible refine zay rfl rfl (Own.store_c X.out _) rfl rfl ?_;intro wy hy;have X:=hid hy;clear hy;rw [HC.out] at X) | (with_reducible refine zaa rfl rfl (Own.load X.out) rfl ?_) | (with_reducible refine zay rfl rfl (Own.tell X.out rfl _) rfl rfl ?_;intro wy hy;have X:=hid hy;clear hy));exact bodyPost_ret (v:=.tuple #[plV ({ h with c:=h.c }),.bool true]) (za9 results199 _ _ (W.heap.size+1) _ _ rfl X.out.result rfl) rfl ⟨rfl,X.out.below⟩
theorem zpd (h:Pl) (v:Int) (hc:U32 h.c) (hv:IntKind.u32.wrap v=1) (W:World):TB 199 #[plV h,.int .u64 203427844,.int .i64 4,.int .u64 v] W (.tuple #[plV (stF h 203427844 4 v).1,.bool (stF h 203427844 4 v).2]):=by
 rw [zfY,hv];have HC:Hid (bits .andNot .u32 h.c (bits .and .u32 2 h.e1)=zbJ h 1 h.e1):=hid (zfa h hc h.e1 1 (by omega));clear hc;go_enter func199,ntmps199;go_upto_region 1 with (fail);have X:=hid (Own.new W h);generalize (W.alloc (plO h)).alloc zai=w0 at *;go_upto_region 14 with (first | (with_reducible refine zaa rfl rfl (Own.load X.out) rfl ?_) | (go_at_call 219;with_reducible refine (zd2 _).tq ?_));refine wp_region_still_tail 11 (by kernel_rfl) (by kernel_rfl) ?_
 simp only [List.take_succ_cons,List.take_zero,List.drop_succ_cons,List.drop_zero];have X:Hid (Own W { w0 with drawn:=w0.drawn+1 } h zeroC):=hid X.out.drew;generalize ({ w0 with drawn:=w0.drawn+1 }:World)=w3 at *
 repeat (first | (with_reducible first | refine zaL rfl rfl (Own.load_c X.out) rfl ?_ | refine zaL rfl rfl (Own.load_e1 X.out) rfl ?_) | still_step)
 still_call ((zdC _).mono fun _ _ h=>⟨h.1,h.2.symm⟩)
 repeat (first | (with_reducible first | refine zaL rfl rfl (Own.load_c X.out) rfl ?_ | refine zaL rfl rfl (Own.load_e1 X.out) rfl ?_) | still_step)
 refine wpStill_nil ?_
 go_wp2_with (first | (with_reducible refine zay rfl rfl (Own.store_c X.out _) rfl rfl ?_;intro wy hy;have X:=hid hy;clear hy;rw [HC.out] at X) | (with_reducible refine zaa rfl rfl (Own.load X.out) rfl ?_) | (with_reducible refine zay rfl rfl (Own.tell X.out rfl _) rfl rfl ?_;intro wy hy;have X:=hid hy;clear hy));exact bodyPost_ret (v:=.tuple #[plV ({ h with c:=zbJ h 1 h.e1 }),.bool true]) (za9 results199 _ _ (W.heap.size+1) _ _ rfl X.out.result rfl) rfl ⟨rfl,X.out.below⟩
theorem zn1 (h:Pl) (v:Int) (hc:U32 h.c) (hv:IntKind.u32.wrap v=2) (W:World):TB 199 #[plV h,.int .u64 203427844,.int .i64 4,.int .u64 v] W (.tuple #[plV (stF h 203427844 4 v).1,.bool (stF h 203427844 4 v).2]):=by
 rw [zfY,hv];have HC:Hid (bits .andNot .u32 h.c (bits .and .u32 4 h.e1)=zbJ h 2 h.e1):=hid (zfa h hc h.e1 2 (by omega));clear hc;go_enter func199,ntmps199;go_upto_region 1 with (fail);have X:=hid (Own.new W h);generalize (W.alloc (plO h)).alloc zai=w0 at *;go_upto_region 14 with (first | (with_reducible refine zaa rfl rfl (Own.load X.out) rfl ?_) | (go_at_call 219;with_reducible refine (zd2 _).tq ?_));refine wp_region_still_tail 11 (by kernel_rfl) (by kernel_rfl) ?_
 simp only [List.take_succ_cons,List.take_zero,List.drop_succ_cons,List.drop_zero];have X:Hid (Own W { w0 with drawn:=w0.drawn+1 } h zeroC):=hid X.out.drew;generalize ({ w0 with drawn:=w0.drawn+1 }:World)=w3 at *
 repeat (first | (with_reducible first | refine zaL rfl rfl (Own.load_c X.out) rfl ?_ | refine zaL rfl rfl (Own.load_e1 X.out) rfl ?_) | still_step)
 still_call ((zdD _).mono fun _ _ h=>⟨h.1,h.2.symm⟩)
 repeat (first | (with_reducible first | refine zaL rfl rfl (Own.load_c X.out) rfl ?_ | refine zaL rfl rfl (Own.load_e1 X.out) rfl ?_) | still_step)
 refine wpStill_nil ?_
 go_wp2_with (first | (with_reducible refine zay rfl rfl (Own.store_c X.out _) rfl rfl ?_;intro wy hy;have X:=hid hy;clear hy;rw [HC.out] at X) | (with_reducible refine zaa rfl rfl (Own.load X.out) rfl ?_) | (with_reducible refine zay rfl rfl (Own.tell X.out rfl _) rfl rfl ?_;intro wy hy;have X:=hid hy;clear hy));exact bodyPost_ret (v:=.tuple #[plV ({ h with c:=zbJ h 2 h.e1 }),.bool true]) (za9 results199 _ _ (W.heap.size+1) _ _ rfl X.out.result rfl) rfl ⟨rfl,X.out.below⟩
theorem zwk (h:Pl) (v:Int) (hc:U32 h.c) (hv:IntKind.u32.wrap v=3) (W:World):TB 199 #[plV h,.int .u64 203427844,.int .i64 4,.int .u64 v] W (.tuple #[plV (stF h 203427844 4 v).1,.bool (stF h 203427844 4 v).2]):=by
 rw [zfY,hv];have HC:Hid (bits .andNot .u32 h.c (bits .and .u32 8 h.e1)=zbJ h 3 h.e1):=hid (zfa h hc h.e1 3 (by omega));clear hc;go_enter func199,ntmps199;go_upto_region 1 with (fail);have X:=hid (Own.new W h);generalize (W.alloc (plO h)).alloc zai=w0 at *;go_upto_region 14 with (first | (with_reducible refine zaa rfl rfl (Own.load X.out) rfl ?_) | (go_at_call 219;with_reducible refine (zd2 _).tq ?_));refine wp_region_still_tail 11 (by kernel_rfl) (by kernel_rfl) ?_
 simp only [List.take_succ_cons,List.take_zero,List.drop_succ_cons,List.drop_zero];have X:Hid (Own W { w0 with drawn:=w0.drawn+1 } h zeroC):=hid X.out.drew;generalize ({ w0 with drawn:=w0.drawn+1 }:World)=w3 at *
 repeat (first | (with_reducible first | refine zaL rfl rfl (Own.load_c X.out) rfl ?_ | refine zaL rfl rfl (Own.load_e1 X.out) rfl ?_) | still_step)
 still_call ((zdF _).mono fun _ _ h=>⟨h.1,h.2.symm⟩)
 repeat (first | (with_reducible first | refine zaL rfl rfl (Own.load_c X.out) rfl ?_ | refine zaL rfl rfl (Own.load_e1 X.out) rfl ?_) | still_step)
 refine wpStill_nil ?_
 go_wp2_with (first | (with_reducible refine zay rfl rfl (Own.store_c X.out _) rfl rfl ?_;intro wy hy;have X:=hid hy;clear hy;rw [HC.out] at X) | (with_reducible refine zaa rfl rfl (Own.load X.out) rfl ?_) | (with_reducible refine zay rfl rfl (Own.tell X.out rfl _) rfl rfl ?_;intro wy hy;have X:=hid hy;clear hy));exact bodyPost_ret (v:=.tuple #[plV ({ h with c:=zbJ h 3 h.e1 }),.bool true]) (za9 results199 _ _ (W.heap.size+1) _ _ rfl X.out.result rfl) rfl ⟨rfl,X.out.below⟩
theorem zsa (h:Pl) (v n:Int) (hc:U32 h.c) (hv:IntKind.u32.wrap v=n) (hu:U32 n) (h4:4≤n) (W:World):TB 199 #[plV h,.int .u64 203427844,.int .i64 4,.int .u64 v] W (.tuple #[plV (stF h 203427844 4 v).1,.bool (stF h 203427844 4 v).2]):=by
 rw [zfY,hv,zgF h h.e1 n (by omega)];have HC:=hid (zgA h hc h.e1);clear hc;go_enter func199,ntmps199;go_upto_region 1 with (fail);have X:=hid (Own.new W h);generalize (W.alloc (plO h)).alloc zai=w0 at *;go_upto_region 14 with (first | (with_reducible refine zaa rfl rfl (Own.load X.out) rfl ?_) | (go_at_call 219;with_reducible refine (zd2 _).tq ?_));refine wp_region_still_tail 11 (by kernel_rfl) (by kernel_rfl) ?_
 simp only [List.take_succ_cons,List.take_zero,List.drop_succ_cons,List.drop_zero];have X:Hid (Own W { w0 with drawn:=w0.drawn+1 } h zeroC):=hid X.out.drew;generalize ({ w0 with drawn:=w0.drawn+1 }:World)=w3 at *
 repeat (first | (with_reducible first | refine zaL rfl rfl (Own.load_c X.out) rfl ?_ | refine zaL rfl rfl (Own.load_e1 X.out) rfl ?_) | still_step)
 still_call ((zkp n hu h4 _).mono fun _ _ h=>⟨h.1,h.2.symm⟩)
 repeat (first | (with_reducible first | refine zaL rfl rfl (Own.load_c X.out) rfl ?_ | refine zaL rfl rfl (Own.load_e1 X.out) rfl ?_) | still_step)
 refine wpStill_nil ?_
 go_wp2_with (first | (with_reducible refine zay rfl rfl (Own.store_c X.out _) rfl rfl ?_;intro wy hy;have X:=hid hy;clear hy;rw [HC.out] at X) | (with_reducible refine zaa rfl rfl (Own.load X.out) rfl ?_) | (with_reducible refine zay rfl rfl (Own.tell X.out rfl _) rfl rfl ?_;intro wy hy;have X:=hid hy;clear hy));exact bodyPost_ret (v:=.tuple #[plV ({ h with c:=h.c }),.bool true]) (za9 results199 _ _ (W.heap.size+1) _ _ rfl X.out.result rfl) rfl ⟨rfl,X.out.below⟩
theorem zye (h:Pl) (v:Int) (hc:U32 h.c) (W:World):TB 199 #[plV h,.int .u64 203427844,.int .i64 4,.int .u64 v] W (.tuple #[plV (stF h 203427844 4 v).1,.bool (stF h 203427844 4 v).2]):=by
 have hu:U32 (IntKind.u32.wrap v):=by unfold U32;rw [IntKind.wrap_u32];omega
 have h0:=hu.1;rcases (show IntKind.u32.wrap v=0∨IntKind.u32.wrap v=1∨IntKind.u32.wrap v=2∨IntKind.u32.wrap v=3∨4≤IntKind.u32.wrap v by omega) with e | e | e | e | e
 ·exact zyH h v hc e W
 ·exact zpd h v hc e W
 ·exact zn1 h v hc e W
 ·exact zwk h v hc e W
 ·exact zsa h v _ hc rfl hu e W
theorem zcs (h:Pl) (t z v:Int) (hz:(z != 4)=true) (W:World):TB 199 #[plV h,.int .u64 t,.int .i64 z,.int .u64 v] W (.tuple #[plV (stF h t z v).1,.bool (stF h t z v).2]):=by
 rw [zbL h t z v (.inl (by simpa using hz))];go_enter func199,ntmps199;go_upto_region 1 with (fail);have X:=hid (Own.new W h);generalize (W.alloc (plO h)).alloc zai=w0 at *;go_wp2_with (with_reducible refine zay rfl rfl (Own.zero X.out rfl) rfl rfl ?_;intro wy hy;have X:=hid hy;clear hy);exact bodyPost_ret (v:=.tuple #[plV (zdj),.bool false]) (za9 results199 _ _ (W.heap.size+1) _ _ rfl X.out.result rfl) rfl ⟨rfl,X.out.below⟩
theorem zoD (h:Pl) (t v:Int) (hn:zdz t) (W:World):TB 199 #[plV h,.int .u64 t,.int .i64 4,.int .u64 v] W (.tuple #[plV (stF h t 4 v).1,.bool (stF h t 4 v).2]):=by
 rw [zbL h t 4 v (.inr hn)];go_enter func199,ntmps199;go_upto_region 1 with (fail);have X:=hid (Own.new W h);generalize (W.alloc (plO h)).alloc zai=w0 at *;go_wp2_with (first | (go_at_call 219;with_reducible refine (zie t hn _).tq ?_) | (with_reducible refine zay rfl rfl (Own.zero X.out rfl) rfl rfl ?_;intro wy hy;have X:=hid hy;clear hy));exact bodyPost_ret (v:=.tuple #[plV (zdj),.bool false]) (za9 results199 _ _ (W.heap.size+1) _ _ rfl X.out.result rfl) rfl ⟨rfl,X.out.below⟩
theorem zmj (h:Pl) (v:Int) (W:World):TB 199 #[plV h,.int .u64 201330688,.int .i64 4,.int .u64 v] W (.tuple #[plV (stF h 201330688 4 v).1,.bool (stF h 201330688 4 v).2]):=by
 rw [zka h v];go_enter func199,ntmps199;go_upto_region 1 with (fail);have X:=hid (Own.new W h);generalize (W.alloc (plO h)).alloc zai=w0 at *;go_wp2_with (first | (go_at_call 219;with_reducible refine (zkO _).tq ?_) | (with_reducible refine zay rfl rfl (Own.zero X.out rfl) rfl rfl ?_;intro wy hy;have X:=hid hy;clear hy));exact bodyPost_ret (v:=.tuple #[plV (zdj),.bool false]) (za9 results199 _ _ (W.heap.size+1) _ _ rfl X.out.result rfl) rfl ⟨rfl,X.out.below⟩
theorem zhr (h:Pl) (t z v:Int) (hc:U32 h.c) (W:World):TB 199 #[plV h,.int .u64 t,.int .i64 z,.int .u64 v] W (.tuple #[plV (stF h t z v).1,.bool (stF h t z v).2]):=by
 by_cases hz:z=4
 ·subst hz
  by_cases h_p1:t=201326596
  ·subst h_p1;exact store_p1 h v W
  by_cases h_p2:t=201326600
  ·subst h_p2;exact store_p2 h v W
  by_cases h_p3:t=201326604
  ·subst h_p3;exact store_p3 h v W
  by_cases h_wait:t=201330688
  ·subst h_wait;exact zmj h v W
  by_cases h_e0:t=201334784
  ·subst h_e0;exact store_e0 h v W
  by_cases h_e1:t=201334912
  ·subst h_e1;exact store_e1 h v W
  by_cases h_l0:t=203423744
  ·subst h_l0;exact store_l0 h v W
  by_cases h_l1:t=203427840
  ·subst h_l1;exact store_l1 h v W
  by_cases h_b0:t=203423748
  ·subst h_b0;exact zti h v hc W
  by_cases h_b1:t=203427844
  ·subst h_b1;exact zye h v hc W
  exact zoD h t v ⟨h_p1,h_p2,h_p3,h_wait,h_e0,h_e1,h_l0,h_l1,h_b0,h_b1⟩ W
 ·exact zcs h t z v (by simpa using hz) W
end Go.Proofs.YtplcfdnfeclpmaaGreatDoor.Pc
