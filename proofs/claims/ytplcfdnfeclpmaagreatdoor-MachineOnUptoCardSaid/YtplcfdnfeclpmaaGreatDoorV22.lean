/- MachineOn, part 22. -/
import Derived.StillTailTactics
import Derived.Test.YtplcfdnfeclpmaaGreatDoorV06
set_option maxHeartbeats 4000000
set_option maxRecDepth 100000
open Go.Lib (hid)
open Go Go.RowKit Go.Deep Go.Joins Go.Proofs.Tryz
namespace Go.Proofs.YtplcfdnfeclpmaaGreatDoor.Pc
structure Own (W w:World) (h:Pl) (r:Array Value):Prop where
 box:Box w W.heap.size h
 res:w.heap[W.heap.size+1]?=some (.cells r 33 (0,0))
 below:Below W.heap.size W w
theorem Own.next {W w w':World} {h:Pl} {r:Array Value} (k:Own W w h r) (j:Below w.heap.size w w'):Own W w' h r :=
 ⟨k.box.next j,(j.block _ (Array.getElem?_eq_some_iff.1 k.res).1).trans k.res,k.below.trans (j.mono k.below.size)⟩
theorem Own.drew {W w:World} {h:Pl} {r:Array Value} (k:Own W w h r):Own W w.drew h r:=k.next (Below.refl _ _).drew
theorem Own.new (W:World) (h:Pl):Own W ((W.alloc (plO h)).alloc zaj) h zeroC:=⟨St.box 0 W h zeroC,St.res 0 W h zeroC,St.below 0 W h zeroC⟩
theorem zzK (w:World) (b:Nat) (cs:Array Value):(w.setRow b cs).heap.size=w.heap.size:=by simp [World.setRow]
theorem zkp {B:Nat} {w0 w:World} (k:Below B w0 w) (b:Nat) (hb:B≤b) (cs:Array Value):Below B w0 (w.setRow b cs) :=
 ⟨k.os,k.tape,k.output,by rw [zzK];exact k.size,fun i hi=>(setRow_other w b i cs (by omega)).trans (k.block i hi)⟩
theorem Own.put {W w:World} {h:Pl} {r:Array Value} (k:Own W w h r) (g:Pl):Own W (w.setRow W.heap.size (plC g)) g r :=
 ⟨Box.mine k.box g,(setRow_other w _ _ _ (by omega)).trans k.res,zkp k.below _ (Nat.le_refl _) _⟩
theorem Own.full {W w:World} {h:Pl} {r:Array Value} (k:Own W w h r) (r':Array Value):Own W (w.setRow (W.heap.size+1) r') h r' :=
 ⟨k.box.over (by omega) _,setRow_heap w _ r r' 33 (0,0) k.res,zkp k.below _ (by omega) _⟩
theorem Own.load {W w:World} {h:Pl} {r:Array Value} (k:Own W w h r):(Instr.loadAt 33 (.pointer (some ⟨W.heap.size,0,none⟩))).run Tryz.prog w=.ok (plV h) w:=k.box.load
theorem Own.tell {W w:World} {h:Pl} {r:Array Value} (k:Own W w h r) (hr:r.size=9) (g:Pl):∃ w',(Instr.storeAt 33 (.pointer (some ⟨W.heap.size+1,0,none⟩)) (plV g)).run Tryz.prog w=.ok () w'∧Own W w' h (plC g) :=
 ⟨_,zaY _ _ _ _ k.res hr,k.full _⟩
theorem Own.zero {W w:World} {h:Pl} {r:Array Value} (k:Own W w h r) (hr:r.size=9):∃ w',(Instr.storeAt 33 (.pointer (some ⟨W.heap.size+1,0,none⟩)) (.agg zeroC)).run Tryz.prog w=.ok () w'∧Own W w' h (plC zdm):=k.tell hr zdm
theorem Own.result {W w:World} {h g:Pl} (k:Own W w h (plC g)):Box w (W.heap.size+1) g:=k.res
theorem Own.store_at {W w:World} {h:Pl} {r:Array Value} (k:Own W w h r) (g:Pl) (i:Nat) {v:Value} (hi:i<9) (h1:v.oneCell'=true) (hc:v.cells=#[v]) (ht:plL g=(plL h).set i v):∃ w',(Instr.storeAt 29 (.pointer (some ⟨W.heap.size,i,none⟩)) v).run Tryz.prog w=.ok () w'∧Own W w' g r :=
 ⟨_,zbQ _ _ i 29 33 _ _ k.box zla (by rw [zeY];omega) h1 hc,by rw [zly h g i v ht];exact k.put g⟩
theorem Own.load_p1 {W w:World} {h:Pl} {r:Array Value} (k:Own W w h r):(Instr.loadAt 29 (.pointer (some ⟨W.heap.size,1,none⟩))).run Tryz.prog w=.ok (.int .u32 h.p1) w:=k.box.load_p1
theorem Own.store_p1 {W w:World} {h:Pl} {r:Array Value} (k:Own W w h r) (v:Int):∃ w',(Instr.storeAt 29 (.pointer (some ⟨W.heap.size,1,none⟩)) (.int .u32 v)).run Tryz.prog w=.ok () w'∧Own W w' { h with p1:=v } r:=k.store_at _ 1 (by omega) rfl rfl rfl
theorem Own.load_p2 {W w:World} {h:Pl} {r:Array Value} (k:Own W w h r):(Instr.loadAt 29 (.pointer (some ⟨W.heap.size,2,none⟩))).run Tryz.prog w=.ok (.int .u32 h.p2) w:=k.box.load_p2
theorem Own.store_p2 {W w:World} {h:Pl} {r:Array Value} (k:Own W w h r) (v:Int):∃ w',(Instr.storeAt 29 (.pointer (some ⟨W.heap.size,2,none⟩)) (.int .u32 v)).run Tryz.prog w=.ok () w'∧Own W w' { h with p2:=v } r:=k.store_at _ 2 (by omega) rfl rfl rfl
theorem Own.load_p3 {W w:World} {h:Pl} {r:Array Value} (k:Own W w h r):(Instr.loadAt 29 (.pointer (some ⟨W.heap.size,3,none⟩))).run Tryz.prog w=.ok (.int .u32 h.p3) w:=k.box.load_p3
theorem Own.store_p3 {W w:World} {h:Pl} {r:Array Value} (k:Own W w h r) (v:Int):∃ w',(Instr.storeAt 29 (.pointer (some ⟨W.heap.size,3,none⟩)) (.int .u32 v)).run Tryz.prog w=.ok () w'∧Own W w' { h with p3:=v } r:=k.store_at _ 3 (by omega) rfl rfl rfl
theorem Own.load_e0 {W w:World} {h:Pl} {r:Array Value} (k:Own W w h r):(Instr.loadAt 29 (.pointer (some ⟨W.heap.size,4,none⟩))).run Tryz.prog w=.ok (.int .u32 h.e0) w:=k.box.load_e0
theorem Own.store_e0 {W w:World} {h:Pl} {r:Array Value} (k:Own W w h r) (v:Int):∃ w',(Instr.storeAt 29 (.pointer (some ⟨W.heap.size,4,none⟩)) (.int .u32 v)).run Tryz.prog w=.ok () w'∧Own W w' { h with e0:=v } r:=k.store_at _ 4 (by omega) rfl rfl rfl
theorem Own.load_e1 {W w:World} {h:Pl} {r:Array Value} (k:Own W w h r):(Instr.loadAt 29 (.pointer (some ⟨W.heap.size,5,none⟩))).run Tryz.prog w=.ok (.int .u32 h.e1) w:=k.box.load_e1
theorem Own.store_e1 {W w:World} {h:Pl} {r:Array Value} (k:Own W w h r) (v:Int):∃ w',(Instr.storeAt 29 (.pointer (some ⟨W.heap.size,5,none⟩)) (.int .u32 v)).run Tryz.prog w=.ok () w'∧Own W w' { h with e1:=v } r:=k.store_at _ 5 (by omega) rfl rfl rfl
theorem Own.load_l0 {W w:World} {h:Pl} {r:Array Value} (k:Own W w h r):(Instr.loadAt 29 (.pointer (some ⟨W.heap.size,6,none⟩))).run Tryz.prog w=.ok (.int .u32 h.l0) w:=k.box.load_l0
theorem Own.store_l0 {W w:World} {h:Pl} {r:Array Value} (k:Own W w h r) (v:Int):∃ w',(Instr.storeAt 29 (.pointer (some ⟨W.heap.size,6,none⟩)) (.int .u32 v)).run Tryz.prog w=.ok () w'∧Own W w' { h with l0:=v } r:=k.store_at _ 6 (by omega) rfl rfl rfl
theorem Own.load_l1 {W w:World} {h:Pl} {r:Array Value} (k:Own W w h r):(Instr.loadAt 29 (.pointer (some ⟨W.heap.size,7,none⟩))).run Tryz.prog w=.ok (.int .u32 h.l1) w:=k.box.load_l1
theorem Own.store_l1 {W w:World} {h:Pl} {r:Array Value} (k:Own W w h r) (v:Int):∃ w',(Instr.storeAt 29 (.pointer (some ⟨W.heap.size,7,none⟩)) (.int .u32 v)).run Tryz.prog w=.ok () w'∧Own W w' { h with l1:=v } r:=k.store_at _ 7 (by omega) rfl rfl rfl
theorem Own.load_c {W w:World} {h:Pl} {r:Array Value} (k:Own W w h r):(Instr.loadAt 29 (.pointer (some ⟨W.heap.size,8,none⟩))).run Tryz.prog w=.ok (.int .u32 h.c) w:=k.box.load_c
theorem Own.store_c {W w:World} {h:Pl} {r:Array Value} (k:Own W w h r) (v:Int):∃ w',(Instr.storeAt 29 (.pointer (some ⟨W.heap.size,8,none⟩)) (.int .u32 v)).run Tryz.prog w=.ok () w'∧Own W w' { h with c:=v } r:=k.store_at _ 8 (by omega) rfl rfl rfl
end Go.Proofs.YtplcfdnfeclpmaaGreatDoor.Pc
namespace Go
theorem zay {P:Program} {w:World} {ops:Array Oper} {rest:List Oper} {o:Oper} {a:Act} {Q:Exit→Act→World→Prop} {T:World→Prop} (hgd:o.guard=none) {t:TypeId} {p x:Operand} (ho:o.op=.store t p x) {v u:Value}
  (hrun:∃ w',(Instr.storeAt t v u).run P w=.ok () w'∧T w') (hp:a.eval p=v) (hx:a.eval x=u) (h:∀ w',T w'→wpList P ops Q rest (a.put o.dst undef) w'):wpList P ops Q (o :: rest) a w:=by
 obtain ⟨w',hr,ht⟩:=hrun;exact zan hgd ho hr hp hx (h w' ht)
end Go
namespace Go.Proofs.YtplcfdnfeclpmaaGreatDoor.Pc
theorem zaM {P:Program} {ops:Array Oper} {w:World} {Q:Act→Prop} {rest:List Oper} {o:Oper} {a:Act} (hgd:o.guard=none) {t:TypeId} {p:Operand} (ho:o.op=.load t p) {v r:Value} (hrun:(Instr.loadAt t v).run P w=.ok r w) (hp:a.eval p=v) (h:wpStill P ops w Q rest (a.put o.dst r)):wpStill P ops w Q (o :: rest) a:=by
 refine wpStill_step fun K hK=>?_
 simp only [Region.wanted,hgd,if_true];unfold Oper.still;rw [zbg ho hrun hp];exact ⟨rfl,hK _ h⟩
end Go.Proofs.YtplcfdnfeclpmaaGreatDoor.Pc
namespace Go.Proofs.YtplcfdnfeclpmaaGreatDoor.Pc
theorem zkb (x:Int) (hx:U32 x):bits .andNot .u32 x 0=x:=by
 apply zci _ _ (zh1 _ _) hx
 intro i hi;rw [zcd _ _ i hi,zcv]
 simp
theorem zyF (x:Int):bits .and .u32 0 x=0:=by
 apply zci _ _ (zgV _ _) zfY
 intro i _;rw [zbd,zcv]
 simp
theorem zu7 (k:Nat) (hk:1≤k∧k≤3):U32 (wt k):=by
 match k,hk with
 | 1,_=>exact ⟨by decide,by decide⟩
 | 2,_=>exact ⟨by decide,by decide⟩
 | 3,_=>exact ⟨by decide,by decide⟩
 | k+4,h=>omega
theorem zqv (e:Int) (k:Nat) (hk:1≤k∧k≤3):bits .and .u32 (wt k) e=if bitT e k=true then wt k else 0:=by
 apply zci _ _ (zgV _ _)
 ·split
  ·exact zu7 k hk
  ·exact zfY
 ·intro i hi
  rw [zbd,zfb k hk i hi]
  by_cases hik:i=k
  ·subst hik
   split
   ·rename_i h;rw [zfb i hk i hi,h];simp
   ·rename_i h;rw [zcv];simp at h;rw [h];simp
  ·have:(i==k)=false:=by simp [hik]
   rw [this]
   split
   ·rw [zfb k hk i hi,this];rfl
   ·rw [zcv];rfl
theorem ze0 (h:Pl) (hc:U32 h.c) (e:Int) (k:Nat) (hk:1≤k∧k≤3):bits .andNot .u32 h.c (bits .and .u32 (wt k) e)=zbP h k e:=by
 unfold zbP;rw [zqv e k hk]
 by_cases hb:bitT e k=true
 ·rw [if_pos hb,if_pos ⟨by omega,by simpa using hb⟩]
 ·rw [if_neg hb,if_neg (fun a=>hb (by simpa using a.2)),zkb _ hc]
theorem zha (h:Pl) (e n:Int) (hn:n<1∨3<n):zbP h n e=h.c:=by
 unfold zbP;rw [if_neg (by omega)]
theorem zhc (h:Pl) (hc:U32 h.c) (e:Int):bits .andNot .u32 h.c (bits .and .u32 0 e)=h.c:=by rw [zyF,zkb _ hc]
theorem store_p1 (h:Pl) (v:Int) (W:World):TB 199 #[plV h,.int .u64 201326596,.int .i64 4,.int .u64 v] W (.tuple #[plV (stF h 201326596 4 v).1,.bool (stF h 201326596 4 v).2]):=by
 rw [zqV];go_enter func199,ntmps199;go_upto_region 1 with (fail);have X:=hid (Own.new W h);generalize (W.alloc (plO h)).alloc zaj=w0 at *;go_wp2_with (first | (go_at_call 219;with_reducible refine (zkr _).tq ?_) | (with_reducible refine zay rfl rfl (Own.store_p1 X.out _) rfl rfl ?_;intro wy hy;have X:=hid hy;clear hy) | (with_reducible refine zaa rfl rfl (Own.load X.out) rfl ?_) | (with_reducible refine zay rfl rfl (Own.tell X.out rfl _) rfl rfl ?_;intro wy hy;have X:=hid hy;clear hy));exact bodyPost_ret (v:=.tuple #[plV ({ h with p1:=bits .and .u32 (IntKind.u32.wrap v) 7 }),.bool true]) (zbv results199 _ _ (W.heap.size+1) _ _ rfl X.out.result rfl) rfl ⟨rfl,X.out.below⟩
theorem store_p2 (h:Pl) (v:Int) (W:World):TB 199 #[plV h,.int .u64 201326600,.int .i64 4,.int .u64 v] W (.tuple #[plV (stF h 201326600 4 v).1,.bool (stF h 201326600 4 v).2]):=by
 rw [zzC];go_enter func199,ntmps199;go_upto_region 1 with (fail);have X:=hid (Own.new W h);generalize (W.alloc (plO h)).alloc zaj=w0 at *;go_wp2_with (first | (go_at_call 219;with_reducible refine (zjZ _).tq ?_) | (with_reducible refine zay rfl rfl (Own.store_p2 X.out _) rfl rfl ?_;intro wy hy;have X:=hid hy;clear hy) | (with_reducible refine zaa rfl rfl (Own.load X.out) rfl ?_) | (with_reducible refine zay rfl rfl (Own.tell X.out rfl _) rfl rfl ?_;intro wy hy;have X:=hid hy;clear hy));exact bodyPost_ret (v:=.tuple #[plV ({ h with p2:=bits .and .u32 (IntKind.u32.wrap v) 7 }),.bool true]) (zbv results199 _ _ (W.heap.size+1) _ _ rfl X.out.result rfl) rfl ⟨rfl,X.out.below⟩
theorem store_p3 (h:Pl) (v:Int) (W:World):TB 199 #[plV h,.int .u64 201326604,.int .i64 4,.int .u64 v] W (.tuple #[plV (stF h 201326604 4 v).1,.bool (stF h 201326604 4 v).2]):=by
 rw [znd];go_enter func199,ntmps199;go_upto_region 1 with (fail);have X:=hid (Own.new W h);generalize (W.alloc (plO h)).alloc zaj=w0 at *;go_wp2_with (first | (go_at_call 219;with_reducible refine (zlp _).tq ?_) | (with_reducible refine zay rfl rfl (Own.store_p3 X.out _) rfl rfl ?_;intro wy hy;have X:=hid hy;clear hy) | (with_reducible refine zaa rfl rfl (Own.load X.out) rfl ?_) | (with_reducible refine zay rfl rfl (Own.tell X.out rfl _) rfl rfl ?_;intro wy hy;have X:=hid hy;clear hy));exact bodyPost_ret (v:=.tuple #[plV ({ h with p3:=bits .and .u32 (IntKind.u32.wrap v) 7 }),.bool true]) (zbv results199 _ _ (W.heap.size+1) _ _ rfl X.out.result rfl) rfl ⟨rfl,X.out.below⟩
theorem store_e0 (h:Pl) (v:Int) (W:World):TB 199 #[plV h,.int .u64 201334784,.int .i64 4,.int .u64 v] W (.tuple #[plV (stF h 201334784 4 v).1,.bool (stF h 201334784 4 v).2]):=by
 rw [zoV];go_enter func199,ntmps199;go_upto_region 1 with (fail);have X:=hid (Own.new W h);generalize (W.alloc (plO h)).alloc zaj=w0 at *;go_wp2_with (first | (go_at_call 219;with_reducible refine (zlv _).tq ?_) | (with_reducible refine zay rfl rfl (Own.store_e0 X.out _) rfl rfl ?_;intro wy hy;have X:=hid hy;clear hy) | (with_reducible refine zaa rfl rfl (Own.load X.out) rfl ?_) | (with_reducible refine zay rfl rfl (Own.tell X.out rfl _) rfl rfl ?_;intro wy hy;have X:=hid hy;clear hy));exact bodyPost_ret (v:=.tuple #[plV ({ h with e0:=bits .and .u32 (IntKind.u32.wrap v) 14 }),.bool true]) (zbv results199 _ _ (W.heap.size+1) _ _ rfl X.out.result rfl) rfl ⟨rfl,X.out.below⟩
theorem store_e1 (h:Pl) (v:Int) (W:World):TB 199 #[plV h,.int .u64 201334912,.int .i64 4,.int .u64 v] W (.tuple #[plV (stF h 201334912 4 v).1,.bool (stF h 201334912 4 v).2]):=by
 rw [zrS];go_enter func199,ntmps199;go_upto_region 1 with (fail);have X:=hid (Own.new W h);generalize (W.alloc (plO h)).alloc zaj=w0 at *;go_wp2_with (first | (go_at_call 219;with_reducible refine (zjg _).tq ?_) | (with_reducible refine zay rfl rfl (Own.store_e1 X.out _) rfl rfl ?_;intro wy hy;have X:=hid hy;clear hy) | (with_reducible refine zaa rfl rfl (Own.load X.out) rfl ?_) | (with_reducible refine zay rfl rfl (Own.tell X.out rfl _) rfl rfl ?_;intro wy hy;have X:=hid hy;clear hy));exact bodyPost_ret (v:=.tuple #[plV ({ h with e1:=bits .and .u32 (IntKind.u32.wrap v) 14 }),.bool true]) (zbv results199 _ _ (W.heap.size+1) _ _ rfl X.out.result rfl) rfl ⟨rfl,X.out.below⟩
theorem store_l0 (h:Pl) (v:Int) (W:World):TB 199 #[plV h,.int .u64 203423744,.int .i64 4,.int .u64 v] W (.tuple #[plV (stF h 203423744 4 v).1,.bool (stF h 203423744 4 v).2]):=by
 rw [zlY];go_enter func199,ntmps199;go_upto_region 1 with (fail);have X:=hid (Own.new W h);generalize (W.alloc (plO h)).alloc zaj=w0 at *;go_wp2_with (first | (go_at_call 219;with_reducible refine (zjr _).tq ?_) | (with_reducible refine zay rfl rfl (Own.store_l0 X.out _) rfl rfl ?_;intro wy hy;have X:=hid hy;clear hy) | (with_reducible refine zaa rfl rfl (Own.load X.out) rfl ?_) | (with_reducible refine zay rfl rfl (Own.tell X.out rfl _) rfl rfl ?_;intro wy hy;have X:=hid hy;clear hy));exact bodyPost_ret (v:=.tuple #[plV ({ h with l0:=bits .and .u32 (IntKind.u32.wrap v) 7 }),.bool true]) (zbv results199 _ _ (W.heap.size+1) _ _ rfl X.out.result rfl) rfl ⟨rfl,X.out.below⟩
theorem store_l1 (h:Pl) (v:Int) (W:World):TB 199 #[plV h,.int .u64 203427840,.int .i64 4,.int .u64 v] W (.tuple #[plV (stF h 203427840 4 v).1,.bool (stF h 203427840 4 v).2]):=by
 rw [zvH];go_enter func199,ntmps199;go_upto_region 1 with (fail);have X:=hid (Own.new W h);generalize (W.alloc (plO h)).alloc zaj=w0 at *;go_wp2_with (first | (go_at_call 219;with_reducible refine (ziG _).tq ?_) | (with_reducible refine zay rfl rfl (Own.store_l1 X.out _) rfl rfl ?_;intro wy hy;have X:=hid hy;clear hy) | (with_reducible refine zaa rfl rfl (Own.load X.out) rfl ?_) | (with_reducible refine zay rfl rfl (Own.tell X.out rfl _) rfl rfl ?_;intro wy hy;have X:=hid hy;clear hy));exact bodyPost_ret (v:=.tuple #[plV ({ h with l1:=bits .and .u32 (IntKind.u32.wrap v) 7 }),.bool true]) (zbv results199 _ _ (W.heap.size+1) _ _ rfl X.out.result rfl) rfl ⟨rfl,X.out.below⟩
theorem zAi (h:Pl) (v:Int) (hc:U32 h.c) (hv:IntKind.u32.wrap v=0) (W:World):TB 199 #[plV h,.int .u64 203423748,.int .i64 4,.int .u64 v] W (.tuple #[plV (stF h 203423748 4 v).1,.bool (stF h 203423748 4 v).2]):=by
 rw [zfU,hv];rw [zha h h.e0 0 (by omega)];have HC:=hid (zhc h hc h.e0);clear hc;go_enter func199,ntmps199;go_upto_region 1 with (fail);have X:=hid (Own.new W h);generalize (W.alloc (plO h)).alloc zaj=w0 at *;go_upto_region 14 with (first | (with_reducible refine zaa rfl rfl (Own.load X.out) rfl ?_) | (go_at_call 219;with_reducible refine (zef _).tq ?_));refine wp_region_still_tail 11 (by kernel_rfl) (by kernel_rfl) ?_
 simp only [List.take_succ_cons,List.take_zero,List.drop_succ_cons,List.drop_zero];have X:Hid (Own W { w0 with drawn:=w0.drawn+1 } h zeroC):=hid X.out.drew;generalize ({ w0 with drawn:=w0.drawn+1 }:World)=w3 at *
 repeat (first | (with_reducible first | refine zaM rfl rfl (Own.load_c X.out) rfl ?_ | refine zaM rfl rfl (Own.load_e0 X.out) rfl ?_) | still_step)
 still_call ((zfp _).mono fun _ _ h=>⟨h.1,h.2.symm⟩)
 repeat (first | (with_reducible first | refine zaM rfl rfl (Own.load_c X.out) rfl ?_ | refine zaM rfl rfl (Own.load_e0 X.out) rfl ?_) | still_step)
 refine wpStill_nil ?_
 go_wp2_with (first | (with_reducible refine zay rfl rfl (Own.store_c X.out _) rfl rfl ?_;intro wy hy;have X:=hid hy;clear hy;rw [HC.out] at X) | (with_reducible refine zaa rfl rfl (Own.load X.out) rfl ?_) | (with_reducible refine zay rfl rfl (Own.tell X.out rfl _) rfl rfl ?_;intro wy hy;have X:=hid hy;clear hy));exact bodyPost_ret (v:=.tuple #[plV ({ h with c:=h.c }),.bool true]) (zbv results199 _ _ (W.heap.size+1) _ _ rfl X.out.result rfl) rfl ⟨rfl,X.out.below⟩
theorem zmN (h:Pl) (v:Int) (hc:U32 h.c) (hv:IntKind.u32.wrap v=1) (W:World):TB 199 #[plV h,.int .u64 203423748,.int .i64 4,.int .u64 v] W (.tuple #[plV (stF h 203423748 4 v).1,.bool (stF h 203423748 4 v).2]):=by
 rw [zfU,hv];have HC:Hid (bits .andNot .u32 h.c (bits .and .u32 2 h.e0)=zbP h 1 h.e0):=hid (ze0 h hc h.e0 1 (by omega));clear hc;go_enter func199,ntmps199;go_upto_region 1 with (fail);have X:=hid (Own.new W h);generalize (W.alloc (plO h)).alloc zaj=w0 at *;go_upto_region 14 with (first | (with_reducible refine zaa rfl rfl (Own.load X.out) rfl ?_) | (go_at_call 219;with_reducible refine (zef _).tq ?_));refine wp_region_still_tail 11 (by kernel_rfl) (by kernel_rfl) ?_
 simp only [List.take_succ_cons,List.take_zero,List.drop_succ_cons,List.drop_zero];have X:Hid (Own W { w0 with drawn:=w0.drawn+1 } h zeroC):=hid X.out.drew;generalize ({ w0 with drawn:=w0.drawn+1 }:World)=w3 at *
 repeat (first | (with_reducible first | refine zaM rfl rfl (Own.load_c X.out) rfl ?_ | refine zaM rfl rfl (Own.load_e0 X.out) rfl ?_) | still_step)
 still_call ((zdR _).mono fun _ _ h=>⟨h.1,h.2.symm⟩)
 repeat (first | (with_reducible first | refine zaM rfl rfl (Own.load_c X.out) rfl ?_ | refine zaM rfl rfl (Own.load_e0 X.out) rfl ?_) | still_step)
 refine wpStill_nil ?_
 go_wp2_with (first | (with_reducible refine zay rfl rfl (Own.store_c X.out _) rfl rfl ?_;intro wy hy;have X:=hid hy;clear hy;rw [HC.out] at X) | (with_reducible refine zaa rfl rfl (Own.load X.out) rfl ?_) | (with_reducible refine zay rfl rfl (Own.tell X.out rfl _) rfl rfl ?_;intro wy hy;have X:=hid hy;clear hy));exact bodyPost_ret (v:=.tuple #[plV ({ h with c:=zbP h 1 h.e0 }),.bool true]) (zbv results199 _ _ (W.heap.size+1) _ _ rfl X.out.result rfl) rfl ⟨rfl,X.out.below⟩
theorem zxA (h:Pl) (v:Int) (hc:U32 h.c) (hv:IntKind.u32.wrap v=2) (W:World):TB 199 #[plV h,.int .u64 203423748,.int .i64 4,.int .u64 v] W (.tuple #[plV (stF h 203423748 4 v).1,.bool (stF h 203423748 4 v).2]):=by
 rw [zfU,hv];have HC:Hid (bits .andNot .u32 h.c (bits .and .u32 4 h.e0)=zbP h 2 h.e0):=hid (ze0 h hc h.e0 2 (by omega));clear hc;go_enter func199,ntmps199;go_upto_region 1 with (fail);have X:=hid (Own.new W h);generalize (W.alloc (plO h)).alloc zaj=w0 at *;go_upto_region 14 with (first | (with_reducible refine zaa rfl rfl (Own.load X.out) rfl ?_) | (go_at_call 219;with_reducible refine (zef _).tq ?_));refine wp_region_still_tail 11 (by kernel_rfl) (by kernel_rfl) ?_
 simp only [List.take_succ_cons,List.take_zero,List.drop_succ_cons,List.drop_zero];have X:Hid (Own W { w0 with drawn:=w0.drawn+1 } h zeroC):=hid X.out.drew;generalize ({ w0 with drawn:=w0.drawn+1 }:World)=w3 at *
 repeat (first | (with_reducible first | refine zaM rfl rfl (Own.load_c X.out) rfl ?_ | refine zaM rfl rfl (Own.load_e0 X.out) rfl ?_) | still_step)
 still_call ((zdJ _).mono fun _ _ h=>⟨h.1,h.2.symm⟩)
 repeat (first | (with_reducible first | refine zaM rfl rfl (Own.load_c X.out) rfl ?_ | refine zaM rfl rfl (Own.load_e0 X.out) rfl ?_) | still_step)
 refine wpStill_nil ?_
 go_wp2_with (first | (with_reducible refine zay rfl rfl (Own.store_c X.out _) rfl rfl ?_;intro wy hy;have X:=hid hy;clear hy;rw [HC.out] at X) | (with_reducible refine zaa rfl rfl (Own.load X.out) rfl ?_) | (with_reducible refine zay rfl rfl (Own.tell X.out rfl _) rfl rfl ?_;intro wy hy;have X:=hid hy;clear hy));exact bodyPost_ret (v:=.tuple #[plV ({ h with c:=zbP h 2 h.e0 }),.bool true]) (zbv results199 _ _ (W.heap.size+1) _ _ rfl X.out.result rfl) rfl ⟨rfl,X.out.below⟩
theorem zwe (h:Pl) (v:Int) (hc:U32 h.c) (hv:IntKind.u32.wrap v=3) (W:World):TB 199 #[plV h,.int .u64 203423748,.int .i64 4,.int .u64 v] W (.tuple #[plV (stF h 203423748 4 v).1,.bool (stF h 203423748 4 v).2]):=by
 rw [zfU,hv];have HC:Hid (bits .andNot .u32 h.c (bits .and .u32 8 h.e0)=zbP h 3 h.e0):=hid (ze0 h hc h.e0 3 (by omega));clear hc;go_enter func199,ntmps199;go_upto_region 1 with (fail);have X:=hid (Own.new W h);generalize (W.alloc (plO h)).alloc zaj=w0 at *;go_upto_region 14 with (first | (with_reducible refine zaa rfl rfl (Own.load X.out) rfl ?_) | (go_at_call 219;with_reducible refine (zef _).tq ?_));refine wp_region_still_tail 11 (by kernel_rfl) (by kernel_rfl) ?_
 simp only [List.take_succ_cons,List.take_zero,List.drop_succ_cons,List.drop_zero];have X:Hid (Own W { w0 with drawn:=w0.drawn+1 } h zeroC):=hid X.out.drew;generalize ({ w0 with drawn:=w0.drawn+1 }:World)=w3 at *
 repeat (first | (with_reducible first | refine zaM rfl rfl (Own.load_c X.out) rfl ?_ | refine zaM rfl rfl (Own.load_e0 X.out) rfl ?_) | still_step)
 still_call ((zdO _).mono fun _ _ h=>⟨h.1,h.2.symm⟩)
 repeat (first | (with_reducible first | refine zaM rfl rfl (Own.load_c X.out) rfl ?_ | refine zaM rfl rfl (Own.load_e0 X.out) rfl ?_) | still_step)
 refine wpStill_nil ?_
 go_wp2_with (first | (with_reducible refine zay rfl rfl (Own.store_c X.out _) rfl rfl ?_;intro wy hy;have X:=hid hy;clear hy;rw [HC.out] at X) | (with_reducible refine zaa rfl rfl (Own.load X.out) rfl ?_) | (with_reducible refine zay rfl rfl (Own.tell X.out rfl _) rfl rfl ?_;intro wy hy;have X:=hid hy;clear hy));exact bodyPost_ret (v:=.tuple #[plV ({ h with c:=zbP h 3 h.e0 }),.bool true]) (zbv results199 _ _ (W.heap.size+1) _ _ rfl X.out.result rfl) rfl ⟨rfl,X.out.below⟩
theorem zs4 (h:Pl) (v n:Int) (hc:U32 h.c) (hv:IntKind.u32.wrap v=n) (hu:U32 n) (h4:4≤n) (W:World):TB 199 #[plV h,.int .u64 203423748,.int .i64 4,.int .u64 v] W (.tuple #[plV (stF h 203423748 4 v).1,.bool (stF h 203423748 4 v).2]):=by
 rw [zfU,hv,zha h h.e0 n (by omega)];have HC:=hid (zhc h hc h.e0);clear hc;go_enter func199,ntmps199;go_upto_region 1 with (fail);have X:=hid (Own.new W h);generalize (W.alloc (plO h)).alloc zaj=w0 at *;go_upto_region 14 with (first | (with_reducible refine zaa rfl rfl (Own.load X.out) rfl ?_) | (go_at_call 219;with_reducible refine (zef _).tq ?_));refine wp_region_still_tail 11 (by kernel_rfl) (by kernel_rfl) ?_
 simp only [List.take_succ_cons,List.take_zero,List.drop_succ_cons,List.drop_zero];have X:Hid (Own W { w0 with drawn:=w0.drawn+1 } h zeroC):=hid X.out.drew;generalize ({ w0 with drawn:=w0.drawn+1 }:World)=w3 at *
 repeat (first | (with_reducible first | refine zaM rfl rfl (Own.load_c X.out) rfl ?_ | refine zaM rfl rfl (Own.load_e0 X.out) rfl ?_) | still_step)
 still_call ((zj7 n hu h4 _).mono fun _ _ h=>⟨h.1,h.2.symm⟩)
 repeat (first | (with_reducible first | refine zaM rfl rfl (Own.load_c X.out) rfl ?_ | refine zaM rfl rfl (Own.load_e0 X.out) rfl ?_) | still_step)
 refine wpStill_nil ?_
 go_wp2_with (first | (with_reducible refine zay rfl rfl (Own.store_c X.out _) rfl rfl ?_;intro wy hy;have X:=hid hy;clear hy;rw [HC.out] at X) | (with_reducible refine zaa rfl rfl (Own.load X.out) rfl ?_) | (with_reducible refine zay rfl rfl (Own.tell X.out rfl _) rfl rfl ?_;intro wy hy;have X:=hid hy;clear hy));exact bodyPost_ret (v:=.tuple #[plV ({ h with c:=h.c }),.bool true]) (zbv results199 _ _ (W.heap.size+1) _ _ rfl X.out.result rfl) rfl ⟨rfl,X.out.below⟩
theorem ztf (h:Pl) (v:Int) (hc:U32 h.c) (W:World):TB 199 #[plV h,.int .u64 203423748,.int .i64 4,.int .u64 v] W (.tuple #[plV (stF h 203423748 4 v).1,.bool (stF h 203423748 4 v).2]):=by
 have hu:U32 (IntKind.u32.wrap v):=by unfold U32;rw [IntKind.wrap_u32];omega
 have h0:=hu.1;rcases (show IntKind.u32.wrap v=0∨IntKind.u32.wrap v=1∨IntKind.u32.wrap v=2∨IntKind.u32.wrap v=3∨4≤IntKind.u32.wrap v by omega) with e | e | e | e | e
 ·exact zAi h v hc e W
 ·exact zmN h v hc e W
 ·exact zxA h v hc e W
 ·exact zwe h v hc e W
 ·exact zs4 h v _ hc rfl hu e W
theorem zwl (h:Pl) (v:Int) (hc:U32 h.c) (hv:IntKind.u32.wrap v=0) (W:World):TB 199 #[plV h,.int .u64 203427844,.int .i64 4,.int .u64 v] W (.tuple #[plV (stF h 203427844 4 v).1,.bool (stF h 203427844 4 v).2]):=by
 rw [zfP,hv];rw [zha h h.e1 0 (by omega)];have HC:=hid (zhc h hc h.e1);clear hc;go_enter func199,ntmps199;go_upto_region 1 with (fail);have X:=hid (Own.new W h);generalize (W.alloc (plO h)).alloc zaj=w0 at *;go_upto_region 14 with (first | (with_reducible refine zaa rfl rfl (Own.load X.out) rfl ?_) | (go_at_call 219;with_reducible refine (zd5 _).tq ?_));refine wp_region_still_tail 11 (by kernel_rfl) (by kernel_rfl) ?_
 simp only [List.take_succ_cons,List.take_zero,List.drop_succ_cons,List.drop_zero];have X:Hid (Own W { w0 with drawn:=w0.drawn+1 } h zeroC):=hid X.out.drew;generalize ({ w0 with drawn:=w0.drawn+1 }:World)=w3 at *
 repeat (first | (with_reducible first | refine zaM rfl rfl (Own.load_c X.out) rfl ?_ | refine zaM rfl rfl (Own.load_e1 X.out) rfl ?_) | still_step)
 still_call ((zfp _).mono fun _ _ h=>⟨h.1,h.2.symm⟩)
 repeat (first | (with_reducible first | refine zaM rfl rfl (Own.load_c X.out) rfl ?_ | refine zaM rfl rfl (Own.load_e1 X.out) rfl ?_) | still_step)
 refine wpStill_nil ?_
 go_wp2_with (first | (with_reducible refine zay rfl rfl (Own.store_c X.out _) rfl rfl ?_;intro wy hy;have X:=hid hy;clear hy;rw [HC.out] at X) | (with_reducible refine zaa rfl rfl (Own.load X.out) rfl ?_) | (with_reducible refine zay rfl rfl (Own.tell X.out rfl _) rfl rfl ?_;intro wy hy;have X:=hid hy;clear hy));exact bodyPost_ret (v:=.tuple #[plV ({ h with c:=h.c }),.bool true]) (zbv results199 _ _ (W.heap.size+1) _ _ rfl X.out.result rfl) rfl ⟨rfl,X.out.below⟩
theorem zya (h:Pl) (v:Int) (hc:U32 h.c) (hv:IntKind.u32.wrap v=1) (W:World):TB 199 #[plV h,.int .u64 203427844,.int .i64 4,.int .u64 v] W (.tuple #[plV (stF h 203427844 4 v).1,.bool (stF h 203427844 4 v).2]):=by
 rw [zfP,hv];have HC:Hid (bits .andNot .u32 h.c (bits .and .u32 2 h.e1)=zbP h 1 h.e1):=hid (ze0 h hc h.e1 1 (by omega));clear hc;go_enter func199,ntmps199;go_upto_region 1 with (fail);have X:=hid (Own.new W h);generalize (W.alloc (plO h)).alloc zaj=w0 at *;go_upto_region 14 with (first | (with_reducible refine zaa rfl rfl (Own.load X.out) rfl ?_) | (go_at_call 219;with_reducible refine (zd5 _).tq ?_));refine wp_region_still_tail 11 (by kernel_rfl) (by kernel_rfl) ?_
 simp only [List.take_succ_cons,List.take_zero,List.drop_succ_cons,List.drop_zero];have X:Hid (Own W { w0 with drawn:=w0.drawn+1 } h zeroC):=hid X.out.drew;generalize ({ w0 with drawn:=w0.drawn+1 }:World)=w3 at *
 repeat (first | (with_reducible first | refine zaM rfl rfl (Own.load_c X.out) rfl ?_ | refine zaM rfl rfl (Own.load_e1 X.out) rfl ?_) | still_step)
 still_call ((zdR _).mono fun _ _ h=>⟨h.1,h.2.symm⟩)
 repeat (first | (with_reducible first | refine zaM rfl rfl (Own.load_c X.out) rfl ?_ | refine zaM rfl rfl (Own.load_e1 X.out) rfl ?_) | still_step)
 refine wpStill_nil ?_
 go_wp2_with (first | (with_reducible refine zay rfl rfl (Own.store_c X.out _) rfl rfl ?_;intro wy hy;have X:=hid hy;clear hy;rw [HC.out] at X) | (with_reducible refine zaa rfl rfl (Own.load X.out) rfl ?_) | (with_reducible refine zay rfl rfl (Own.tell X.out rfl _) rfl rfl ?_;intro wy hy;have X:=hid hy;clear hy));exact bodyPost_ret (v:=.tuple #[plV ({ h with c:=zbP h 1 h.e1 }),.bool true]) (zbv results199 _ _ (W.heap.size+1) _ _ rfl X.out.result rfl) rfl ⟨rfl,X.out.below⟩
theorem zu2 (h:Pl) (v:Int) (hc:U32 h.c) (hv:IntKind.u32.wrap v=2) (W:World):TB 199 #[plV h,.int .u64 203427844,.int .i64 4,.int .u64 v] W (.tuple #[plV (stF h 203427844 4 v).1,.bool (stF h 203427844 4 v).2]):=by
 rw [zfP,hv];have HC:Hid (bits .andNot .u32 h.c (bits .and .u32 4 h.e1)=zbP h 2 h.e1):=hid (ze0 h hc h.e1 2 (by omega));clear hc;go_enter func199,ntmps199;go_upto_region 1 with (fail);have X:=hid (Own.new W h);generalize (W.alloc (plO h)).alloc zaj=w0 at *;go_upto_region 14 with (first | (with_reducible refine zaa rfl rfl (Own.load X.out) rfl ?_) | (go_at_call 219;with_reducible refine (zd5 _).tq ?_));refine wp_region_still_tail 11 (by kernel_rfl) (by kernel_rfl) ?_
 simp only [List.take_succ_cons,List.take_zero,List.drop_succ_cons,List.drop_zero];have X:Hid (Own W { w0 with drawn:=w0.drawn+1 } h zeroC):=hid X.out.drew;generalize ({ w0 with drawn:=w0.drawn+1 }:World)=w3 at *
 repeat (first | (with_reducible first | refine zaM rfl rfl (Own.load_c X.out) rfl ?_ | refine zaM rfl rfl (Own.load_e1 X.out) rfl ?_) | still_step)
 still_call ((zdJ _).mono fun _ _ h=>⟨h.1,h.2.symm⟩)
 repeat (first | (with_reducible first | refine zaM rfl rfl (Own.load_c X.out) rfl ?_ | refine zaM rfl rfl (Own.load_e1 X.out) rfl ?_) | still_step)
 refine wpStill_nil ?_
 go_wp2_with (first | (with_reducible refine zay rfl rfl (Own.store_c X.out _) rfl rfl ?_;intro wy hy;have X:=hid hy;clear hy;rw [HC.out] at X) | (with_reducible refine zaa rfl rfl (Own.load X.out) rfl ?_) | (with_reducible refine zay rfl rfl (Own.tell X.out rfl _) rfl rfl ?_;intro wy hy;have X:=hid hy;clear hy));exact bodyPost_ret (v:=.tuple #[plV ({ h with c:=zbP h 2 h.e1 }),.bool true]) (zbv results199 _ _ (W.heap.size+1) _ _ rfl X.out.result rfl) rfl ⟨rfl,X.out.below⟩
theorem zsl (h:Pl) (v:Int) (hc:U32 h.c) (hv:IntKind.u32.wrap v=3) (W:World):TB 199 #[plV h,.int .u64 203427844,.int .i64 4,.int .u64 v] W (.tuple #[plV (stF h 203427844 4 v).1,.bool (stF h 203427844 4 v).2]):=by
 rw [zfP,hv];have HC:Hid (bits .andNot .u32 h.c (bits .and .u32 8 h.e1)=zbP h 3 h.e1):=hid (ze0 h hc h.e1 3 (by omega));clear hc;go_enter func199,ntmps199;go_upto_region 1 with (fail);have X:=hid (Own.new W h);generalize (W.alloc (plO h)).alloc zaj=w0 at *;go_upto_region 14 with (first | (with_reducible refine zaa rfl rfl (Own.load X.out) rfl ?_) | (go_at_call 219;with_reducible refine (zd5 _).tq ?_));refine wp_region_still_tail 11 (by kernel_rfl) (by kernel_rfl) ?_
 simp only [List.take_succ_cons,List.take_zero,List.drop_succ_cons,List.drop_zero];have X:Hid (Own W { w0 with drawn:=w0.drawn+1 } h zeroC):=hid X.out.drew;generalize ({ w0 with drawn:=w0.drawn+1 }:World)=w3 at *
 repeat (first | (with_reducible first | refine zaM rfl rfl (Own.load_c X.out) rfl ?_ | refine zaM rfl rfl (Own.load_e1 X.out) rfl ?_) | still_step)
 still_call ((zdO _).mono fun _ _ h=>⟨h.1,h.2.symm⟩)
 repeat (first | (with_reducible first | refine zaM rfl rfl (Own.load_c X.out) rfl ?_ | refine zaM rfl rfl (Own.load_e1 X.out) rfl ?_) | still_step)
 refine wpStill_nil ?_
 go_wp2_with (first | (with_reducible refine zay rfl rfl (Own.store_c X.out _) rfl rfl ?_;intro wy hy;have X:=hid hy;clear hy;rw [HC.out] at X) | (with_reducible refine zaa rfl rfl (Own.load X.out) rfl ?_) | (with_reducible refine zay rfl rfl (Own.tell X.out rfl _) rfl rfl ?_;intro wy hy;have X:=hid hy;clear hy));exact bodyPost_ret (v:=.tuple #[plV ({ h with c:=zbP h 3 h.e1 }),.bool true]) (zbv results199 _ _ (W.heap.size+1) _ _ rfl X.out.result rfl) rfl ⟨rfl,X.out.below⟩
theorem zuk (h:Pl) (v n:Int) (hc:U32 h.c) (hv:IntKind.u32.wrap v=n) (hu:U32 n) (h4:4≤n) (W:World):TB 199 #[plV h,.int .u64 203427844,.int .i64 4,.int .u64 v] W (.tuple #[plV (stF h 203427844 4 v).1,.bool (stF h 203427844 4 v).2]):=by
 rw [zfP,hv,zha h h.e1 n (by omega)];have HC:=hid (zhc h hc h.e1);clear hc;go_enter func199,ntmps199;go_upto_region 1 with (fail);have X:=hid (Own.new W h);generalize (W.alloc (plO h)).alloc zaj=w0 at *;go_upto_region 14 with (first | (with_reducible refine zaa rfl rfl (Own.load X.out) rfl ?_) | (go_at_call 219;with_reducible refine (zd5 _).tq ?_));refine wp_region_still_tail 11 (by kernel_rfl) (by kernel_rfl) ?_
 simp only [List.take_succ_cons,List.take_zero,List.drop_succ_cons,List.drop_zero];have X:Hid (Own W { w0 with drawn:=w0.drawn+1 } h zeroC):=hid X.out.drew;generalize ({ w0 with drawn:=w0.drawn+1 }:World)=w3 at *
 repeat (first | (with_reducible first | refine zaM rfl rfl (Own.load_c X.out) rfl ?_ | refine zaM rfl rfl (Own.load_e1 X.out) rfl ?_) | still_step)
 still_call ((zj7 n hu h4 _).mono fun _ _ h=>⟨h.1,h.2.symm⟩)
 repeat (first | (with_reducible first | refine zaM rfl rfl (Own.load_c X.out) rfl ?_ | refine zaM rfl rfl (Own.load_e1 X.out) rfl ?_) | still_step)
 refine wpStill_nil ?_
 go_wp2_with (first | (with_reducible refine zay rfl rfl (Own.store_c X.out _) rfl rfl ?_;intro wy hy;have X:=hid hy;clear hy;rw [HC.out] at X) | (with_reducible refine zaa rfl rfl (Own.load X.out) rfl ?_) | (with_reducible refine zay rfl rfl (Own.tell X.out rfl _) rfl rfl ?_;intro wy hy;have X:=hid hy;clear hy));exact bodyPost_ret (v:=.tuple #[plV ({ h with c:=h.c }),.bool true]) (zbv results199 _ _ (W.heap.size+1) _ _ rfl X.out.result rfl) rfl ⟨rfl,X.out.below⟩
theorem znN (h:Pl) (v:Int) (hc:U32 h.c) (W:World):TB 199 #[plV h,.int .u64 203427844,.int .i64 4,.int .u64 v] W (.tuple #[plV (stF h 203427844 4 v).1,.bool (stF h 203427844 4 v).2]):=by
 have hu:U32 (IntKind.u32.wrap v):=by unfold U32;rw [IntKind.wrap_u32];omega
 have h0:=hu.1;rcases (show IntKind.u32.wrap v=0∨IntKind.u32.wrap v=1∨IntKind.u32.wrap v=2∨IntKind.u32.wrap v=3∨4≤IntKind.u32.wrap v by omega) with e | e | e | e | e
 ·exact zwl h v hc e W
 ·exact zya h v hc e W
 ·exact zu2 h v hc e W
 ·exact zsl h v hc e W
 ·exact zuk h v _ hc rfl hu e W
theorem zcx (h:Pl) (t z v:Int) (hz:(z != 4)=true) (W:World):TB 199 #[plV h,.int .u64 t,.int .i64 z,.int .u64 v] W (.tuple #[plV (stF h t z v).1,.bool (stF h t z v).2]):=by
 rw [zbO h t z v (.inl (by simpa using hz))];go_enter func199,ntmps199;go_upto_region 1 with (fail);have X:=hid (Own.new W h);generalize (W.alloc (plO h)).alloc zaj=w0 at *;go_wp2_with (with_reducible refine zay rfl rfl (Own.zero X.out rfl) rfl rfl ?_;intro wy hy;have X:=hid hy;clear hy);exact bodyPost_ret (v:=.tuple #[plV (zdm),.bool false]) (zbv results199 _ _ (W.heap.size+1) _ _ rfl X.out.result rfl) rfl ⟨rfl,X.out.below⟩
theorem zlP (h:Pl) (t v:Int) (hn:zdv t) (W:World):TB 199 #[plV h,.int .u64 t,.int .i64 4,.int .u64 v] W (.tuple #[plV (stF h t 4 v).1,.bool (stF h t 4 v).2]):=by
 rw [zbO h t 4 v (.inr hn)];go_enter func199,ntmps199;go_upto_region 1 with (fail);have X:=hid (Own.new W h);generalize (W.alloc (plO h)).alloc zaj=w0 at *;go_wp2_with (first | (go_at_call 219;with_reducible refine (zlw t hn _).tq ?_) | (with_reducible refine zay rfl rfl (Own.zero X.out rfl) rfl rfl ?_;intro wy hy;have X:=hid hy;clear hy));exact bodyPost_ret (v:=.tuple #[plV (zdm),.bool false]) (zbv results199 _ _ (W.heap.size+1) _ _ rfl X.out.result rfl) rfl ⟨rfl,X.out.below⟩
theorem zx6 (h:Pl) (v:Int) (W:World):TB 199 #[plV h,.int .u64 201330688,.int .i64 4,.int .u64 v] W (.tuple #[plV (stF h 201330688 4 v).1,.bool (stF h 201330688 4 v).2]):=by
 rw [ziQ h v];go_enter func199,ntmps199;go_upto_region 1 with (fail);have X:=hid (Own.new W h);generalize (W.alloc (plO h)).alloc zaj=w0 at *;go_wp2_with (first | (go_at_call 219;with_reducible refine (zkg _).tq ?_) | (with_reducible refine zay rfl rfl (Own.zero X.out rfl) rfl rfl ?_;intro wy hy;have X:=hid hy;clear hy));exact bodyPost_ret (v:=.tuple #[plV (zdm),.bool false]) (zbv results199 _ _ (W.heap.size+1) _ _ rfl X.out.result rfl) rfl ⟨rfl,X.out.below⟩
theorem zhM (h:Pl) (t z v:Int) (hc:U32 h.c) (W:World):TB 199 #[plV h,.int .u64 t,.int .i64 z,.int .u64 v] W (.tuple #[plV (stF h t z v).1,.bool (stF h t z v).2]):=by
 by_cases hz:z=4
 ·subst hz
  by_cases h_p1:t=201326596
  ·subst h_p1;exact store_p1 h v W
  by_cases h_p2:t=201326600
  ·subst h_p2;exact store_p2 h v W
  by_cases h_p3:t=201326604
  ·subst h_p3;exact store_p3 h v W
  by_cases h_wait:t=201330688
  ·subst h_wait;exact zx6 h v W
  by_cases h_e0:t=201334784
  ·subst h_e0;exact store_e0 h v W
  by_cases h_e1:t=201334912
  ·subst h_e1;exact store_e1 h v W
  by_cases h_l0:t=203423744
  ·subst h_l0;exact store_l0 h v W
  by_cases h_l1:t=203427840
  ·subst h_l1;exact store_l1 h v W
  by_cases h_b0:t=203423748
  ·subst h_b0;exact ztf h v hc W
  by_cases h_b1:t=203427844
  ·subst h_b1;exact znN h v hc W
  exact zlP h t v ⟨h_p1,h_p2,h_p3,h_wait,h_e0,h_e1,h_l0,h_l1,h_b0,h_b1⟩ W
 ·exact zcx h t z v (by simpa using hz) W
end Go.Proofs.YtplcfdnfeclpmaaGreatDoor.Pc
