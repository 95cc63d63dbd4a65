/- HartQuiet,part 23. -/
import Derived.StillTailTactics
import Derived.Test.YtmjjpgaeboaamaaGreatDoorY07
set_option maxHeartbeats 4000000
set_option maxRecDepth 100000
open Go.Lib (hid)
namespace Go.Proofs.YtmjjpgaeboaamaaGreatDoor.Pc
open Go.RowKit Go.Deep Go.Joins
structure Own (W w:World) (h:Pl) (r:Array Value):Prop where
 box:Box w W.heap.size h
 res:w.heap[W.heap.size+1]?=some (.cells r 33 (0,0))
 below:Below W.heap.size W w
theorem Own.next {W w w':World} {h:Pl} {r:Array Value} (k:Own W w h r) (j:Below w.heap.size w w'):Own W w' h r :=
 ⟨k.box.next j,(j.block _ (Array.getElem?_eq_some_iff.1 k.res).1).trans k.res,k.below.trans (j.mono k.below.size)⟩
theorem Own.drew {W w:World} {h:Pl} {r:Array Value} (k:Own W w h r):Own W w.drew h r:=k.next (Below.refl _ _).drew
theorem Own.new (W:World) (h:Pl):Own W ((W.alloc (plO h)).alloc zak) h zeroC:=⟨St.box 0 W h zeroC,St.res 0 W h zeroC,St.below 0 W h zeroC⟩
theorem zwy (w:World) (b:Nat) (cs:Array Value):(w.setRow b cs).heap.size=w.heap.size:=by simp [World.setRow]
theorem ziF {B:Nat} {w0 w:World} (k:Below B w0 w) (b:Nat) (hb:B≤b) (cs:Array Value):Below B w0 (w.setRow b cs) :=
 ⟨k.os,k.tape,k.output,by rw [zwy];exact k.size,fun i hi=>(setRow_other w b i cs (by omega)).trans (k.block i hi)⟩
theorem Own.put {W w:World} {h:Pl} {r:Array Value} (k:Own W w h r) (g:Pl):Own W (w.setRow W.heap.size (plC g)) g r :=
 ⟨Box.mine k.box g,(setRow_other w _ _ _ (by omega)).trans k.res,ziF k.below _ (Nat.le_refl _) _⟩
theorem Own.full {W w:World} {h:Pl} {r:Array Value} (k:Own W w h r) (r':Array Value):Own W (w.setRow (W.heap.size+1) r') h r' :=
 ⟨k.box.over (by omega) _,setRow_heap w _ r r' 33 (0,0) k.res,ziF k.below _ (by omega) _⟩
theorem Own.load {W w:World} {h:Pl} {r:Array Value} (k:Own W w h r):(Instr.loadAt 33 (.pointer (some ⟨W.heap.size,0,none⟩))).run Tryz.prog w=.ok (plV h) w:=k.box.load
theorem Own.tell {W w:World} {h:Pl} {r:Array Value} (k:Own W w h r) (hr:r.size=9) (g:Pl):∃ w',(Instr.storeAt 33 (.pointer (some ⟨W.heap.size+1,0,none⟩)) (plV g)).run Tryz.prog w=.ok () w'∧Own W w' h (plC g) :=
 ⟨_,zaT _ _ _ _ k.res hr,k.full _⟩
theorem Own.zero {W w:World} {h:Pl} {r:Array Value} (k:Own W w h r) (hr:r.size=9):∃ w',(Instr.storeAt 33 (.pointer (some ⟨W.heap.size+1,0,none⟩)) (.agg zeroC)).run Tryz.prog w=.ok () w'∧Own W w' h (plC zc4):=k.tell hr zc4
theorem Own.result {W w:World} {h g:Pl} (k:Own W w h (plC g)):Box w (W.heap.size+1) g:=k.res
theorem Own.store_at {W w:World} {h:Pl} {r:Array Value} (k:Own W w h r) (g:Pl) (i:Nat) {v:Value} (hi:i<9) (h1:v.oneCell'=true) (hc:v.cells=#[v]) (ht:plL g=(plL h).set i v):∃ w',(Instr.storeAt 29 (.pointer (some ⟨W.heap.size,i,none⟩)) v).run Tryz.prog w=.ok () w'∧Own W w' g r :=
 ⟨_,zbL _ _ i 29 33 _ _ k.box ziX (by rw [zeN];omega) h1 hc,by rw [zjy h g i v ht];exact k.put g⟩
theorem Own.load_p1 {W w:World} {h:Pl} {r:Array Value} (k:Own W w h r):(Instr.loadAt 29 (.pointer (some ⟨W.heap.size,1,none⟩))).run Tryz.prog w=.ok (.int .u32 h.p1) w:=k.box.load_p1
theorem Own.store_p1 {W w:World} {h:Pl} {r:Array Value} (k:Own W w h r) (v:Int):∃ w',(Instr.storeAt 29 (.pointer (some ⟨W.heap.size,1,none⟩)) (.int .u32 v)).run Tryz.prog w=.ok () w'∧Own W w' { h with p1:=v } r:=k.store_at _ 1 (by omega) rfl rfl rfl
theorem Own.load_p2 {W w:World} {h:Pl} {r:Array Value} (k:Own W w h r):(Instr.loadAt 29 (.pointer (some ⟨W.heap.size,2,none⟩))).run Tryz.prog w=.ok (.int .u32 h.p2) w:=k.box.load_p2
theorem Own.store_p2 {W w:World} {h:Pl} {r:Array Value} (k:Own W w h r) (v:Int):∃ w',(Instr.storeAt 29 (.pointer (some ⟨W.heap.size,2,none⟩)) (.int .u32 v)).run Tryz.prog w=.ok () w'∧Own W w' { h with p2:=v } r:=k.store_at _ 2 (by omega) rfl rfl rfl
theorem Own.load_p3 {W w:World} {h:Pl} {r:Array Value} (k:Own W w h r):(Instr.loadAt 29 (.pointer (some ⟨W.heap.size,3,none⟩))).run Tryz.prog w=.ok (.int .u32 h.p3) w:=k.box.load_p3
theorem Own.store_p3 {W w:World} {h:Pl} {r:Array Value} (k:Own W w h r) (v:Int):∃ w',(Instr.storeAt 29 (.pointer (some ⟨W.heap.size,3,none⟩)) (.int .u32 v)).run Tryz.prog w=.ok () w'∧Own W w' { h with p3:=v } r:=k.store_at _ 3 (by omega) rfl rfl rfl
theorem Own.load_e0 {W w:World} {h:Pl} {r:Array Value} (k:Own W w h r):(Instr.loadAt 29 (.pointer (some ⟨W.heap.size,4,none⟩))).run Tryz.prog w=.ok (.int .u32 h.e0) w:=k.box.load_e0
theorem Own.store_e0 {W w:World} {h:Pl} {r:Array Value} (k:Own W w h r) (v:Int):∃ w',(Instr.storeAt 29 (.pointer (some ⟨W.heap.size,4,none⟩)) (.int .u32 v)).run Tryz.prog w=.ok () w'∧Own W w' { h with e0:=v } r:=k.store_at _ 4 (by omega) rfl rfl rfl
theorem Own.load_e1 {W w:World} {h:Pl} {r:Array Value} (k:Own W w h r):(Instr.loadAt 29 (.pointer (some ⟨W.heap.size,5,none⟩))).run Tryz.prog w=.ok (.int .u32 h.e1) w:=k.box.load_e1
theorem Own.store_e1 {W w:World} {h:Pl} {r:Array Value} (k:Own W w h r) (v:Int):∃ w',(Instr.storeAt 29 (.pointer (some ⟨W.heap.size,5,none⟩)) (.int .u32 v)).run Tryz.prog w=.ok () w'∧Own W w' { h with e1:=v } r:=k.store_at _ 5 (by omega) rfl rfl rfl
theorem Own.load_l0 {W w:World} {h:Pl} {r:Array Value} (k:Own W w h r):(Instr.loadAt 29 (.pointer (some ⟨W.heap.size,6,none⟩))).run Tryz.prog w=.ok (.int .u32 h.l0) w:=k.box.load_l0
theorem Own.store_l0 {W w:World} {h:Pl} {r:Array Value} (k:Own W w h r) (v:Int):∃ w',(Instr.storeAt 29 (.pointer (some ⟨W.heap.size,6,none⟩)) (.int .u32 v)).run Tryz.prog w=.ok () w'∧Own W w' { h with l0:=v } r:=k.store_at _ 6 (by omega) rfl rfl rfl
theorem Own.load_l1 {W w:World} {h:Pl} {r:Array Value} (k:Own W w h r):(Instr.loadAt 29 (.pointer (some ⟨W.heap.size,7,none⟩))).run Tryz.prog w=.ok (.int .u32 h.l1) w:=k.box.load_l1
theorem Own.store_l1 {W w:World} {h:Pl} {r:Array Value} (k:Own W w h r) (v:Int):∃ w',(Instr.storeAt 29 (.pointer (some ⟨W.heap.size,7,none⟩)) (.int .u32 v)).run Tryz.prog w=.ok () w'∧Own W w' { h with l1:=v } r:=k.store_at _ 7 (by omega) rfl rfl rfl
theorem Own.load_c {W w:World} {h:Pl} {r:Array Value} (k:Own W w h r):(Instr.loadAt 29 (.pointer (some ⟨W.heap.size,8,none⟩))).run Tryz.prog w=.ok (.int .u32 h.c) w:=k.box.load_c
theorem Own.store_c {W w:World} {h:Pl} {r:Array Value} (k:Own W w h r) (v:Int):∃ w',(Instr.storeAt 29 (.pointer (some ⟨W.heap.size,8,none⟩)) (.int .u32 v)).run Tryz.prog w=.ok () w'∧Own W w' { h with c:=v } r:=k.store_at _ 8 (by omega) rfl rfl rfl
end Go.Proofs.YtmjjpgaeboaamaaGreatDoor.Pc
namespace Go
theorem zav {P:Program} {w:World} {ops:Array Oper} {rest:List Oper} {o:Oper} {a:Act} {Q:Exit→Act→World→Prop} {T:World→Prop} (hgd:o.guard=none) {t:TypeId} {p x:Operand} (ho:o.op=.store t p x) {v u:Value}
  (hrun:∃ w',(Instr.storeAt t v u).run P w=.ok () w'∧T w') (hp:a.eval p=v) (hx:a.eval x=u) (h:∀ w',T w'→wpList P ops Q rest (a.put o.dst undef) w'):wpList P ops Q (o :: rest) a w:=by
 obtain ⟨w',hr,ht⟩:=hrun
 exact zam hgd ho hr hp hx (h w' ht)
end Go
namespace Go.Proofs.YtmjjpgaeboaamaaGreatDoor.Pc
open Go.RowKit Go.Deep Go.Joins
theorem zaK {P:Program} {ops:Array Oper} {w:World} {Q:Act→Prop} {rest:List Oper} {o:Oper} {a:Act} (hgd:o.guard=none) {t:TypeId} {p:Operand} (ho:o.op=.load t p) {v r:Value} (hrun:(Instr.loadAt t v).run P w=.ok r w) (hp:a.eval p=v) (h:wpStill P ops w Q rest (a.put o.dst r)):wpStill P ops w Q (o :: rest) a:=by
 refine wpStill_step fun K hK=>?_
 simp only [Region.wanted,hgd,if_true]
 unfold Oper.still
 rw [za6 ho hrun hp]
 exact ⟨rfl,hK _ h⟩
end Go.Proofs.YtmjjpgaeboaamaaGreatDoor.Pc
namespace Go.Proofs.YtmjjpgaeboaamaaGreatDoor.Pc
open Go.RowKit Go.Deep Go.Joins
theorem ziU (x:Int) (hx:U32 x):bits .andNot .u32 x 0=x:=by
 apply zdP _ _ (ziB _ _) hx
 intro i hi
 rw [zg0 _ _ i hi,zdF]
 simp
theorem zoF (x:Int):bits .and .u32 0 x=0:=by
 apply zdP _ _ (zgk _ _) zfO
 intro i _
 rw [zdM,zdF]
 simp
theorem zll (k:Nat) (hk:1≤k∧k≤3):U32 (wt k):=by
 match k,hk with
 | 1,_=>exact ⟨by decide,by decide⟩
 | 2,_=>exact ⟨by decide,by decide⟩
 | 3,_=>exact ⟨by decide,by decide⟩
 | k+4,h=>omega
theorem zlH (e:Int) (k:Nat) (hk:1≤k∧k≤3):bits .and .u32 (wt k) e=if bitT e k=true then wt k else 0:=by
 apply zdP _ _ (zgk _ _)
 ·split
  ·exact zll k hk
  ·exact zfO
 ·intro i hi
  rw [zdM,ze0 k hk i hi]
  by_cases hik:i=k
  ·subst hik
   split
   ·rename_i h;rw [ze0 i hk i hi,h];simp
   ·rename_i h;rw [zdF];simp at h;rw [h];simp
  ·have:(i==k)=false:=by simp [hik]
   rw [this]
   split
   ·rw [ze0 k hk i hi,this];rfl
   ·rw [zdF];rfl
theorem zer (h:Pl) (hc:U32 h.c) (e:Int) (k:Nat) (hk:1≤k∧k≤3):bits .andNot .u32 h.c (bits .and .u32 (wt k) e)=zbS h k e:=by
 unfold zbS
 rw [zlH e k hk]
 by_cases hb:bitT e k=true
 ·rw [if_pos hb,if_pos ⟨by omega,by simpa using hb⟩]
 ·rw [if_neg hb,if_neg (fun a=>hb (by simpa using a.2)),ziU _ hc]
theorem zgm (h:Pl) (e n:Int) (hn:n<1∨3<n):zbS h n e=h.c:=by
 unfold zbS
 rw [if_neg (by omega)]
theorem zfW (h:Pl) (hc:U32 h.c) (e:Int):bits .andNot .u32 h.c (bits .and .u32 0 e)=h.c:=by rw [zoF,ziU _ hc]
theorem store_p1 (h:Pl) (v:Int) (W:World):TB 295 #[plV h,.int .u64 201326596,.int .i64 4,.int .u64 v] W (.tuple #[plV (stF h 201326596 4 v).1,.bool (stF h 201326596 4 v).2]):=by
 rw [zlO]
 go_enter Tryz.func295,Tryz.ntmps295
 go_upto_region 1 with (fail)
 have X:=hid (Own.new W h)
 generalize (W.alloc (plO h)).alloc zak=w0 at *
 go_wp2_with (first | (go_at_call 327;(with_reducible refine (zjs _).mono ?_);rintro e w' ⟨rfl,rfl⟩) | (with_reducible refine zav rfl rfl (Own.store_p1 X.out _) rfl rfl ?_;intro wy hy;have X:=hid hy;clear hy) | (with_reducible refine zaa rfl rfl (Own.load X.out) rfl ?_) | (with_reducible refine zav rfl rfl (Own.tell X.out rfl _) rfl rfl ?_;intro wy hy;have X:=hid hy;clear hy) | fail)
 exact bodyPost_ret (v:=.tuple #[plV ({ h with p1:=bits .and .u32 (IntKind.u32.wrap v) 7 }),.bool true]) (zbg Tryz.results295 _ _ (W.heap.size+1) _ _ rfl X.out.result rfl) rfl ⟨rfl,X.out.below⟩
theorem store_p2 (h:Pl) (v:Int) (W:World):TB 295 #[plV h,.int .u64 201326600,.int .i64 4,.int .u64 v] W (.tuple #[plV (stF h 201326600 4 v).1,.bool (stF h 201326600 4 v).2]):=by
 rw [zla]
 go_enter Tryz.func295,Tryz.ntmps295
 go_upto_region 1 with (fail)
 have X:=hid (Own.new W h)
 generalize (W.alloc (plO h)).alloc zak=w0 at *
 go_wp2_with (first | (go_at_call 327;(with_reducible refine (zjJ _).mono ?_);rintro e w' ⟨rfl,rfl⟩) | (with_reducible refine zav rfl rfl (Own.store_p2 X.out _) rfl rfl ?_;intro wy hy;have X:=hid hy;clear hy) | (with_reducible refine zaa rfl rfl (Own.load X.out) rfl ?_) | (with_reducible refine zav rfl rfl (Own.tell X.out rfl _) rfl rfl ?_;intro wy hy;have X:=hid hy;clear hy) | fail)
 exact bodyPost_ret (v:=.tuple #[plV ({ h with p2:=bits .and .u32 (IntKind.u32.wrap v) 7 }),.bool true]) (zbg Tryz.results295 _ _ (W.heap.size+1) _ _ rfl X.out.result rfl) rfl ⟨rfl,X.out.below⟩
theorem store_p3 (h:Pl) (v:Int) (W:World):TB 295 #[plV h,.int .u64 201326604,.int .i64 4,.int .u64 v] W (.tuple #[plV (stF h 201326604 4 v).1,.bool (stF h 201326604 4 v).2]):=by
 rw [znF]
 go_enter Tryz.func295,Tryz.ntmps295
 go_upto_region 1 with (fail)
 have X:=hid (Own.new W h)
 generalize (W.alloc (plO h)).alloc zak=w0 at *
 go_wp2_with (first | (go_at_call 327;(with_reducible refine (zhL _).mono ?_);rintro e w' ⟨rfl,rfl⟩) | (with_reducible refine zav rfl rfl (Own.store_p3 X.out _) rfl rfl ?_;intro wy hy;have X:=hid hy;clear hy) | (with_reducible refine zaa rfl rfl (Own.load X.out) rfl ?_) | (with_reducible refine zav rfl rfl (Own.tell X.out rfl _) rfl rfl ?_;intro wy hy;have X:=hid hy;clear hy) | fail)
 exact bodyPost_ret (v:=.tuple #[plV ({ h with p3:=bits .and .u32 (IntKind.u32.wrap v) 7 }),.bool true]) (zbg Tryz.results295 _ _ (W.heap.size+1) _ _ rfl X.out.result rfl) rfl ⟨rfl,X.out.below⟩
theorem store_e0 (h:Pl) (v:Int) (W:World):TB 295 #[plV h,.int .u64 201334784,.int .i64 4,.int .u64 v] W (.tuple #[plV (stF h 201334784 4 v).1,.bool (stF h 201334784 4 v).2]):=by
 rw [zs6]
 go_enter Tryz.func295,Tryz.ntmps295
 go_upto_region 1 with (fail)
 have X:=hid (Own.new W h)
 generalize (W.alloc (plO h)).alloc zak=w0 at *
 go_wp2_with (first | (go_at_call 327;(with_reducible refine (zh5 _).mono ?_);rintro e w' ⟨rfl,rfl⟩) | (with_reducible refine zav rfl rfl (Own.store_e0 X.out _) rfl rfl ?_;intro wy hy;have X:=hid hy;clear hy) | (with_reducible refine zaa rfl rfl (Own.load X.out) rfl ?_) | (with_reducible refine zav rfl rfl (Own.tell X.out rfl _) rfl rfl ?_;intro wy hy;have X:=hid hy;clear hy) | fail)
 exact bodyPost_ret (v:=.tuple #[plV ({ h with e0:=bits .and .u32 (IntKind.u32.wrap v) 14 }),.bool true]) (zbg Tryz.results295 _ _ (W.heap.size+1) _ _ rfl X.out.result rfl) rfl ⟨rfl,X.out.below⟩
theorem store_e1 (h:Pl) (v:Int) (W:World):TB 295 #[plV h,.int .u64 201334912,.int .i64 4,.int .u64 v] W (.tuple #[plV (stF h 201334912 4 v).1,.bool (stF h 201334912 4 v).2]):=by
 rw [zmG]
 go_enter Tryz.func295,Tryz.ntmps295
 go_upto_region 1 with (fail)
 have X:=hid (Own.new W h)
 generalize (W.alloc (plO h)).alloc zak=w0 at *
 go_wp2_with (first | (go_at_call 327;(with_reducible refine (zh3 _).mono ?_);rintro e w' ⟨rfl,rfl⟩) | (with_reducible refine zav rfl rfl (Own.store_e1 X.out _) rfl rfl ?_;intro wy hy;have X:=hid hy;clear hy) | (with_reducible refine zaa rfl rfl (Own.load X.out) rfl ?_) | (with_reducible refine zav rfl rfl (Own.tell X.out rfl _) rfl rfl ?_;intro wy hy;have X:=hid hy;clear hy) | fail)
 exact bodyPost_ret (v:=.tuple #[plV ({ h with e1:=bits .and .u32 (IntKind.u32.wrap v) 14 }),.bool true]) (zbg Tryz.results295 _ _ (W.heap.size+1) _ _ rfl X.out.result rfl) rfl ⟨rfl,X.out.below⟩
theorem store_l0 (h:Pl) (v:Int) (W:World):TB 295 #[plV h,.int .u64 203423744,.int .i64 4,.int .u64 v] W (.tuple #[plV (stF h 203423744 4 v).1,.bool (stF h 203423744 4 v).2]):=by
 rw [zkZ]
 go_enter Tryz.func295,Tryz.ntmps295
 go_upto_region 1 with (fail)
 have X:=hid (Own.new W h)
 generalize (W.alloc (plO h)).alloc zak=w0 at *
 go_wp2_with (first | (go_at_call 327;(with_reducible refine (zjI _).mono ?_);rintro e w' ⟨rfl,rfl⟩) | (with_reducible refine zav rfl rfl (Own.store_l0 X.out _) rfl rfl ?_;intro wy hy;have X:=hid hy;clear hy) | (with_reducible refine zaa rfl rfl (Own.load X.out) rfl ?_) | (with_reducible refine zav rfl rfl (Own.tell X.out rfl _) rfl rfl ?_;intro wy hy;have X:=hid hy;clear hy) | fail)
 exact bodyPost_ret (v:=.tuple #[plV ({ h with l0:=bits .and .u32 (IntKind.u32.wrap v) 7 }),.bool true]) (zbg Tryz.results295 _ _ (W.heap.size+1) _ _ rfl X.out.result rfl) rfl ⟨rfl,X.out.below⟩
theorem store_l1 (h:Pl) (v:Int) (W:World):TB 295 #[plV h,.int .u64 203427840,.int .i64 4,.int .u64 v] W (.tuple #[plV (stF h 203427840 4 v).1,.bool (stF h 203427840 4 v).2]):=by
 rw [zpW]
 go_enter Tryz.func295,Tryz.ntmps295
 go_upto_region 1 with (fail)
 have X:=hid (Own.new W h)
 generalize (W.alloc (plO h)).alloc zak=w0 at *
 go_wp2_with (first | (go_at_call 327;(with_reducible refine (zjv _).mono ?_);rintro e w' ⟨rfl,rfl⟩) | (with_reducible refine zav rfl rfl (Own.store_l1 X.out _) rfl rfl ?_;intro wy hy;have X:=hid hy;clear hy) | (with_reducible refine zaa rfl rfl (Own.load X.out) rfl ?_) | (with_reducible refine zav rfl rfl (Own.tell X.out rfl _) rfl rfl ?_;intro wy hy;have X:=hid hy;clear hy) | fail)
 exact bodyPost_ret (v:=.tuple #[plV ({ h with l1:=bits .and .u32 (IntKind.u32.wrap v) 7 }),.bool true]) (zbg Tryz.results295 _ _ (W.heap.size+1) _ _ rfl X.out.result rfl) rfl ⟨rfl,X.out.below⟩
theorem zls (h:Pl) (v:Int) (hc:U32 h.c) (hv:IntKind.u32.wrap v=0) (W:World):TB 295 #[plV h,.int .u64 203423748,.int .i64 4,.int .u64 v] W (.tuple #[plV (stF h 203423748 4 v).1,.bool (stF h 203423748 4 v).2]):=by
 rw [zfa,hv]
 rw [zgm h h.e0 0 (by omega)]
 have HC:=hid (zfW h hc h.e0)
 clear hc
 go_enter Tryz.func295,Tryz.ntmps295
 go_upto_region 1 with (fail)
 have X:=hid (Own.new W h)
 generalize (W.alloc (plO h)).alloc zak=w0 at *
 go_upto_region 14 with (first | (with_reducible refine zaa rfl rfl (Own.load X.out) rfl ?_) | (go_at_call 327;(with_reducible refine (zdy _).mono ?_);rintro e w' ⟨rfl,rfl⟩) | fail)
 refine wp_region_still_tail 11 (by kernel_rfl) (by kernel_rfl) ?_
 simp only [List.take_succ_cons,List.take_zero,List.drop_succ_cons,List.drop_zero]
 have X:Hid (Own W { w0 with drawn:=w0.drawn+1 } h zeroC):=hid X.out.drew
 generalize ({ w0 with drawn:=w0.drawn+1 }:World)=w3 at *
 repeat (first | (with_reducible first | refine zaK rfl rfl (Own.load_c X.out) rfl ?_ | refine zaK rfl rfl (Own.load_e0 X.out) rfl ?_) | still_step)
 still_call ((zet _).mono fun _ _ h=>⟨h.1,h.2.symm⟩)
 repeat (first | (with_reducible first | refine zaK rfl rfl (Own.load_c X.out) rfl ?_ | refine zaK rfl rfl (Own.load_e0 X.out) rfl ?_) | still_step)
 refine wpStill_nil ?_
 go_wp2_with (first | (with_reducible refine zav rfl rfl (Own.store_c X.out _) rfl rfl ?_;intro wy hy;have X:=hid hy;clear hy;rw [HC.out] at X) | (with_reducible refine zaa rfl rfl (Own.load X.out) rfl ?_) | (with_reducible refine zav rfl rfl (Own.tell X.out rfl _) rfl rfl ?_;intro wy hy;have X:=hid hy;clear hy) | fail)
 exact bodyPost_ret (v:=.tuple #[plV ({ h with c:=h.c }),.bool true]) (zbg Tryz.results295 _ _ (W.heap.size+1) _ _ rfl X.out.result rfl) rfl ⟨rfl,X.out.below⟩
theorem zw1 (h:Pl) (v:Int) (hc:U32 h.c) (hv:IntKind.u32.wrap v=1) (W:World):TB 295 #[plV h,.int .u64 203423748,.int .i64 4,.int .u64 v] W (.tuple #[plV (stF h 203423748 4 v).1,.bool (stF h 203423748 4 v).2]):=by
 rw [zfa,hv]
 have HC:Hid (bits .andNot .u32 h.c (bits .and .u32 2 h.e0)=zbS h 1 h.e0):=hid (zer h hc h.e0 1 (by omega))
 clear hc
 go_enter Tryz.func295,Tryz.ntmps295
 go_upto_region 1 with (fail)
 have X:=hid (Own.new W h)
 generalize (W.alloc (plO h)).alloc zak=w0 at *
 go_upto_region 14 with (first | (with_reducible refine zaa rfl rfl (Own.load X.out) rfl ?_) | (go_at_call 327;(with_reducible refine (zdy _).mono ?_);rintro e w' ⟨rfl,rfl⟩) | fail)
 refine wp_region_still_tail 11 (by kernel_rfl) (by kernel_rfl) ?_
 simp only [List.take_succ_cons,List.take_zero,List.drop_succ_cons,List.drop_zero]
 have X:Hid (Own W { w0 with drawn:=w0.drawn+1 } h zeroC):=hid X.out.drew
 generalize ({ w0 with drawn:=w0.drawn+1 }:World)=w3 at *
 repeat (first | (with_reducible first | refine zaK rfl rfl (Own.load_c X.out) rfl ?_ | refine zaK rfl rfl (Own.load_e0 X.out) rfl ?_) | still_step)
 still_call ((zdk _).mono fun _ _ h=>⟨h.1,h.2.symm⟩)
 repeat (first | (with_reducible first | refine zaK rfl rfl (Own.load_c X.out) rfl ?_ | refine zaK rfl rfl (Own.load_e0 X.out) rfl ?_) | still_step)
 refine wpStill_nil ?_
 go_wp2_with (first | (with_reducible refine zav rfl rfl (Own.store_c X.out _) rfl rfl ?_;intro wy hy;have X:=hid hy;clear hy;rw [HC.out] at X) | (with_reducible refine zaa rfl rfl (Own.load X.out) rfl ?_) | (with_reducible refine zav rfl rfl (Own.tell X.out rfl _) rfl rfl ?_;intro wy hy;have X:=hid hy;clear hy) | fail)
 exact bodyPost_ret (v:=.tuple #[plV ({ h with c:=zbS h 1 h.e0 }),.bool true]) (zbg Tryz.results295 _ _ (W.heap.size+1) _ _ rfl X.out.result rfl) rfl ⟨rfl,X.out.below⟩
theorem zrE (h:Pl) (v:Int) (hc:U32 h.c) (hv:IntKind.u32.wrap v=2) (W:World):TB 295 #[plV h,.int .u64 203423748,.int .i64 4,.int .u64 v] W (.tuple #[plV (stF h 203423748 4 v).1,.bool (stF h 203423748 4 v).2]):=by
 rw [zfa,hv]
 have HC:Hid (bits .andNot .u32 h.c (bits .and .u32 4 h.e0)=zbS h 2 h.e0):=hid (zer h hc h.e0 2 (by omega))
 clear hc
 go_enter Tryz.func295,Tryz.ntmps295
 go_upto_region 1 with (fail)
 have X:=hid (Own.new W h)
 generalize (W.alloc (plO h)).alloc zak=w0 at *
 go_upto_region 14 with (first | (with_reducible refine zaa rfl rfl (Own.load X.out) rfl ?_) | (go_at_call 327;(with_reducible refine (zdy _).mono ?_);rintro e w' ⟨rfl,rfl⟩) | fail)
 refine wp_region_still_tail 11 (by kernel_rfl) (by kernel_rfl) ?_
 simp only [List.take_succ_cons,List.take_zero,List.drop_succ_cons,List.drop_zero]
 have X:Hid (Own W { w0 with drawn:=w0.drawn+1 } h zeroC):=hid X.out.drew
 generalize ({ w0 with drawn:=w0.drawn+1 }:World)=w3 at *
 repeat (first | (with_reducible first | refine zaK rfl rfl (Own.load_c X.out) rfl ?_ | refine zaK rfl rfl (Own.load_e0 X.out) rfl ?_) | still_step)
 still_call ((zdo _).mono fun _ _ h=>⟨h.1,h.2.symm⟩)
 repeat (first | (with_reducible first | refine zaK rfl rfl (Own.load_c X.out) rfl ?_ | refine zaK rfl rfl (Own.load_e0 X.out) rfl ?_) | still_step)
 refine wpStill_nil ?_
 go_wp2_with (first | (with_reducible refine zav rfl rfl (Own.store_c X.out _) rfl rfl ?_;intro wy hy;have X:=hid hy;clear hy;rw [HC.out] at X) | (with_reducible refine zaa rfl rfl (Own.load X.out) rfl ?_) | (with_reducible refine zav rfl rfl (Own.tell X.out rfl _) rfl rfl ?_;intro wy hy;have X:=hid hy;clear hy) | fail)
 exact bodyPost_ret (v:=.tuple #[plV ({ h with c:=zbS h 2 h.e0 }),.bool true]) (zbg Tryz.results295 _ _ (W.heap.size+1) _ _ rfl X.out.result rfl) rfl ⟨rfl,X.out.below⟩
theorem zvs (h:Pl) (v:Int) (hc:U32 h.c) (hv:IntKind.u32.wrap v=3) (W:World):TB 295 #[plV h,.int .u64 203423748,.int .i64 4,.int .u64 v] W (.tuple #[plV (stF h 203423748 4 v).1,.bool (stF h 203423748 4 v).2]):=by
 rw [zfa,hv]
 have HC:Hid (bits .andNot .u32 h.c (bits .and .u32 8 h.e0)=zbS h 3 h.e0):=hid (zer h hc h.e0 3 (by omega))
 clear hc
 go_enter Tryz.func295,Tryz.ntmps295
 go_upto_region 1 with (fail)
 have X:=hid (Own.new W h)
 generalize (W.alloc (plO h)).alloc zak=w0 at *
 go_upto_region 14 with (first | (with_reducible refine zaa rfl rfl (Own.load X.out) rfl ?_) | (go_at_call 327;(with_reducible refine (zdy _).mono ?_);rintro e w' ⟨rfl,rfl⟩) | fail)
 refine wp_region_still_tail 11 (by kernel_rfl) (by kernel_rfl) ?_
 simp only [List.take_succ_cons,List.take_zero,List.drop_succ_cons,List.drop_zero]
 have X:Hid (Own W { w0 with drawn:=w0.drawn+1 } h zeroC):=hid X.out.drew
 generalize ({ w0 with drawn:=w0.drawn+1 }:World)=w3 at *
 repeat (first | (with_reducible first | refine zaK rfl rfl (Own.load_c X.out) rfl ?_ | refine zaK rfl rfl (Own.load_e0 X.out) rfl ?_) | still_step)
 still_call ((zdp _).mono fun _ _ h=>⟨h.1,h.2.symm⟩)
 repeat (first | (with_reducible first | refine zaK rfl rfl (Own.load_c X.out) rfl ?_ | refine zaK rfl rfl (Own.load_e0 X.out) rfl ?_) | still_step)
 refine wpStill_nil ?_
 go_wp2_with (first | (with_reducible refine zav rfl rfl (Own.store_c X.out _) rfl rfl ?_;intro wy hy;have X:=hid hy;clear hy;rw [HC.out] at X) | (with_reducible refine zaa rfl rfl (Own.load X.out) rfl ?_) | (with_reducible refine zav rfl rfl (Own.tell X.out rfl _) rfl rfl ?_;intro wy hy;have X:=hid hy;clear hy) | fail)
 exact bodyPost_ret (v:=.tuple #[plV ({ h with c:=zbS h 3 h.e0 }),.bool true]) (zbg Tryz.results295 _ _ (W.heap.size+1) _ _ rfl X.out.result rfl) rfl ⟨rfl,X.out.below⟩
theorem zt7 (h:Pl) (v n:Int) (hc:U32 h.c) (hv:IntKind.u32.wrap v=n) (hu:U32 n) (h4:4≤n) (W:World):TB 295 #[plV h,.int .u64 203423748,.int .i64 4,.int .u64 v] W (.tuple #[plV (stF h 203423748 4 v).1,.bool (stF h 203423748 4 v).2]):=by
 rw [zfa,hv,zgm h h.e0 n (by omega)]
 have HC:=hid (zfW h hc h.e0)
 clear hc
 go_enter Tryz.func295,Tryz.ntmps295
 go_upto_region 1 with (fail)
 have X:=hid (Own.new W h)
 generalize (W.alloc (plO h)).alloc zak=w0 at *
 go_upto_region 14 with (first | (with_reducible refine zaa rfl rfl (Own.load X.out) rfl ?_) | (go_at_call 327;(with_reducible refine (zdy _).mono ?_);rintro e w' ⟨rfl,rfl⟩) | fail)
 refine wp_region_still_tail 11 (by kernel_rfl) (by kernel_rfl) ?_
 simp only [List.take_succ_cons,List.take_zero,List.drop_succ_cons,List.drop_zero]
 have X:Hid (Own W { w0 with drawn:=w0.drawn+1 } h zeroC):=hid X.out.drew
 generalize ({ w0 with drawn:=w0.drawn+1 }:World)=w3 at *
 repeat (first | (with_reducible first | refine zaK rfl rfl (Own.load_c X.out) rfl ?_ | refine zaK rfl rfl (Own.load_e0 X.out) rfl ?_) | still_step)
 still_call ((zis n hu h4 _).mono fun _ _ h=>⟨h.1,h.2.symm⟩)
 repeat (first | (with_reducible first | refine zaK rfl rfl (Own.load_c X.out) rfl ?_ | refine zaK rfl rfl (Own.load_e0 X.out) rfl ?_) | still_step)
 refine wpStill_nil ?_
 go_wp2_with (first | (with_reducible refine zav rfl rfl (Own.store_c X.out _) rfl rfl ?_;intro wy hy;have X:=hid hy;clear hy;rw [HC.out] at X) | (with_reducible refine zaa rfl rfl (Own.load X.out) rfl ?_) | (with_reducible refine zav rfl rfl (Own.tell X.out rfl _) rfl rfl ?_;intro wy hy;have X:=hid hy;clear hy) | fail)
 exact bodyPost_ret (v:=.tuple #[plV ({ h with c:=h.c }),.bool true]) (zbg Tryz.results295 _ _ (W.heap.size+1) _ _ rfl X.out.result rfl) rfl ⟨rfl,X.out.below⟩
theorem ztn (h:Pl) (v:Int) (hc:U32 h.c) (W:World):TB 295 #[plV h,.int .u64 203423748,.int .i64 4,.int .u64 v] W (.tuple #[plV (stF h 203423748 4 v).1,.bool (stF h 203423748 4 v).2]):=by
 have hu:U32 (IntKind.u32.wrap v):=by unfold U32;rw [IntKind.wrap_u32];omega
 have h0:=hu.1
 rcases (show IntKind.u32.wrap v=0∨IntKind.u32.wrap v=1∨IntKind.u32.wrap v=2∨IntKind.u32.wrap v=3∨4≤IntKind.u32.wrap v by omega) with e | e | e | e | e
 ·exact zls h v hc e W
 ·exact zw1 h v hc e W
 ·exact zrE h v hc e W
 ·exact zvs h v hc e W
 ·exact zt7 h v _ hc rfl hu e W
theorem zs5 (h:Pl) (v:Int) (hc:U32 h.c) (hv:IntKind.u32.wrap v=0) (W:World):TB 295 #[plV h,.int .u64 203427844,.int .i64 4,.int .u64 v] W (.tuple #[plV (stF h 203427844 4 v).1,.bool (stF h 203427844 4 v).2]):=by
 rw [ze8,hv]
 rw [zgm h h.e1 0 (by omega)]
 have HC:=hid (zfW h hc h.e1)
 clear hc
 go_enter Tryz.func295,Tryz.ntmps295
 go_upto_region 1 with (fail)
 have X:=hid (Own.new W h)
 generalize (W.alloc (plO h)).alloc zak=w0 at *
 go_upto_region 14 with (first | (with_reducible refine zaa rfl rfl (Own.load X.out) rfl ?_) | (go_at_call 327;(with_reducible refine (zdD _).mono ?_);rintro e w' ⟨rfl,rfl⟩) | fail)
 refine wp_region_still_tail 11 (by kernel_rfl) (by kernel_rfl) ?_
 simp only [List.take_succ_cons,List.take_zero,List.drop_succ_cons,List.drop_zero]
 have X:Hid (Own W { w0 with drawn:=w0.drawn+1 } h zeroC):=hid X.out.drew
 generalize ({ w0 with drawn:=w0.drawn+1 }:World)=w3 at *
 repeat (first | (with_reducible first | refine zaK rfl rfl (Own.load_c X.out) rfl ?_ | refine zaK rfl rfl (Own.load_e1 X.out) rfl ?_) | still_step)
 still_call ((zet _).mono fun _ _ h=>⟨h.1,h.2.symm⟩)
 repeat (first | (with_reducible first | refine zaK rfl rfl (Own.load_c X.out) rfl ?_ | refine zaK rfl rfl (Own.load_e1 X.out) rfl ?_) | still_step)
 refine wpStill_nil ?_
 go_wp2_with (first | (with_reducible refine zav rfl rfl (Own.store_c X.out _) rfl rfl ?_;intro wy hy;have X:=hid hy;clear hy;rw [HC.out] at X) | (with_reducible refine zaa rfl rfl (Own.load X.out) rfl ?_) | (with_reducible refine zav rfl rfl (Own.tell X.out rfl _) rfl rfl ?_;intro wy hy;have X:=hid hy;clear hy) | fail)
 exact bodyPost_ret (v:=.tuple #[plV ({ h with c:=h.c }),.bool true]) (zbg Tryz.results295 _ _ (W.heap.size+1) _ _ rfl X.out.result rfl) rfl ⟨rfl,X.out.below⟩
theorem zm2 (h:Pl) (v:Int) (hc:U32 h.c) (hv:IntKind.u32.wrap v=1) (W:World):TB 295 #[plV h,.int .u64 203427844,.int .i64 4,.int .u64 v] W (.tuple #[plV (stF h 203427844 4 v).1,.bool (stF h 203427844 4 v).2]):=by
 rw [ze8,hv]
 have HC:Hid (bits .andNot .u32 h.c (bits .and .u32 2 h.e1)=zbS h 1 h.e1):=hid (zer h hc h.e1 1 (by omega))
 clear hc
 go_enter Tryz.func295,Tryz.ntmps295
 go_upto_region 1 with (fail)
 have X:=hid (Own.new W h)
 generalize (W.alloc (plO h)).alloc zak=w0 at *
 go_upto_region 14 with (first | (with_reducible refine zaa rfl rfl (Own.load X.out) rfl ?_) | (go_at_call 327;(with_reducible refine (zdD _).mono ?_);rintro e w' ⟨rfl,rfl⟩) | fail)
 refine wp_region_still_tail 11 (by kernel_rfl) (by kernel_rfl) ?_
 simp only [List.take_succ_cons,List.take_zero,List.drop_succ_cons,List.drop_zero]
 have X:Hid (Own W { w0 with drawn:=w0.drawn+1 } h zeroC):=hid X.out.drew
 generalize ({ w0 with drawn:=w0.drawn+1 }:World)=w3 at *
 repeat (first | (with_reducible first | refine zaK rfl rfl (Own.load_c X.out) rfl ?_ | refine zaK rfl rfl (Own.load_e1 X.out) rfl ?_) | still_step)
 still_call ((zdk _).mono fun _ _ h=>⟨h.1,h.2.symm⟩)
 repeat (first | (with_reducible first | refine zaK rfl rfl (Own.load_c X.out) rfl ?_ | refine zaK rfl rfl (Own.load_e1 X.out) rfl ?_) | still_step)
 refine wpStill_nil ?_
 go_wp2_with (first | (with_reducible refine zav rfl rfl (Own.store_c X.out _) rfl rfl ?_;intro wy hy;have X:=hid hy;clear hy;rw [HC.out] at X) | (with_reducible refine zaa rfl rfl (Own.load X.out) rfl ?_) | (with_reducible refine zav rfl rfl (Own.tell X.out rfl _) rfl rfl ?_;intro wy hy;have X:=hid hy;clear hy) | fail)
 exact bodyPost_ret (v:=.tuple #[plV ({ h with c:=zbS h 1 h.e1 }),.bool true]) (zbg Tryz.results295 _ _ (W.heap.size+1) _ _ rfl X.out.result rfl) rfl ⟨rfl,X.out.below⟩
theorem zrm (h:Pl) (v:Int) (hc:U32 h.c) (hv:IntKind.u32.wrap v=2) (W:World):TB 295 #[plV h,.int .u64 203427844,.int .i64 4,.int .u64 v] W (.tuple #[plV (stF h 203427844 4 v).1,.bool (stF h 203427844 4 v).2]):=by
 rw [ze8,hv]
 have HC:Hid (bits .andNot .u32 h.c (bits .and .u32 4 h.e1)=zbS h 2 h.e1):=hid (zer h hc h.e1 2 (by omega))
 clear hc
 go_enter Tryz.func295,Tryz.ntmps295
 go_upto_region 1 with (fail)
 have X:=hid (Own.new W h)
 generalize (W.alloc (plO h)).alloc zak=w0 at *
 go_upto_region 14 with (first | (with_reducible refine zaa rfl rfl (Own.load X.out) rfl ?_) | (go_at_call 327;(with_reducible refine (zdD _).mono ?_);rintro e w' ⟨rfl,rfl⟩) | fail)
 refine wp_region_still_tail 11 (by kernel_rfl) (by kernel_rfl) ?_
 simp only [List.take_succ_cons,List.take_zero,List.drop_succ_cons,List.drop_zero]
 have X:Hid (Own W { w0 with drawn:=w0.drawn+1 } h zeroC):=hid X.out.drew
 generalize ({ w0 with drawn:=w0.drawn+1 }:World)=w3 at *
 repeat (first | (with_reducible first | refine zaK rfl rfl (Own.load_c X.out) rfl ?_ | refine zaK rfl rfl (Own.load_e1 X.out) rfl ?_) | still_step)
 still_call ((zdo _).mono fun _ _ h=>⟨h.1,h.2.symm⟩)
 repeat (first | (with_reducible first | refine zaK rfl rfl (Own.load_c X.out) rfl ?_ | refine zaK rfl rfl (Own.load_e1 X.out) rfl ?_) | still_step)
 refine wpStill_nil ?_
 go_wp2_with (first | (with_reducible refine zav rfl rfl (Own.store_c X.out _) rfl rfl ?_;intro wy hy;have X:=hid hy;clear hy;rw [HC.out] at X) | (with_reducible refine zaa rfl rfl (Own.load X.out) rfl ?_) | (with_reducible refine zav rfl rfl (Own.tell X.out rfl _) rfl rfl ?_;intro wy hy;have X:=hid hy;clear hy) | fail)
 exact bodyPost_ret (v:=.tuple #[plV ({ h with c:=zbS h 2 h.e1 }),.bool true]) (zbg Tryz.results295 _ _ (W.heap.size+1) _ _ rfl X.out.result rfl) rfl ⟨rfl,X.out.below⟩
theorem zrB (h:Pl) (v:Int) (hc:U32 h.c) (hv:IntKind.u32.wrap v=3) (W:World):TB 295 #[plV h,.int .u64 203427844,.int .i64 4,.int .u64 v] W (.tuple #[plV (stF h 203427844 4 v).1,.bool (stF h 203427844 4 v).2]):=by
 rw [ze8,hv]
 have HC:Hid (bits .andNot .u32 h.c (bits .and .u32 8 h.e1)=zbS h 3 h.e1):=hid (zer h hc h.e1 3 (by omega))
 clear hc
 go_enter Tryz.func295,Tryz.ntmps295
 go_upto_region 1 with (fail)
 have X:=hid (Own.new W h)
 generalize (W.alloc (plO h)).alloc zak=w0 at *
 go_upto_region 14 with (first | (with_reducible refine zaa rfl rfl (Own.load X.out) rfl ?_) | (go_at_call 327;(with_reducible refine (zdD _).mono ?_);rintro e w' ⟨rfl,rfl⟩) | fail)
 refine wp_region_still_tail 11 (by kernel_rfl) (by kernel_rfl) ?_
 simp only [List.take_succ_cons,List.take_zero,List.drop_succ_cons,List.drop_zero]
 have X:Hid (Own W { w0 with drawn:=w0.drawn+1 } h zeroC):=hid X.out.drew
 generalize ({ w0 with drawn:=w0.drawn+1 }:World)=w3 at *
 repeat (first | (with_reducible first | refine zaK rfl rfl (Own.load_c X.out) rfl ?_ | refine zaK rfl rfl (Own.load_e1 X.out) rfl ?_) | still_step)
 still_call ((zdp _).mono fun _ _ h=>⟨h.1,h.2.symm⟩)
 repeat (first | (with_reducible first | refine zaK rfl rfl (Own.load_c X.out) rfl ?_ | refine zaK rfl rfl (Own.load_e1 X.out) rfl ?_) | still_step)
 refine wpStill_nil ?_
 go_wp2_with (first | (with_reducible refine zav rfl rfl (Own.store_c X.out _) rfl rfl ?_;intro wy hy;have X:=hid hy;clear hy;rw [HC.out] at X) | (with_reducible refine zaa rfl rfl (Own.load X.out) rfl ?_) | (with_reducible refine zav rfl rfl (Own.tell X.out rfl _) rfl rfl ?_;intro wy hy;have X:=hid hy;clear hy) | fail)
 exact bodyPost_ret (v:=.tuple #[plV ({ h with c:=zbS h 3 h.e1 }),.bool true]) (zbg Tryz.results295 _ _ (W.heap.size+1) _ _ rfl X.out.result rfl) rfl ⟨rfl,X.out.below⟩
theorem zs7 (h:Pl) (v n:Int) (hc:U32 h.c) (hv:IntKind.u32.wrap v=n) (hu:U32 n) (h4:4≤n) (W:World):TB 295 #[plV h,.int .u64 203427844,.int .i64 4,.int .u64 v] W (.tuple #[plV (stF h 203427844 4 v).1,.bool (stF h 203427844 4 v).2]):=by
 rw [ze8,hv,zgm h h.e1 n (by omega)]
 have HC:=hid (zfW h hc h.e1)
 clear hc
 go_enter Tryz.func295,Tryz.ntmps295
 go_upto_region 1 with (fail)
 have X:=hid (Own.new W h)
 generalize (W.alloc (plO h)).alloc zak=w0 at *
 go_upto_region 14 with (first | (with_reducible refine zaa rfl rfl (Own.load X.out) rfl ?_) | (go_at_call 327;(with_reducible refine (zdD _).mono ?_);rintro e w' ⟨rfl,rfl⟩) | fail)
 refine wp_region_still_tail 11 (by kernel_rfl) (by kernel_rfl) ?_
 simp only [List.take_succ_cons,List.take_zero,List.drop_succ_cons,List.drop_zero]
 have X:Hid (Own W { w0 with drawn:=w0.drawn+1 } h zeroC):=hid X.out.drew
 generalize ({ w0 with drawn:=w0.drawn+1 }:World)=w3 at *
 repeat (first | (with_reducible first | refine zaK rfl rfl (Own.load_c X.out) rfl ?_ | refine zaK rfl rfl (Own.load_e1 X.out) rfl ?_) | still_step)
 still_call ((zis n hu h4 _).mono fun _ _ h=>⟨h.1,h.2.symm⟩)
 repeat (first | (with_reducible first | refine zaK rfl rfl (Own.load_c X.out) rfl ?_ | refine zaK rfl rfl (Own.load_e1 X.out) rfl ?_) | still_step)
 refine wpStill_nil ?_
 go_wp2_with (first | (with_reducible refine zav rfl rfl (Own.store_c X.out _) rfl rfl ?_;intro wy hy;have X:=hid hy;clear hy;rw [HC.out] at X) | (with_reducible refine zaa rfl rfl (Own.load X.out) rfl ?_) | (with_reducible refine zav rfl rfl (Own.tell X.out rfl _) rfl rfl ?_;intro wy hy;have X:=hid hy;clear hy) | fail)
 exact bodyPost_ret (v:=.tuple #[plV ({ h with c:=h.c }),.bool true]) (zbg Tryz.results295 _ _ (W.heap.size+1) _ _ rfl X.out.result rfl) rfl ⟨rfl,X.out.below⟩
theorem ztU (h:Pl) (v:Int) (hc:U32 h.c) (W:World):TB 295 #[plV h,.int .u64 203427844,.int .i64 4,.int .u64 v] W (.tuple #[plV (stF h 203427844 4 v).1,.bool (stF h 203427844 4 v).2]):=by
 have hu:U32 (IntKind.u32.wrap v):=by unfold U32;rw [IntKind.wrap_u32];omega
 have h0:=hu.1
 rcases (show IntKind.u32.wrap v=0∨IntKind.u32.wrap v=1∨IntKind.u32.wrap v=2∨IntKind.u32.wrap v=3∨4≤IntKind.u32.wrap v by omega) with e | e | e | e | e
 ·exact zs5 h v hc e W
 ·exact zm2 h v hc e W
 ·exact zrm h v hc e W
 ·exact zrB h v hc e W
 ·exact zs7 h v _ hc rfl hu e W
theorem zci (h:Pl) (t z v:Int) (hz:(z != 4)=true) (W:World):TB 295 #[plV h,.int .u64 t,.int .i64 z,.int .u64 v] W (.tuple #[plV (stF h t z v).1,.bool (stF h t z v).2]):=by
 rw [zbW h t z v (.inl (by simpa using hz))]
 go_enter Tryz.func295,Tryz.ntmps295
 go_upto_region 1 with (fail)
 have X:=hid (Own.new W h)
 generalize (W.alloc (plO h)).alloc zak=w0 at *
 go_wp2_with (first | (with_reducible refine zav rfl rfl (Own.zero X.out rfl) rfl rfl ?_;intro wy hy;have X:=hid hy;clear hy) | fail)
 exact bodyPost_ret (v:=.tuple #[plV (zc4),.bool false]) (zbg Tryz.results295 _ _ (W.heap.size+1) _ _ rfl X.out.result rfl) rfl ⟨rfl,X.out.below⟩
theorem zq6 (h:Pl) (t v:Int) (hn:zdg t) (W:World):TB 295 #[plV h,.int .u64 t,.int .i64 4,.int .u64 v] W (.tuple #[plV (stF h t 4 v).1,.bool (stF h t 4 v).2]):=by
 rw [zbW h t 4 v (.inr hn)]
 go_enter Tryz.func295,Tryz.ntmps295
 go_upto_region 1 with (fail)
 have X:=hid (Own.new W h)
 generalize (W.alloc (plO h)).alloc zak=w0 at *
 go_wp2_with (first | (go_at_call 327;(with_reducible refine (zik t hn _).mono ?_);rintro e w' ⟨rfl,rfl⟩) | (with_reducible refine zav rfl rfl (Own.zero X.out rfl) rfl rfl ?_;intro wy hy;have X:=hid hy;clear hy) | fail)
 exact bodyPost_ret (v:=.tuple #[plV (zc4),.bool false]) (zbg Tryz.results295 _ _ (W.heap.size+1) _ _ rfl X.out.result rfl) rfl ⟨rfl,X.out.below⟩
theorem zt5 (h:Pl) (v:Int) (W:World):TB 295 #[plV h,.int .u64 201330688,.int .i64 4,.int .u64 v] W (.tuple #[plV (stF h 201330688 4 v).1,.bool (stF h 201330688 4 v).2]):=by
 rw [zu7 h v]
 go_enter Tryz.func295,Tryz.ntmps295
 go_upto_region 1 with (fail)
 have X:=hid (Own.new W h)
 generalize (W.alloc (plO h)).alloc zak=w0 at *
 go_wp2_with (first | (go_at_call 327;(with_reducible refine (zi1 _).mono ?_);rintro e w' ⟨rfl,rfl⟩) | (with_reducible refine zav rfl rfl (Own.zero X.out rfl) rfl rfl ?_;intro wy hy;have X:=hid hy;clear hy) | fail)
 exact bodyPost_ret (v:=.tuple #[plV (zc4),.bool false]) (zbg Tryz.results295 _ _ (W.heap.size+1) _ _ rfl X.out.result rfl) rfl ⟨rfl,X.out.below⟩
theorem zgM (h:Pl) (t z v:Int) (hc:U32 h.c) (W:World):TB 295 #[plV h,.int .u64 t,.int .i64 z,.int .u64 v] W (.tuple #[plV (stF h t z v).1,.bool (stF h t z v).2]):=by
 by_cases hz:z=4
 ·subst hz
  by_cases h_p1:t=201326596
  ·subst h_p1;exact store_p1 h v W
  by_cases h_p2:t=201326600
  ·subst h_p2;exact store_p2 h v W
  by_cases h_p3:t=201326604
  ·subst h_p3;exact store_p3 h v W
  by_cases h_wait:t=201330688
  ·subst h_wait;exact zt5 h v W
  by_cases h_e0:t=201334784
  ·subst h_e0;exact store_e0 h v W
  by_cases h_e1:t=201334912
  ·subst h_e1;exact store_e1 h v W
  by_cases h_l0:t=203423744
  ·subst h_l0;exact store_l0 h v W
  by_cases h_l1:t=203427840
  ·subst h_l1;exact store_l1 h v W
  by_cases h_b0:t=203423748
  ·subst h_b0;exact ztn h v hc W
  by_cases h_b1:t=203427844
  ·subst h_b1;exact ztU h v hc W
  exact zq6 h t v ⟨h_p1,h_p2,h_p3,h_wait,h_e0,h_e1,h_l0,h_l1,h_b0,h_b1⟩ W
 ·exact zci h t z v (by simpa using hz) W
end Go.Proofs.YtmjjpgaeboaamaaGreatDoor.Pc
