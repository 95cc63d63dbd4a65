/- MachineOn, part 19. -/
import Derived.Test.YtplcfdnfeclpmaaGreatDoorV03
import Derived.Test.YtplcfdnfeclpmaaGreatDoorV18
set_option maxHeartbeats 4000000
set_option maxRecDepth 100000
open Go.Lib (hid)
open Go Go.RowKit Go.Deep Go.Joins Go.Proofs.Tryz
namespace Go.Proofs.YtplcfdnfeclpmaaGreatDoor
theorem EBox.keep {w w':World} {g x:Nat} {k:Int} {s:ByteArray} {cs:Array Value} (h:EBox w g k s) (hg:g≠x) (hw:w'=w.setRow x cs):EBox w' g k s:=by subst hw;exact h.over hg cs
structure KC (W wx:World) (z:Nat) (b r:Bd) (k:Int) (s:ByteArray) (k2:Int) (s2:ByteArray):Prop where
 ks:KS W wx b r k s
 e:EBox wx z k2 s2
 far:W.heap.size+2<z
theorem KS.more {W w:World} {b r:Bd} {k:Int} {s:ByteArray} (h:KS W w b r k s):KC W (w.alloc effO) w.heap.size b r k s 0 ⟨#[]⟩:=⟨h.next (zag w effO),EBox.new w,h.size⟩
theorem KC.put {W w w':World} {z:Nat} {b b' r:Bd} {k k2:Int} {s s2:ByteArray} (h:KC W w z b r k s k2 s2) (hw:w'=w.setRow W.heap.size (bdC b')):KC W w' z b' r k s k2 s2:=⟨h.ks.put hw,h.e.keep (by have:=h.far;omega) hw,h.far⟩
theorem KC.tell {W w w':World} {z:Nat} {b r r':Bd} {k k2:Int} {s s2:ByteArray} (h:KC W w z b r k s k2 s2) (hw:w'=w.setRow (W.heap.size+1) (bdC r')):KC W w' z b r' k s k2 s2:=⟨h.ks.tell hw,h.e.keep (by have:=h.far;omega) hw,h.far⟩
theorem KC.give {W w w':World} {z:Nat} {b r:Bd} {k k' k2:Int} {s s' s2:ByteArray} (h:KC W w z b r k s k2 s2) (hw:w'=w.setRow (W.heap.size+2) #[.int .i64 k',.string s']):KC W w' z b r k' s' k2 s2:=⟨h.ks.give hw,h.e.keep (by have:=h.far;omega) hw,h.far⟩
theorem KC.set {W w w':World} {z:Nat} {b r:Bd} {k k2 k':Int} {s s2 s':ByteArray} (h:KC W w z b r k s k2 s2) (hw:w'=w.setRow z #[.int .i64 k',.string s']):KC W w' z b r k s k' s':=⟨h.ks.far h.far hw,by subst hw;exact h.e.mine k' s',h.far⟩
theorem KC.next {W w w':World} {z:Nat} {b r:Bd} {k k2:Int} {s s2:ByteArray} (h:KC W w z b r k s k2 s2) (j:Below w.heap.size w w'):KC W w' z b r k s k2 s2:=⟨h.ks.next j,h.e.next j,h.far⟩
theorem zyh (b:Bd) (F:List ByteArray) (v:Int) (W:World) (hf:FAt W (.slice b.fp b.fn b.fc) F) (hF:F.length≤8796093022208):Calls Tryz.prog 146 #[bdV b,.int .u64 33570816,.int .i64 8,.int .u64 v] W (Told W (stF b F 33570816 8 v).1 (stF b F 33570816 8 v).2.1 (fun x=>.tuple #[x,effV (stF b F 33570816 8 v).2.2.1 (stF b F 33570816 8 v).2.2.2.1,.bool (stF b F 33570816 8 v).2.2.2.2])):=by
 have hr:stF b F 33570816 8 v=({ b with cmp:=v },F,(0),(⟨#[]⟩),true):=rfl;rw [hr];clear hr;have HFR:=hid hf;have HFL:=hid hF;clear hf hF;go_enter func146,ntmps146;go_upto_region 1 with (fail);have X:=hid (KS.new W b);generalize ((W.alloc (bdO b)).alloc zaj).alloc effO=wx at X ⊢;go_upto_region 27 with (first | (go_at_call 198;with_reducible refine (zgD _).tq ?_) | (with_reducible refine zaa rfl rfl (Box.load X.out.own) rfl ?_) | (go_at_call 57;(with_reducible refine (za6 b F _ (HFR.out.next X.out.below) HFL.out).mono ?_);rintro e w2 ⟨p,cap,rfl,ho,k2⟩;have HO:=hid (ho.base X.out.below.size);have X:=hid (X.out.next k2);clear ho k2) | (with_reducible refine zaB X.out.own rfl rfl rfl rfl ?_;intro wy0 hwy;have HO:=hid ((HO.out.put X.out.own hwy).next (zag _ effO));have Y:=hid ((X.out.put hwy).more);clear X hwy) | (with_reducible refine Box.w_cmp Y.out.ks.own rfl rfl rfl rfl ?_;intro wy hwy;have HO:=hid (HO.out.put Y.out.ks.own hwy);have Y:=hid (Y.out.put hwy);clear hwy));refine wp_region_held (S:=fun w=>Box w W.heap.size ({ (b.at p F.length cap) with cmp:=v }:Bd)∧EBox w wy0.heap.size (0) (⟨#[]⟩)) (by kernel_rfl) ?_
 have hd:{ wy with drawn:=wy.drawn+1 }=wy.drew:=rfl;rw [hd];clear hd
 replace Y:=hid (Y.out.next (Below.refl _ _).drew)
 replace HO:=hid (HO.out.next (Below.refl _ _).drew)
 generalize wy.drew=wz at Y HO ⊢;have hS:Box wz W.heap.size ({ (b.at p F.length cap) with cmp:=v }:Bd)∧EBox wz wy0.heap.size (0) (⟨#[]⟩):=⟨Y.out.ks.own,Y.out.e⟩;refine wpAnyH_take (i:=0) (oi:=⟨some 70,Op.load 35 (.tmp 4),_,_,_,none⟩) (v:=_) rfl (by kernel_rfl) (by kernel_rfl) (by kernel_rfl) (fun _ _ _ h=>h) (zcj rfl rfl rfl (fun w hw=>hw.1.load)) hS ?_
 simp only [Act.put,List.setIfInBounds_toArray,List.set_cons_zero,List.set_cons_succ];refine wpAnyH_take (i:=1) (oi:=⟨some 71,Op.load 162 (.tmp 11),_,_,_,none⟩) (v:=_) rfl (by kernel_rfl) (by kernel_rfl) (by kernel_rfl) (fun _ _ _ h=>h) (zcj rfl rfl rfl (fun w hw=>hw.2.load)) hS ?_
 simp only [Act.put,List.setIfInBounds_toArray,List.set_cons_zero,List.set_cons_succ];refine zce (i:=2) (o:=⟨none,Op.store 35 (.tmp 8) (.tmp 70),_,_,_,none⟩) (by kernel_rfl) rfl rfl rfl rfl rfl (zaY _ _ _ _ Y.out.ks.res (zaN _)) ⟨Y.out.ks.own.over (by omega) _,Y.out.e.over (by have:=Y.out.far;omega) _⟩ ?_
 simp only [Act.put]
 replace HO:=hid (HO.out.over Y.out.ks.res (bdC ({ (b.at p F.length cap) with cmp:=v }:Bd)))
 replace Y:=hid (Y.out.tell (r':=({ (b.at p F.length cap) with cmp:=v }:Bd)) rfl)
 refine zce (i:=3) (o:=⟨none,Op.store 162 (.tmp 9) (.tmp 71),_,_,_,none⟩) (by kernel_rfl) rfl rfl rfl rfl rfl (EBox.store Y.out.ks.eff _ _) ⟨Y.out.ks.own.over (by omega) _,Y.out.e.over (by have:=Y.out.far;omega) _⟩ ?_
 simp only [Act.put]
 replace HO:=hid (HO.out.eput Y.out.ks.eff (cs:=#[.int .i64 ((0)),.string ((⟨#[]⟩))]) rfl)
 replace Y:=hid (Y.out.give (k':=(0)) (s':=(⟨#[]⟩)) rfl)
 replace hS:=And.intro Y.out.ks.own Y.out.e
 refine wpAnyH_take (i:=4) (oi:=⟨some 10,Op.assign (.const (.bool true)),_,_,_,none⟩) (v:=?_) rfl (by kernel_rfl) (by kernel_rfl) (by kernel_rfl) (fun _ _ _ h=>h) (Or.inl ⟨by rfl,?_⟩) hS ?_
 rotate_left
 ·(intro w hSw;(try dsimp only at hSw);go_simp;try with_reducible rfl)
 simp only [Act.put,List.setIfInBounds_toArray,List.set_cons_zero,List.set_cons_succ];refine wpAnyH_done (by kernel_rfl) ?_ _
 go_wp2_with fail;exact bodyPost_ret (v:=.tuple #[bdV ({ (b.at p F.length cap) with cmp:=v }:Bd),effV (0) (⟨#[]⟩),.bool true]) (zcK results146 _ _ (W.heap.size+1) (W.heap.size+2) _ _ _ _ rfl Y.out.ks.res rfl Y.out.ks.eff rfl) rfl ⟨p,cap,rfl,HO.out,Y.out.ks.below⟩
theorem zuh (b:Bd) (F:List ByteArray) (v:Int) (W:World) (hf:FAt W (.slice b.fp b.fn b.fc) F) (hF:F.length≤8796093022208):Calls Tryz.prog 146 #[bdV b,.int .u64 268439552,.int .i64 8,.int .u64 v] W (Told W (stF b F 268439552 8 v).1 (stF b F 268439552 8 v).2.1 (fun x=>.tuple #[x,effV (stF b F 268439552 8 v).2.2.1 (stF b F 268439552 8 v).2.2.2.1,.bool (stF b F 268439552 8 v).2.2.2.2])):=by
 have hr:stF b F 268439552 8 v=({ b with sector:=v },F,(0),(⟨#[]⟩),true):=rfl;rw [hr];clear hr;have HFR:=hid hf;have HFL:=hid hF;clear hf hF;go_enter func146,ntmps146;go_upto_region 1 with (fail);have X:=hid (KS.new W b);generalize ((W.alloc (bdO b)).alloc zaj).alloc effO=wx at X ⊢;go_upto_region 27 with (first | (go_at_call 198;with_reducible refine (zgW _).tq ?_) | (with_reducible refine zaa rfl rfl (Box.load X.out.own) rfl ?_) | (go_at_call 57;(with_reducible refine (za6 b F _ (HFR.out.next X.out.below) HFL.out).mono ?_);rintro e w2 ⟨p,cap,rfl,ho,k2⟩;have HO:=hid (ho.base X.out.below.size);have X:=hid (X.out.next k2);clear ho k2) | (with_reducible refine zaB X.out.own rfl rfl rfl rfl ?_;intro wy0 hwy;have HO:=hid ((HO.out.put X.out.own hwy).next (zag _ effO));have Y:=hid ((X.out.put hwy).more);clear X hwy) | (with_reducible refine Box.w_sector Y.out.ks.own rfl rfl rfl rfl ?_;intro wy hwy;have HO:=hid (HO.out.put Y.out.ks.own hwy);have Y:=hid (Y.out.put hwy);clear hwy));refine wp_region_held (S:=fun w=>Box w W.heap.size ({ (b.at p F.length cap) with sector:=v }:Bd)∧EBox w wy0.heap.size (0) (⟨#[]⟩)) (by kernel_rfl) ?_
 have hd:{ wy with drawn:=wy.drawn+1 }=wy.drew:=rfl;rw [hd];clear hd
 replace Y:=hid (Y.out.next (Below.refl _ _).drew)
 replace HO:=hid (HO.out.next (Below.refl _ _).drew)
 generalize wy.drew=wz at Y HO ⊢;have hS:Box wz W.heap.size ({ (b.at p F.length cap) with sector:=v }:Bd)∧EBox wz wy0.heap.size (0) (⟨#[]⟩):=⟨Y.out.ks.own,Y.out.e⟩;refine wpAnyH_take (i:=0) (oi:=⟨some 70,Op.load 35 (.tmp 4),_,_,_,none⟩) (v:=_) rfl (by kernel_rfl) (by kernel_rfl) (by kernel_rfl) (fun _ _ _ h=>h) (zcj rfl rfl rfl (fun w hw=>hw.1.load)) hS ?_
 simp only [Act.put,List.setIfInBounds_toArray,List.set_cons_zero,List.set_cons_succ];refine wpAnyH_take (i:=1) (oi:=⟨some 71,Op.load 162 (.tmp 11),_,_,_,none⟩) (v:=_) rfl (by kernel_rfl) (by kernel_rfl) (by kernel_rfl) (fun _ _ _ h=>h) (zcj rfl rfl rfl (fun w hw=>hw.2.load)) hS ?_
 simp only [Act.put,List.setIfInBounds_toArray,List.set_cons_zero,List.set_cons_succ];refine zce (i:=2) (o:=⟨none,Op.store 35 (.tmp 8) (.tmp 70),_,_,_,none⟩) (by kernel_rfl) rfl rfl rfl rfl rfl (zaY _ _ _ _ Y.out.ks.res (zaN _)) ⟨Y.out.ks.own.over (by omega) _,Y.out.e.over (by have:=Y.out.far;omega) _⟩ ?_
 simp only [Act.put]
 replace HO:=hid (HO.out.over Y.out.ks.res (bdC ({ (b.at p F.length cap) with sector:=v }:Bd)))
 replace Y:=hid (Y.out.tell (r':=({ (b.at p F.length cap) with sector:=v }:Bd)) rfl)
 refine zce (i:=3) (o:=⟨none,Op.store 162 (.tmp 9) (.tmp 71),_,_,_,none⟩) (by kernel_rfl) rfl rfl rfl rfl rfl (EBox.store Y.out.ks.eff _ _) ⟨Y.out.ks.own.over (by omega) _,Y.out.e.over (by have:=Y.out.far;omega) _⟩ ?_
 simp only [Act.put]
 replace HO:=hid (HO.out.eput Y.out.ks.eff (cs:=#[.int .i64 ((0)),.string ((⟨#[]⟩))]) rfl)
 replace Y:=hid (Y.out.give (k':=(0)) (s':=(⟨#[]⟩)) rfl)
 replace hS:=And.intro Y.out.ks.own Y.out.e
 refine wpAnyH_take (i:=4) (oi:=⟨some 10,Op.assign (.const (.bool true)),_,_,_,none⟩) (v:=?_) rfl (by kernel_rfl) (by kernel_rfl) (by kernel_rfl) (fun _ _ _ h=>h) (Or.inl ⟨by rfl,?_⟩) hS ?_
 rotate_left
 ·(intro w hSw;(try dsimp only at hSw);go_simp;try with_reducible rfl)
 simp only [Act.put,List.setIfInBounds_toArray,List.set_cons_zero,List.set_cons_succ];refine wpAnyH_done (by kernel_rfl) ?_ _
 go_wp2_with fail;exact bodyPost_ret (v:=.tuple #[bdV ({ (b.at p F.length cap) with sector:=v }:Bd),effV (0) (⟨#[]⟩),.bool true]) (zcK results146 _ _ (W.heap.size+1) (W.heap.size+2) _ _ _ _ rfl Y.out.ks.res rfl Y.out.ks.eff rfl) rfl ⟨p,cap,rfl,HO.out,Y.out.ks.below⟩
theorem zqd (b:Bd) (F:List ByteArray) (v:Int) (W:World) (hf:FAt W (.slice b.fp b.fn b.fc) F) (hF:F.length≤8796093022208):Calls Tryz.prog 146 #[bdV b,.int .u64 268439560,.int .i64 8,.int .u64 v] W (Told W (stF b F 268439560 8 v).1 (stF b F 268439560 8 v).2.1 (fun x=>.tuple #[x,effV (stF b F 268439560 8 v).2.2.1 (stF b F 268439560 8 v).2.2.2.1,.bool (stF b F 268439560 8 v).2.2.2.2])):=by
 have hr:stF b F 268439560 8 v=({ b with addr:=v },F,(0),(⟨#[]⟩),true):=rfl;rw [hr];clear hr;have HFR:=hid hf;have HFL:=hid hF;clear hf hF;go_enter func146,ntmps146;go_upto_region 1 with (fail);have X:=hid (KS.new W b);generalize ((W.alloc (bdO b)).alloc zaj).alloc effO=wx at X ⊢;go_upto_region 27 with (first | (go_at_call 198;with_reducible refine (zgs _).tq ?_) | (with_reducible refine zaa rfl rfl (Box.load X.out.own) rfl ?_) | (go_at_call 57;(with_reducible refine (za6 b F _ (HFR.out.next X.out.below) HFL.out).mono ?_);rintro e w2 ⟨p,cap,rfl,ho,k2⟩;have HO:=hid (ho.base X.out.below.size);have X:=hid (X.out.next k2);clear ho k2) | (with_reducible refine zaB X.out.own rfl rfl rfl rfl ?_;intro wy0 hwy;have HO:=hid ((HO.out.put X.out.own hwy).next (zag _ effO));have Y:=hid ((X.out.put hwy).more);clear X hwy) | (with_reducible refine Box.w_addr Y.out.ks.own rfl rfl rfl rfl ?_;intro wy hwy;have HO:=hid (HO.out.put Y.out.ks.own hwy);have Y:=hid (Y.out.put hwy);clear hwy));refine wp_region_held (S:=fun w=>Box w W.heap.size ({ (b.at p F.length cap) with addr:=v }:Bd)∧EBox w wy0.heap.size (0) (⟨#[]⟩)) (by kernel_rfl) ?_
 have hd:{ wy with drawn:=wy.drawn+1 }=wy.drew:=rfl;rw [hd];clear hd
 replace Y:=hid (Y.out.next (Below.refl _ _).drew)
 replace HO:=hid (HO.out.next (Below.refl _ _).drew)
 generalize wy.drew=wz at Y HO ⊢;have hS:Box wz W.heap.size ({ (b.at p F.length cap) with addr:=v }:Bd)∧EBox wz wy0.heap.size (0) (⟨#[]⟩):=⟨Y.out.ks.own,Y.out.e⟩;refine wpAnyH_take (i:=0) (oi:=⟨some 70,Op.load 35 (.tmp 4),_,_,_,none⟩) (v:=_) rfl (by kernel_rfl) (by kernel_rfl) (by kernel_rfl) (fun _ _ _ h=>h) (zcj rfl rfl rfl (fun w hw=>hw.1.load)) hS ?_
 simp only [Act.put,List.setIfInBounds_toArray,List.set_cons_zero,List.set_cons_succ];refine wpAnyH_take (i:=1) (oi:=⟨some 71,Op.load 162 (.tmp 11),_,_,_,none⟩) (v:=_) rfl (by kernel_rfl) (by kernel_rfl) (by kernel_rfl) (fun _ _ _ h=>h) (zcj rfl rfl rfl (fun w hw=>hw.2.load)) hS ?_
 simp only [Act.put,List.setIfInBounds_toArray,List.set_cons_zero,List.set_cons_succ];refine zce (i:=2) (o:=⟨none,Op.store 35 (.tmp 8) (.tmp 70),_,_,_,none⟩) (by kernel_rfl) rfl rfl rfl rfl rfl (zaY _ _ _ _ Y.out.ks.res (zaN _)) ⟨Y.out.ks.own.over (by omega) _,Y.out.e.over (by have:=Y.out.far;omega) _⟩ ?_
 simp only [Act.put]
 replace HO:=hid (HO.out.over Y.out.ks.res (bdC ({ (b.at p F.length cap) with addr:=v }:Bd)))
 replace Y:=hid (Y.out.tell (r':=({ (b.at p F.length cap) with addr:=v }:Bd)) rfl)
 refine zce (i:=3) (o:=⟨none,Op.store 162 (.tmp 9) (.tmp 71),_,_,_,none⟩) (by kernel_rfl) rfl rfl rfl rfl rfl (EBox.store Y.out.ks.eff _ _) ⟨Y.out.ks.own.over (by omega) _,Y.out.e.over (by have:=Y.out.far;omega) _⟩ ?_
 simp only [Act.put]
 replace HO:=hid (HO.out.eput Y.out.ks.eff (cs:=#[.int .i64 ((0)),.string ((⟨#[]⟩))]) rfl)
 replace Y:=hid (Y.out.give (k':=(0)) (s':=(⟨#[]⟩)) rfl)
 replace hS:=And.intro Y.out.ks.own Y.out.e
 refine wpAnyH_take (i:=4) (oi:=⟨some 10,Op.assign (.const (.bool true)),_,_,_,none⟩) (v:=?_) rfl (by kernel_rfl) (by kernel_rfl) (by kernel_rfl) (fun _ _ _ h=>h) (Or.inl ⟨by rfl,?_⟩) hS ?_
 rotate_left
 ·(intro w hSw;(try dsimp only at hSw);go_simp;try with_reducible rfl)
 simp only [Act.put,List.setIfInBounds_toArray,List.set_cons_zero,List.set_cons_succ];refine wpAnyH_done (by kernel_rfl) ?_ _
 go_wp2_with fail;exact bodyPost_ret (v:=.tuple #[bdV ({ (b.at p F.length cap) with addr:=v }:Bd),effV (0) (⟨#[]⟩),.bool true]) (zcK results146 _ _ (W.heap.size+1) (W.heap.size+2) _ _ _ _ rfl Y.out.ks.res rfl Y.out.ks.eff rfl) rfl ⟨p,cap,rfl,HO.out,Y.out.ks.below⟩
theorem zuZ (b:Bd) (F:List ByteArray) (v:Int) (W:World) (hf:FAt W (.slice b.fp b.fn b.fc) F) (hF:F.length≤8796093022208):Calls Tryz.prog 146 #[bdV b,.int .u64 268443656,.int .i64 8,.int .u64 v] W (Told W (stF b F 268443656 8 v).1 (stF b F 268443656 8 v).2.1 (fun x=>.tuple #[x,effV (stF b F 268443656 8 v).2.2.1 (stF b F 268443656 8 v).2.2.2.1,.bool (stF b F 268443656 8 v).2.2.2.2])):=by
 have hr:stF b F 268443656 8 v=({ b with nicA:=v },F,(0),(⟨#[]⟩),true):=rfl;rw [hr];clear hr;have HFR:=hid hf;have HFL:=hid hF;clear hf hF;go_enter func146,ntmps146;go_upto_region 1 with (fail);have X:=hid (KS.new W b);generalize ((W.alloc (bdO b)).alloc zaj).alloc effO=wx at X ⊢;go_upto_region 27 with (first | (go_at_call 198;with_reducible refine (zgI _).tq ?_) | (with_reducible refine zaa rfl rfl (Box.load X.out.own) rfl ?_) | (go_at_call 57;(with_reducible refine (za6 b F _ (HFR.out.next X.out.below) HFL.out).mono ?_);rintro e w2 ⟨p,cap,rfl,ho,k2⟩;have HO:=hid (ho.base X.out.below.size);have X:=hid (X.out.next k2);clear ho k2) | (with_reducible refine zaB X.out.own rfl rfl rfl rfl ?_;intro wy0 hwy;have HO:=hid ((HO.out.put X.out.own hwy).next (zag _ effO));have Y:=hid ((X.out.put hwy).more);clear X hwy) | (with_reducible refine Box.w_nicA Y.out.ks.own rfl rfl rfl rfl ?_;intro wy hwy;have HO:=hid (HO.out.put Y.out.ks.own hwy);have Y:=hid (Y.out.put hwy);clear hwy));refine wp_region_held (S:=fun w=>Box w W.heap.size ({ (b.at p F.length cap) with nicA:=v }:Bd)∧EBox w wy0.heap.size (0) (⟨#[]⟩)) (by kernel_rfl) ?_
 have hd:{ wy with drawn:=wy.drawn+1 }=wy.drew:=rfl;rw [hd];clear hd
 replace Y:=hid (Y.out.next (Below.refl _ _).drew)
 replace HO:=hid (HO.out.next (Below.refl _ _).drew)
 generalize wy.drew=wz at Y HO ⊢;have hS:Box wz W.heap.size ({ (b.at p F.length cap) with nicA:=v }:Bd)∧EBox wz wy0.heap.size (0) (⟨#[]⟩):=⟨Y.out.ks.own,Y.out.e⟩;refine wpAnyH_take (i:=0) (oi:=⟨some 70,Op.load 35 (.tmp 4),_,_,_,none⟩) (v:=_) rfl (by kernel_rfl) (by kernel_rfl) (by kernel_rfl) (fun _ _ _ h=>h) (zcj rfl rfl rfl (fun w hw=>hw.1.load)) hS ?_
 simp only [Act.put,List.setIfInBounds_toArray,List.set_cons_zero,List.set_cons_succ];refine wpAnyH_take (i:=1) (oi:=⟨some 71,Op.load 162 (.tmp 11),_,_,_,none⟩) (v:=_) rfl (by kernel_rfl) (by kernel_rfl) (by kernel_rfl) (fun _ _ _ h=>h) (zcj rfl rfl rfl (fun w hw=>hw.2.load)) hS ?_
 simp only [Act.put,List.setIfInBounds_toArray,List.set_cons_zero,List.set_cons_succ];refine zce (i:=2) (o:=⟨none,Op.store 35 (.tmp 8) (.tmp 70),_,_,_,none⟩) (by kernel_rfl) rfl rfl rfl rfl rfl (zaY _ _ _ _ Y.out.ks.res (zaN _)) ⟨Y.out.ks.own.over (by omega) _,Y.out.e.over (by have:=Y.out.far;omega) _⟩ ?_
 simp only [Act.put]
 replace HO:=hid (HO.out.over Y.out.ks.res (bdC ({ (b.at p F.length cap) with nicA:=v }:Bd)))
 replace Y:=hid (Y.out.tell (r':=({ (b.at p F.length cap) with nicA:=v }:Bd)) rfl)
 refine zce (i:=3) (o:=⟨none,Op.store 162 (.tmp 9) (.tmp 71),_,_,_,none⟩) (by kernel_rfl) rfl rfl rfl rfl rfl (EBox.store Y.out.ks.eff _ _) ⟨Y.out.ks.own.over (by omega) _,Y.out.e.over (by have:=Y.out.far;omega) _⟩ ?_
 simp only [Act.put]
 replace HO:=hid (HO.out.eput Y.out.ks.eff (cs:=#[.int .i64 ((0)),.string ((⟨#[]⟩))]) rfl)
 replace Y:=hid (Y.out.give (k':=(0)) (s':=(⟨#[]⟩)) rfl)
 replace hS:=And.intro Y.out.ks.own Y.out.e
 refine wpAnyH_take (i:=4) (oi:=⟨some 10,Op.assign (.const (.bool true)),_,_,_,none⟩) (v:=?_) rfl (by kernel_rfl) (by kernel_rfl) (by kernel_rfl) (fun _ _ _ h=>h) (Or.inl ⟨by rfl,?_⟩) hS ?_
 rotate_left
 ·(intro w hSw;(try dsimp only at hSw);go_simp;try with_reducible rfl)
 simp only [Act.put,List.setIfInBounds_toArray,List.set_cons_zero,List.set_cons_succ];refine wpAnyH_done (by kernel_rfl) ?_ _
 go_wp2_with fail;exact bodyPost_ret (v:=.tuple #[bdV ({ (b.at p F.length cap) with nicA:=v }:Bd),effV (0) (⟨#[]⟩),.bool true]) (zcK results146 _ _ (W.heap.size+1) (W.heap.size+2) _ _ _ _ rfl Y.out.ks.res rfl Y.out.ks.eff rfl) rfl ⟨p,cap,rfl,HO.out,Y.out.ks.below⟩
theorem zpi (b:Bd) (F:List ByteArray) (v:Int) (W:World) (hf:FAt W (.slice b.fp b.fn b.fc) F) (hF:F.length≤8796093022208):Calls Tryz.prog 146 #[bdV b,.int .u64 268443672,.int .i64 8,.int .u64 v] W (Told W (stF b F 268443672 8 v).1 (stF b F 268443672 8 v).2.1 (fun x=>.tuple #[x,effV (stF b F 268443672 8 v).2.2.1 (stF b F 268443672 8 v).2.2.2.1,.bool (stF b F 268443672 8 v).2.2.2.2])):=by
 have hr:stF b F 268443672 8 v=({ b with nicL:=v },F,(0),(⟨#[]⟩),true):=rfl;rw [hr];clear hr;have HFR:=hid hf;have HFL:=hid hF;clear hf hF;go_enter func146,ntmps146;go_upto_region 1 with (fail);have X:=hid (KS.new W b);generalize ((W.alloc (bdO b)).alloc zaj).alloc effO=wx at X ⊢;go_upto_region 27 with (first | (go_at_call 198;with_reducible refine (zgo _).tq ?_) | (with_reducible refine zaa rfl rfl (Box.load X.out.own) rfl ?_) | (go_at_call 57;(with_reducible refine (za6 b F _ (HFR.out.next X.out.below) HFL.out).mono ?_);rintro e w2 ⟨p,cap,rfl,ho,k2⟩;have HO:=hid (ho.base X.out.below.size);have X:=hid (X.out.next k2);clear ho k2) | (with_reducible refine zaB X.out.own rfl rfl rfl rfl ?_;intro wy0 hwy;have HO:=hid ((HO.out.put X.out.own hwy).next (zag _ effO));have Y:=hid ((X.out.put hwy).more);clear X hwy) | (with_reducible refine Box.w_nicL Y.out.ks.own rfl rfl rfl rfl ?_;intro wy hwy;have HO:=hid (HO.out.put Y.out.ks.own hwy);have Y:=hid (Y.out.put hwy);clear hwy));refine wp_region_held (S:=fun w=>Box w W.heap.size ({ (b.at p F.length cap) with nicL:=v }:Bd)∧EBox w wy0.heap.size (0) (⟨#[]⟩)) (by kernel_rfl) ?_
 have hd:{ wy with drawn:=wy.drawn+1 }=wy.drew:=rfl;rw [hd];clear hd
 replace Y:=hid (Y.out.next (Below.refl _ _).drew)
 replace HO:=hid (HO.out.next (Below.refl _ _).drew)
 generalize wy.drew=wz at Y HO ⊢;have hS:Box wz W.heap.size ({ (b.at p F.length cap) with nicL:=v }:Bd)∧EBox wz wy0.heap.size (0) (⟨#[]⟩):=⟨Y.out.ks.own,Y.out.e⟩;refine wpAnyH_take (i:=0) (oi:=⟨some 70,Op.load 35 (.tmp 4),_,_,_,none⟩) (v:=_) rfl (by kernel_rfl) (by kernel_rfl) (by kernel_rfl) (fun _ _ _ h=>h) (zcj rfl rfl rfl (fun w hw=>hw.1.load)) hS ?_
 simp only [Act.put,List.setIfInBounds_toArray,List.set_cons_zero,List.set_cons_succ];refine wpAnyH_take (i:=1) (oi:=⟨some 71,Op.load 162 (.tmp 11),_,_,_,none⟩) (v:=_) rfl (by kernel_rfl) (by kernel_rfl) (by kernel_rfl) (fun _ _ _ h=>h) (zcj rfl rfl rfl (fun w hw=>hw.2.load)) hS ?_
 simp only [Act.put,List.setIfInBounds_toArray,List.set_cons_zero,List.set_cons_succ];refine zce (i:=2) (o:=⟨none,Op.store 35 (.tmp 8) (.tmp 70),_,_,_,none⟩) (by kernel_rfl) rfl rfl rfl rfl rfl (zaY _ _ _ _ Y.out.ks.res (zaN _)) ⟨Y.out.ks.own.over (by omega) _,Y.out.e.over (by have:=Y.out.far;omega) _⟩ ?_
 simp only [Act.put]
 replace HO:=hid (HO.out.over Y.out.ks.res (bdC ({ (b.at p F.length cap) with nicL:=v }:Bd)))
 replace Y:=hid (Y.out.tell (r':=({ (b.at p F.length cap) with nicL:=v }:Bd)) rfl)
 refine zce (i:=3) (o:=⟨none,Op.store 162 (.tmp 9) (.tmp 71),_,_,_,none⟩) (by kernel_rfl) rfl rfl rfl rfl rfl (EBox.store Y.out.ks.eff _ _) ⟨Y.out.ks.own.over (by omega) _,Y.out.e.over (by have:=Y.out.far;omega) _⟩ ?_
 simp only [Act.put]
 replace HO:=hid (HO.out.eput Y.out.ks.eff (cs:=#[.int .i64 ((0)),.string ((⟨#[]⟩))]) rfl)
 replace Y:=hid (Y.out.give (k':=(0)) (s':=(⟨#[]⟩)) rfl)
 replace hS:=And.intro Y.out.ks.own Y.out.e
 refine wpAnyH_take (i:=4) (oi:=⟨some 10,Op.assign (.const (.bool true)),_,_,_,none⟩) (v:=?_) rfl (by kernel_rfl) (by kernel_rfl) (by kernel_rfl) (fun _ _ _ h=>h) (Or.inl ⟨by rfl,?_⟩) hS ?_
 rotate_left
 ·(intro w hSw;(try dsimp only at hSw);go_simp;try with_reducible rfl)
 simp only [Act.put,List.setIfInBounds_toArray,List.set_cons_zero,List.set_cons_succ];refine wpAnyH_done (by kernel_rfl) ?_ _
 go_wp2_with fail;exact bodyPost_ret (v:=.tuple #[bdV ({ (b.at p F.length cap) with nicL:=v }:Bd),effV (0) (⟨#[]⟩),.bool true]) (zcK results146 _ _ (W.heap.size+1) (W.heap.size+2) _ _ _ _ rfl Y.out.ks.res rfl Y.out.ks.eff rfl) rfl ⟨p,cap,rfl,HO.out,Y.out.ks.below⟩
theorem zva (b:Bd) (F:List ByteArray) (v:Int) (W:World) (hf:FAt W (.slice b.fp b.fn b.fc) F) (hF:F.length≤8796093022208):Calls Tryz.prog 146 #[bdV b,.int .u64 33554432,.int .i64 4,.int .u64 v] W (Told W (stF b F 33554432 4 v).1 (stF b F 33554432 4 v).2.1 (fun x=>.tuple #[x,effV (stF b F 33554432 4 v).2.2.1 (stF b F 33554432 4 v).2.2.2.1,.bool (stF b F 33554432 4 v).2.2.2.2])):=by
 have hr:stF b F 33554432 4 v=({ b with msip:=bits .and .u64 v 1==1 },F,(0),(⟨#[]⟩),true):=rfl;rw [hr];clear hr;have HFR:=hid hf;have HFL:=hid hF;clear hf hF;go_enter func146,ntmps146;go_upto_region 1 with (fail);have X:=hid (KS.new W b);generalize ((W.alloc (bdO b)).alloc zaj).alloc effO=wx at X ⊢;go_upto_region 27 with (first | (go_at_call 198;with_reducible refine (zhh _).tq ?_) | (with_reducible refine zaa rfl rfl (Box.load X.out.own) rfl ?_) | (go_at_call 57;(with_reducible refine (za6 b F _ (HFR.out.next X.out.below) HFL.out).mono ?_);rintro e w2 ⟨p,cap,rfl,ho,k2⟩;have HO:=hid (ho.base X.out.below.size);have X:=hid (X.out.next k2);clear ho k2) | (with_reducible refine zaB X.out.own rfl rfl rfl rfl ?_;intro wy0 hwy;have HO:=hid ((HO.out.put X.out.own hwy).next (zag _ effO));have Y:=hid ((X.out.put hwy).more);clear X hwy) | (with_reducible refine Box.w_msip Y.out.ks.own rfl rfl rfl rfl ?_;intro wy hwy;have HO:=hid (HO.out.put Y.out.ks.own hwy);have Y:=hid (Y.out.put hwy);clear hwy));refine wp_region_held (S:=fun w=>Box w W.heap.size ({ (b.at p F.length cap) with msip:=bits .and .u64 v 1==1 }:Bd)∧EBox w wy0.heap.size (0) (⟨#[]⟩)) (by kernel_rfl) ?_
 have hd:{ wy with drawn:=wy.drawn+1 }=wy.drew:=rfl;rw [hd];clear hd
 replace Y:=hid (Y.out.next (Below.refl _ _).drew)
 replace HO:=hid (HO.out.next (Below.refl _ _).drew)
 generalize wy.drew=wz at Y HO ⊢;have hS:Box wz W.heap.size ({ (b.at p F.length cap) with msip:=bits .and .u64 v 1==1 }:Bd)∧EBox wz wy0.heap.size (0) (⟨#[]⟩):=⟨Y.out.ks.own,Y.out.e⟩;refine wpAnyH_take (i:=0) (oi:=⟨some 70,Op.load 35 (.tmp 4),_,_,_,none⟩) (v:=_) rfl (by kernel_rfl) (by kernel_rfl) (by kernel_rfl) (fun _ _ _ h=>h) (zcj rfl rfl rfl (fun w hw=>hw.1.load)) hS ?_
 simp only [Act.put,List.setIfInBounds_toArray,List.set_cons_zero,List.set_cons_succ];refine wpAnyH_take (i:=1) (oi:=⟨some 71,Op.load 162 (.tmp 11),_,_,_,none⟩) (v:=_) rfl (by kernel_rfl) (by kernel_rfl) (by kernel_rfl) (fun _ _ _ h=>h) (zcj rfl rfl rfl (fun w hw=>hw.2.load)) hS ?_
 simp only [Act.put,List.setIfInBounds_toArray,List.set_cons_zero,List.set_cons_succ];refine zce (i:=2) (o:=⟨none,Op.store 35 (.tmp 8) (.tmp 70),_,_,_,none⟩) (by kernel_rfl) rfl rfl rfl rfl rfl (zaY _ _ _ _ Y.out.ks.res (zaN _)) ⟨Y.out.ks.own.over (by omega) _,Y.out.e.over (by have:=Y.out.far;omega) _⟩ ?_
 simp only [Act.put]
 replace HO:=hid (HO.out.over Y.out.ks.res (bdC ({ (b.at p F.length cap) with msip:=bits .and .u64 v 1==1 }:Bd)))
 replace Y:=hid (Y.out.tell (r':=({ (b.at p F.length cap) with msip:=bits .and .u64 v 1==1 }:Bd)) rfl)
 refine zce (i:=3) (o:=⟨none,Op.store 162 (.tmp 9) (.tmp 71),_,_,_,none⟩) (by kernel_rfl) rfl rfl rfl rfl rfl (EBox.store Y.out.ks.eff _ _) ⟨Y.out.ks.own.over (by omega) _,Y.out.e.over (by have:=Y.out.far;omega) _⟩ ?_
 simp only [Act.put]
 replace HO:=hid (HO.out.eput Y.out.ks.eff (cs:=#[.int .i64 ((0)),.string ((⟨#[]⟩))]) rfl)
 replace Y:=hid (Y.out.give (k':=(0)) (s':=(⟨#[]⟩)) rfl)
 replace hS:=And.intro Y.out.ks.own Y.out.e
 refine wpAnyH_take (i:=4) (oi:=⟨some 10,Op.assign (.const (.bool true)),_,_,_,none⟩) (v:=?_) rfl (by kernel_rfl) (by kernel_rfl) (by kernel_rfl) (fun _ _ _ h=>h) (Or.inl ⟨by rfl,?_⟩) hS ?_
 rotate_left
 ·(intro w hSw;(try dsimp only at hSw);go_simp;try with_reducible rfl)
 simp only [Act.put,List.setIfInBounds_toArray,List.set_cons_zero,List.set_cons_succ];refine wpAnyH_done (by kernel_rfl) ?_ _
 go_wp2_with fail;exact bodyPost_ret (v:=.tuple #[bdV ({ (b.at p F.length cap) with msip:=bits .and .u64 v 1==1 }:Bd),effV (0) (⟨#[]⟩),.bool true]) (zcK results146 _ _ (W.heap.size+1) (W.heap.size+2) _ _ _ _ rfl Y.out.ks.res rfl Y.out.ks.eff rfl) rfl ⟨p,cap,rfl,HO.out,Y.out.ks.below⟩
theorem zmU (b:Bd) (F:List ByteArray) (v:Int) (W:World) (hf:FAt W (.slice b.fp b.fn b.fc) F) (hF:F.length≤8796093022208):Calls Tryz.prog 146 #[bdV b,.int .u64 268435457,.int .i64 1,.int .u64 v] W (Told W (stF b F 268435457 1 v).1 (stF b F 268435457 1 v).2.1 (fun x=>.tuple #[x,effV (stF b F 268435457 1 v).2.2.1 (stF b F 268435457 1 v).2.2.2.1,.bool (stF b F 268435457 1 v).2.2.2.2])):=by
 have hr:stF b F 268435457 1 v=({ b with ier:=bits .and .u64 v 1==1 },F,(0),(⟨#[]⟩),true):=rfl;rw [hr];clear hr;have HFR:=hid hf;have HFL:=hid hF;clear hf hF;go_enter func146,ntmps146;go_upto_region 1 with (fail);have X:=hid (KS.new W b);generalize ((W.alloc (bdO b)).alloc zaj).alloc effO=wx at X ⊢;go_upto_region 27 with (first | (go_at_call 198;with_reducible refine (zgK _).tq ?_) | (with_reducible refine zaa rfl rfl (Box.load X.out.own) rfl ?_) | (go_at_call 57;(with_reducible refine (za6 b F _ (HFR.out.next X.out.below) HFL.out).mono ?_);rintro e w2 ⟨p,cap,rfl,ho,k2⟩;have HO:=hid (ho.base X.out.below.size);have X:=hid (X.out.next k2);clear ho k2) | (with_reducible refine zaB X.out.own rfl rfl rfl rfl ?_;intro wy0 hwy;have HO:=hid ((HO.out.put X.out.own hwy).next (zag _ effO));have Y:=hid ((X.out.put hwy).more);clear X hwy) | (with_reducible refine Box.w_ier Y.out.ks.own rfl rfl rfl rfl ?_;intro wy hwy;have HO:=hid (HO.out.put Y.out.ks.own hwy);have Y:=hid (Y.out.put hwy);clear hwy));refine wp_region_held (S:=fun w=>Box w W.heap.size ({ (b.at p F.length cap) with ier:=bits .and .u64 v 1==1 }:Bd)∧EBox w wy0.heap.size (0) (⟨#[]⟩)) (by kernel_rfl) ?_
 have hd:{ wy with drawn:=wy.drawn+1 }=wy.drew:=rfl;rw [hd];clear hd
 replace Y:=hid (Y.out.next (Below.refl _ _).drew)
 replace HO:=hid (HO.out.next (Below.refl _ _).drew)
 generalize wy.drew=wz at Y HO ⊢;have hS:Box wz W.heap.size ({ (b.at p F.length cap) with ier:=bits .and .u64 v 1==1 }:Bd)∧EBox wz wy0.heap.size (0) (⟨#[]⟩):=⟨Y.out.ks.own,Y.out.e⟩;refine wpAnyH_take (i:=0) (oi:=⟨some 70,Op.load 35 (.tmp 4),_,_,_,none⟩) (v:=_) rfl (by kernel_rfl) (by kernel_rfl) (by kernel_rfl) (fun _ _ _ h=>h) (zcj rfl rfl rfl (fun w hw=>hw.1.load)) hS ?_
 simp only [Act.put,List.setIfInBounds_toArray,List.set_cons_zero,List.set_cons_succ];refine wpAnyH_take (i:=1) (oi:=⟨some 71,Op.load 162 (.tmp 11),_,_,_,none⟩) (v:=_) rfl (by kernel_rfl) (by kernel_rfl) (by kernel_rfl) (fun _ _ _ h=>h) (zcj rfl rfl rfl (fun w hw=>hw.2.load)) hS ?_
 simp only [Act.put,List.setIfInBounds_toArray,List.set_cons_zero,List.set_cons_succ];refine zce (i:=2) (o:=⟨none,Op.store 35 (.tmp 8) (.tmp 70),_,_,_,none⟩) (by kernel_rfl) rfl rfl rfl rfl rfl (zaY _ _ _ _ Y.out.ks.res (zaN _)) ⟨Y.out.ks.own.over (by omega) _,Y.out.e.over (by have:=Y.out.far;omega) _⟩ ?_
 simp only [Act.put]
 replace HO:=hid (HO.out.over Y.out.ks.res (bdC ({ (b.at p F.length cap) with ier:=bits .and .u64 v 1==1 }:Bd)))
 replace Y:=hid (Y.out.tell (r':=({ (b.at p F.length cap) with ier:=bits .and .u64 v 1==1 }:Bd)) rfl)
 refine zce (i:=3) (o:=⟨none,Op.store 162 (.tmp 9) (.tmp 71),_,_,_,none⟩) (by kernel_rfl) rfl rfl rfl rfl rfl (EBox.store Y.out.ks.eff _ _) ⟨Y.out.ks.own.over (by omega) _,Y.out.e.over (by have:=Y.out.far;omega) _⟩ ?_
 simp only [Act.put]
 replace HO:=hid (HO.out.eput Y.out.ks.eff (cs:=#[.int .i64 ((0)),.string ((⟨#[]⟩))]) rfl)
 replace Y:=hid (Y.out.give (k':=(0)) (s':=(⟨#[]⟩)) rfl)
 replace hS:=And.intro Y.out.ks.own Y.out.e
 refine wpAnyH_take (i:=4) (oi:=⟨some 10,Op.assign (.const (.bool true)),_,_,_,none⟩) (v:=?_) rfl (by kernel_rfl) (by kernel_rfl) (by kernel_rfl) (fun _ _ _ h=>h) (Or.inl ⟨by rfl,?_⟩) hS ?_
 rotate_left
 ·(intro w hSw;(try dsimp only at hSw);go_simp;try with_reducible rfl)
 simp only [Act.put,List.setIfInBounds_toArray,List.set_cons_zero,List.set_cons_succ];refine wpAnyH_done (by kernel_rfl) ?_ _
 go_wp2_with fail;exact bodyPost_ret (v:=.tuple #[bdV ({ (b.at p F.length cap) with ier:=bits .and .u64 v 1==1 }:Bd),effV (0) (⟨#[]⟩),.bool true]) (zcK results146 _ _ (W.heap.size+1) (W.heap.size+2) _ _ _ _ rfl Y.out.ks.res rfl Y.out.ks.eff rfl) rfl ⟨p,cap,rfl,HO.out,Y.out.ks.below⟩
theorem zkK (v a b:Int):Hid (∀ W,TW 200 #[.int .u64 v,.int .i64 a,.int .i64 b] W (.int .i64 (ordV v a b))):=hid (zyX v a b)
theorem zvF (v:Int) (h0:0≤v) (h1:v≤18446744073709551615) (W:World):TB 144 #[.int .u64 v,.int .i64 1] W (.string (outS v)):=by
 obtain ⟨n,rfl⟩:=Int.eq_ofNat_of_zero_le h0;exact zlB n 1 W (by omega) (by omega)
theorem znS (b:Bd) (F:List ByteArray) (v:Int) (W:World) (hf:FAt W (.slice b.fp b.fn b.fc) F) (hF:F.length≤8796093022208):Calls Tryz.prog 146 #[bdV b,.int .u64 268439568,.int .i64 8,.int .u64 v] W (Told W (stF b F 268439568 8 v).1 (stF b F 268439568 8 v).2.1 (fun x=>.tuple #[x,effV (stF b F 268439568 8 v).2.2.1 (stF b F 268439568 8 v).2.2.2.1,.bool (stF b F 268439568 8 v).2.2.2.2])):=by
 have hr:stF b F 268439568 8 v=(b,F,(ordV v 2 3),(⟨#[]⟩),true):=rfl;rw [hr];clear hr;have HFR:=hid hf;have HFL:=hid hF;clear hf hF;go_enter func146,ntmps146;go_upto_region 1 with (fail);have X:=hid (KS.new W b);generalize ((W.alloc (bdO b)).alloc zaj).alloc effO=wx at X ⊢;go_upto_region 27 with (first | (go_at_call 198;with_reducible refine (zgA _).tq ?_) | (with_reducible refine zaa rfl rfl (Box.load X.out.own) rfl ?_) | (go_at_call 57;(with_reducible refine (za6 b F _ (HFR.out.next X.out.below) HFL.out).mono ?_);rintro e w2 ⟨p,cap,rfl,ho,k2⟩;have HO:=hid (ho.base X.out.below.size);have X:=hid (X.out.next k2);clear ho k2) | (with_reducible refine zaB X.out.own rfl rfl rfl rfl ?_;intro wy0 hwy;have HO:=hid ((HO.out.put X.out.own hwy).next (zag _ effO));have Y:=hid ((X.out.put hwy).more);clear X hwy) | (go_at_call 200;with_reducible refine ((zkK v 2 3).out _).tq ?_) | (with_reducible refine EBox.w_kind Y.out.e rfl rfl rfl rfl ?_;intro wy hwy;have HO:=hid (HO.out.eput Y.out.e hwy);have Y:=hid (Y.out.set hwy);clear hwy));refine wp_region_held (S:=fun w=>Box w W.heap.size (b.at p F.length cap)∧EBox w wy0.heap.size (ordV v 2 3) (⟨#[]⟩)) (by kernel_rfl) ?_
 have hd:{ wy with drawn:=wy.drawn+1 }=wy.drew:=rfl;rw [hd];clear hd
 replace Y:=hid (Y.out.next (Below.refl _ _).drew)
 replace HO:=hid (HO.out.next (Below.refl _ _).drew)
 generalize wy.drew=wz at Y HO ⊢;have hS:Box wz W.heap.size (b.at p F.length cap)∧EBox wz wy0.heap.size (ordV v 2 3) (⟨#[]⟩):=⟨Y.out.ks.own,Y.out.e⟩;refine wpAnyH_take (i:=0) (oi:=⟨some 70,Op.load 35 (.tmp 4),_,_,_,none⟩) (v:=_) rfl (by kernel_rfl) (by kernel_rfl) (by kernel_rfl) (fun _ _ _ h=>h) (zcj rfl rfl rfl (fun w hw=>hw.1.load)) hS ?_
 simp only [Act.put,List.setIfInBounds_toArray,List.set_cons_zero,List.set_cons_succ];refine wpAnyH_take (i:=1) (oi:=⟨some 71,Op.load 162 (.tmp 11),_,_,_,none⟩) (v:=_) rfl (by kernel_rfl) (by kernel_rfl) (by kernel_rfl) (fun _ _ _ h=>h) (zcj rfl rfl rfl (fun w hw=>hw.2.load)) hS ?_
 simp only [Act.put,List.setIfInBounds_toArray,List.set_cons_zero,List.set_cons_succ];refine zce (i:=2) (o:=⟨none,Op.store 35 (.tmp 8) (.tmp 70),_,_,_,none⟩) (by kernel_rfl) rfl rfl rfl rfl rfl (zaY _ _ _ _ Y.out.ks.res (zaN _)) ⟨Y.out.ks.own.over (by omega) _,Y.out.e.over (by have:=Y.out.far;omega) _⟩ ?_
 simp only [Act.put]
 replace HO:=hid (HO.out.over Y.out.ks.res (bdC (b.at p F.length cap)))
 replace Y:=hid (Y.out.tell (r':=(b.at p F.length cap)) rfl)
 refine zce (i:=3) (o:=⟨none,Op.store 162 (.tmp 9) (.tmp 71),_,_,_,none⟩) (by kernel_rfl) rfl rfl rfl rfl rfl (EBox.store Y.out.ks.eff _ _) ⟨Y.out.ks.own.over (by omega) _,Y.out.e.over (by have:=Y.out.far;omega) _⟩ ?_
 simp only [Act.put]
 replace HO:=hid (HO.out.eput Y.out.ks.eff (cs:=#[.int .i64 ((ordV v 2 3)),.string ((⟨#[]⟩))]) rfl)
 replace Y:=hid (Y.out.give (k':=(ordV v 2 3)) (s':=(⟨#[]⟩)) rfl)
 replace hS:=And.intro Y.out.ks.own Y.out.e
 refine wpAnyH_take (i:=4) (oi:=⟨some 10,Op.assign (.const (.bool true)),_,_,_,none⟩) (v:=?_) rfl (by kernel_rfl) (by kernel_rfl) (by kernel_rfl) (fun _ _ _ h=>h) (Or.inl ⟨by rfl,?_⟩) hS ?_
 rotate_left
 ·(intro w hSw;(try dsimp only at hSw);go_simp;try with_reducible rfl)
 simp only [Act.put,List.setIfInBounds_toArray,List.set_cons_zero,List.set_cons_succ];refine wpAnyH_done (by kernel_rfl) ?_ _
 go_wp2_with fail;exact bodyPost_ret (v:=.tuple #[bdV (b.at p F.length cap),effV (ordV v 2 3) (⟨#[]⟩),.bool true]) (zcK results146 _ _ (W.heap.size+1) (W.heap.size+2) _ _ _ _ rfl Y.out.ks.res rfl Y.out.ks.eff rfl) rfl ⟨p,cap,rfl,HO.out,Y.out.ks.below⟩
theorem zAo (b:Bd) (F:List ByteArray) (v:Int) (W:World) (hf:FAt W (.slice b.fp b.fn b.fc) F) (hF:F.length≤8796093022208):Calls Tryz.prog 146 #[bdV b,.int .u64 268443664,.int .i64 8,.int .u64 v] W (Told W (stF b F 268443664 8 v).1 (stF b F 268443664 8 v).2.1 (fun x=>.tuple #[x,effV (stF b F 268443664 8 v).2.2.1 (stF b F 268443664 8 v).2.2.2.1,.bool (stF b F 268443664 8 v).2.2.2.2])):=by
 have hr:stF b F 268443664 8 v=(b,F,(ordV v 4 5),(⟨#[]⟩),true):=rfl;rw [hr];clear hr;have HFR:=hid hf;have HFL:=hid hF;clear hf hF;go_enter func146,ntmps146;go_upto_region 1 with (fail);have X:=hid (KS.new W b);generalize ((W.alloc (bdO b)).alloc zaj).alloc effO=wx at X ⊢;go_upto_region 27 with (first | (go_at_call 198;with_reducible refine (zgP _).tq ?_) | (with_reducible refine zaa rfl rfl (Box.load X.out.own) rfl ?_) | (go_at_call 57;(with_reducible refine (za6 b F _ (HFR.out.next X.out.below) HFL.out).mono ?_);rintro e w2 ⟨p,cap,rfl,ho,k2⟩;have HO:=hid (ho.base X.out.below.size);have X:=hid (X.out.next k2);clear ho k2) | (with_reducible refine zaB X.out.own rfl rfl rfl rfl ?_;intro wy0 hwy;have HO:=hid ((HO.out.put X.out.own hwy).next (zag _ effO));have Y:=hid ((X.out.put hwy).more);clear X hwy) | (go_at_call 200;with_reducible refine ((zkK v 4 5).out _).tq ?_) | (with_reducible refine EBox.w_kind Y.out.e rfl rfl rfl rfl ?_;intro wy hwy;have HO:=hid (HO.out.eput Y.out.e hwy);have Y:=hid (Y.out.set hwy);clear hwy));refine wp_region_held (S:=fun w=>Box w W.heap.size (b.at p F.length cap)∧EBox w wy0.heap.size (ordV v 4 5) (⟨#[]⟩)) (by kernel_rfl) ?_
 have hd:{ wy with drawn:=wy.drawn+1 }=wy.drew:=rfl;rw [hd];clear hd
 replace Y:=hid (Y.out.next (Below.refl _ _).drew)
 replace HO:=hid (HO.out.next (Below.refl _ _).drew)
 generalize wy.drew=wz at Y HO ⊢;have hS:Box wz W.heap.size (b.at p F.length cap)∧EBox wz wy0.heap.size (ordV v 4 5) (⟨#[]⟩):=⟨Y.out.ks.own,Y.out.e⟩;refine wpAnyH_take (i:=0) (oi:=⟨some 70,Op.load 35 (.tmp 4),_,_,_,none⟩) (v:=_) rfl (by kernel_rfl) (by kernel_rfl) (by kernel_rfl) (fun _ _ _ h=>h) (zcj rfl rfl rfl (fun w hw=>hw.1.load)) hS ?_
 simp only [Act.put,List.setIfInBounds_toArray,List.set_cons_zero,List.set_cons_succ];refine wpAnyH_take (i:=1) (oi:=⟨some 71,Op.load 162 (.tmp 11),_,_,_,none⟩) (v:=_) rfl (by kernel_rfl) (by kernel_rfl) (by kernel_rfl) (fun _ _ _ h=>h) (zcj rfl rfl rfl (fun w hw=>hw.2.load)) hS ?_
 simp only [Act.put,List.setIfInBounds_toArray,List.set_cons_zero,List.set_cons_succ];refine zce (i:=2) (o:=⟨none,Op.store 35 (.tmp 8) (.tmp 70),_,_,_,none⟩) (by kernel_rfl) rfl rfl rfl rfl rfl (zaY _ _ _ _ Y.out.ks.res (zaN _)) ⟨Y.out.ks.own.over (by omega) _,Y.out.e.over (by have:=Y.out.far;omega) _⟩ ?_
 simp only [Act.put]
 replace HO:=hid (HO.out.over Y.out.ks.res (bdC (b.at p F.length cap)))
 replace Y:=hid (Y.out.tell (r':=(b.at p F.length cap)) rfl)
 refine zce (i:=3) (o:=⟨none,Op.store 162 (.tmp 9) (.tmp 71),_,_,_,none⟩) (by kernel_rfl) rfl rfl rfl rfl rfl (EBox.store Y.out.ks.eff _ _) ⟨Y.out.ks.own.over (by omega) _,Y.out.e.over (by have:=Y.out.far;omega) _⟩ ?_
 simp only [Act.put]
 replace HO:=hid (HO.out.eput Y.out.ks.eff (cs:=#[.int .i64 ((ordV v 4 5)),.string ((⟨#[]⟩))]) rfl)
 replace Y:=hid (Y.out.give (k':=(ordV v 4 5)) (s':=(⟨#[]⟩)) rfl)
 replace hS:=And.intro Y.out.ks.own Y.out.e
 refine wpAnyH_take (i:=4) (oi:=⟨some 10,Op.assign (.const (.bool true)),_,_,_,none⟩) (v:=?_) rfl (by kernel_rfl) (by kernel_rfl) (by kernel_rfl) (fun _ _ _ h=>h) (Or.inl ⟨by rfl,?_⟩) hS ?_
 rotate_left
 ·(intro w hSw;(try dsimp only at hSw);go_simp;try with_reducible rfl)
 simp only [Act.put,List.setIfInBounds_toArray,List.set_cons_zero,List.set_cons_succ];refine wpAnyH_done (by kernel_rfl) ?_ _
 go_wp2_with fail;exact bodyPost_ret (v:=.tuple #[bdV (b.at p F.length cap),effV (ordV v 4 5) (⟨#[]⟩),.bool true]) (zcK results146 _ _ (W.heap.size+1) (W.heap.size+2) _ _ _ _ rfl Y.out.ks.res rfl Y.out.ks.eff rfl) rfl ⟨p,cap,rfl,HO.out,Y.out.ks.below⟩
theorem znP (b:Bd) (F:List ByteArray) (v:Int) (W:World) (hf:FAt W (.slice b.fp b.fn b.fc) F) (hF:F.length≤8796093022208) (hv:0≤v∧v≤18446744073709551615):Calls Tryz.prog 146 #[bdV b,.int .u64 268435456,.int .i64 1,.int .u64 v] W (Told W (stF b F 268435456 1 v).1 (stF b F 268435456 1 v).2.1 (fun x=>.tuple #[x,effV (stF b F 268435456 1 v).2.2.1 (stF b F 268435456 1 v).2.2.2.1,.bool (stF b F 268435456 1 v).2.2.2.2])):=by
 have hr:stF b F 268435456 1 v=(b,F,(1),(outS v),true):=rfl;rw [hr];clear hr;have HFR:=hid hf;have HFL:=hid hF;clear hf hF;have HB:=hid (zvF v hv.1 hv.2);clear hv;generalize outS v=sv at HB ⊢;go_enter func146,ntmps146;go_upto_region 1 with (fail);have X:=hid (KS.new W b);generalize ((W.alloc (bdO b)).alloc zaj).alloc effO=wx at X ⊢;go_upto_region 27 with (first | (go_at_call 198;with_reducible refine (zfQ _).tq ?_) | (with_reducible refine zaa rfl rfl (Box.load X.out.own) rfl ?_) | (go_at_call 57;(with_reducible refine (za6 b F _ (HFR.out.next X.out.below) HFL.out).mono ?_);rintro e w2 ⟨p,cap,rfl,ho,k2⟩;have HO:=hid (ho.base X.out.below.size);have X:=hid (X.out.next k2);clear ho k2) | (with_reducible refine zaB X.out.own rfl rfl rfl rfl ?_;intro wy0 hwy;have HO:=hid ((HO.out.put X.out.own hwy).next (zag _ effO));have Y:=hid ((X.out.put hwy).more);clear X hwy) | (go_at_call 144;(with_reducible refine (HB.out _).mono ?_);rintro e w3 ⟨rfl,k3⟩;have Y:=hid (Y.out.next k3);have HO:=hid (HO.out.next k3);clear k3) | (with_reducible refine EBox.w_all Y.out.e rfl rfl rfl rfl ?_;intro wy hwy;have HO:=hid (HO.out.eput Y.out.e hwy);have Y:=hid (Y.out.set hwy);clear hwy));refine wp_region_held (S:=fun w=>Box w W.heap.size (b.at p F.length cap)∧EBox w wy0.heap.size (1) sv) (by kernel_rfl) ?_
 have hd:{ wy with drawn:=wy.drawn+1 }=wy.drew:=rfl;rw [hd];clear hd
 replace Y:=hid (Y.out.next (Below.refl _ _).drew)
 replace HO:=hid (HO.out.next (Below.refl _ _).drew)
 generalize wy.drew=wz at Y HO ⊢;have hS:Box wz W.heap.size (b.at p F.length cap)∧EBox wz wy0.heap.size (1) sv:=⟨Y.out.ks.own,Y.out.e⟩;refine wpAnyH_take (i:=0) (oi:=⟨some 70,Op.load 35 (.tmp 4),_,_,_,none⟩) (v:=_) rfl (by kernel_rfl) (by kernel_rfl) (by kernel_rfl) (fun _ _ _ h=>h) (zcj rfl rfl rfl (fun w hw=>hw.1.load)) hS ?_
 simp only [Act.put,List.setIfInBounds_toArray,List.set_cons_zero,List.set_cons_succ];refine wpAnyH_take (i:=1) (oi:=⟨some 71,Op.load 162 (.tmp 11),_,_,_,none⟩) (v:=_) rfl (by kernel_rfl) (by kernel_rfl) (by kernel_rfl) (fun _ _ _ h=>h) (zcj rfl rfl rfl (fun w hw=>hw.2.load)) hS ?_
 simp only [Act.put,List.setIfInBounds_toArray,List.set_cons_zero,List.set_cons_succ];refine zce (i:=2) (o:=⟨none,Op.store 35 (.tmp 8) (.tmp 70),_,_,_,none⟩) (by kernel_rfl) rfl rfl rfl rfl rfl (zaY _ _ _ _ Y.out.ks.res (zaN _)) ⟨Y.out.ks.own.over (by omega) _,Y.out.e.over (by have:=Y.out.far;omega) _⟩ ?_
 simp only [Act.put]
 replace HO:=hid (HO.out.over Y.out.ks.res (bdC (b.at p F.length cap)))
 replace Y:=hid (Y.out.tell (r':=(b.at p F.length cap)) rfl)
 refine zce (i:=3) (o:=⟨none,Op.store 162 (.tmp 9) (.tmp 71),_,_,_,none⟩) (by kernel_rfl) rfl rfl rfl rfl rfl (EBox.store Y.out.ks.eff _ _) ⟨Y.out.ks.own.over (by omega) _,Y.out.e.over (by have:=Y.out.far;omega) _⟩ ?_
 simp only [Act.put]
 replace HO:=hid (HO.out.eput Y.out.ks.eff (cs:=#[.int .i64 ((1)),.string (sv)]) rfl)
 replace Y:=hid (Y.out.give (k':=(1)) (s':=sv) rfl)
 replace hS:=And.intro Y.out.ks.own Y.out.e
 refine wpAnyH_take (i:=4) (oi:=⟨some 10,Op.assign (.const (.bool true)),_,_,_,none⟩) (v:=?_) rfl (by kernel_rfl) (by kernel_rfl) (by kernel_rfl) (fun _ _ _ h=>h) (Or.inl ⟨by rfl,?_⟩) hS ?_
 rotate_left
 ·(intro w hSw;(try dsimp only at hSw);go_simp;try with_reducible rfl)
 simp only [Act.put,List.setIfInBounds_toArray,List.set_cons_zero,List.set_cons_succ];refine wpAnyH_done (by kernel_rfl) ?_ _
 go_wp2_with fail;exact bodyPost_ret (v:=.tuple #[bdV (b.at p F.length cap),effV (1) sv,.bool true]) (zcK results146 _ _ (W.heap.size+1) (W.heap.size+2) _ _ _ _ rfl Y.out.ks.res rfl Y.out.ks.eff rfl) rfl ⟨p,cap,rfl,HO.out,Y.out.ks.below⟩
theorem zcx (b:Bd) (t s u v:Int) (W:World) (c:Hid (∀ W,TW 198 #[.int .u64 t] W (.int .i64 u))) (hs:(s != u)=true):Calls Tryz.prog 146 #[bdV b,.int .u64 t,.int .i64 s,.int .u64 v] W (Told W bdZ [] (fun x=>.tuple #[x,effV 0 ⟨#[]⟩,.bool false])):=by
 go_enter func146,ntmps146;go_upto_region 1 with (fail);have X:=hid (KS.new W b);generalize ((W.alloc (bdO b)).alloc zaj).alloc effO=wx at X ⊢;go_wp2_with (first | (go_at_call 198;with_reducible refine (c.out _).tq ?_) | ((with_reducible show wpList _ _ _ (⟨none,Op.store 35 (.tmp 8) (.tmp 16),_,_,_,_⟩ :: _) _ _);refine zaB (b:=bdZ) X.out.res rfl rfl rfl (by rfl) ?_;intro wy hwy;have X:=hid (X.out.tell hwy);clear hwy) | ((with_reducible show wpList _ _ _ (⟨none,Op.store 162 (.tmp 9) (.tmp 17),_,_,_,_⟩ :: _) _ _);refine EBox.w_all (k':=0) (s':=⟨#[]⟩) X.out.eff rfl rfl rfl (by rfl) ?_;intro wz hwz;have X:=hid (X.out.give hwz);clear hwz));exact bodyPost_ret (v:=.tuple #[bdV bdZ,effV 0 ⟨#[]⟩,.bool false]) (zcK results146 _ _ (W.heap.size+1) (W.heap.size+2) _ _ _ _ rfl X.out.res rfl X.out.eff rfl) rfl (zdW (fun x=>.tuple #[x,effV 0 ⟨#[]⟩,.bool false]) X.out.below)
theorem zo4 (b:Bd) (F:List ByteArray) (v:Int) (W:World) (hf:FAt W (.slice b.fp b.fn b.fc) F) (hF:F.length≤8796093022208):Calls Tryz.prog 146 #[bdV b,.int .u64 33603576,.int .i64 8,.int .u64 v] W (Told W bdZ [] (fun x=>.tuple #[x,effV 0 ⟨#[]⟩,.bool false])):=by
 have HFR:=hid hf;have HFL:=hid hF;clear hf hF;go_enter func146,ntmps146;go_upto_region 1 with (fail);have X:=hid (KS.new W b);generalize ((W.alloc (bdO b)).alloc zaj).alloc effO=wx at X ⊢;go_wp2_with (first | (go_at_call 198;with_reducible refine (zgu _).tq ?_) | (with_reducible refine zaa rfl rfl (Box.load X.out.own) rfl ?_) | (go_at_call 57;(with_reducible refine (za6 b F _ (HFR.out.next X.out.below) HFL.out).mono ?_);rintro e w2 ⟨p,cap,rfl,ho,k2⟩;have HO:=hid (ho.base X.out.below.size);have X:=hid (X.out.next k2);clear ho k2) | (with_reducible refine zaB X.out.own rfl rfl rfl rfl ?_;intro wy0 hwy;have HO:=hid ((HO.out.put X.out.own hwy).next (zag _ effO));have Y:=hid ((X.out.put hwy).more);clear X hwy) | ((with_reducible show wpList _ _ _ (⟨none,Op.store 35 (.tmp 8) (.tmp 21),_,_,_,_⟩ :: _) _ _);refine zaB (b:=bdZ) Y.out.ks.res rfl rfl rfl (by rfl) ?_;intro wy hwy;have Y:=hid (Y.out.tell hwy);clear hwy) | ((with_reducible show wpList _ _ _ (⟨none,Op.store 162 (.tmp 9) (.tmp 22),_,_,_,_⟩ :: _) _ _);refine EBox.w_all (k':=0) (s':=⟨#[]⟩) Y.out.ks.eff rfl rfl rfl (by rfl) ?_;intro wz hwz;have Y:=hid (Y.out.give hwz);clear hwz));exact bodyPost_ret (v:=.tuple #[bdV bdZ,effV 0 ⟨#[]⟩,.bool false]) (zcK results146 _ _ (W.heap.size+1) (W.heap.size+2) _ _ _ _ rfl Y.out.ks.res rfl Y.out.ks.eff rfl) rfl (zdW (fun x=>.tuple #[x,effV 0 ⟨#[]⟩,.bool false]) Y.out.ks.below)
theorem znu (b:Bd) (F:List ByteArray) (v:Int) (W:World) (hf:FAt W (.slice b.fp b.fn b.fc) F) (hF:F.length≤8796093022208):Calls Tryz.prog 146 #[bdV b,.int .u64 268435461,.int .i64 1,.int .u64 v] W (Told W bdZ [] (fun x=>.tuple #[x,effV 0 ⟨#[]⟩,.bool false])):=by
 have HFR:=hid hf;have HFL:=hid hF;clear hf hF;go_enter func146,ntmps146;go_upto_region 1 with (fail);have X:=hid (KS.new W b);generalize ((W.alloc (bdO b)).alloc zaj).alloc effO=wx at X ⊢;go_wp2_with (first | (go_at_call 198;with_reducible refine (zg3 _).tq ?_) | (with_reducible refine zaa rfl rfl (Box.load X.out.own) rfl ?_) | (go_at_call 57;(with_reducible refine (za6 b F _ (HFR.out.next X.out.below) HFL.out).mono ?_);rintro e w2 ⟨p,cap,rfl,ho,k2⟩;have HO:=hid (ho.base X.out.below.size);have X:=hid (X.out.next k2);clear ho k2) | (with_reducible refine zaB X.out.own rfl rfl rfl rfl ?_;intro wy0 hwy;have HO:=hid ((HO.out.put X.out.own hwy).next (zag _ effO));have Y:=hid ((X.out.put hwy).more);clear X hwy) | ((with_reducible show wpList _ _ _ (⟨none,Op.store 35 (.tmp 8) (.tmp 21),_,_,_,_⟩ :: _) _ _);refine zaB (b:=bdZ) Y.out.ks.res rfl rfl rfl (by rfl) ?_;intro wy hwy;have Y:=hid (Y.out.tell hwy);clear hwy) | ((with_reducible show wpList _ _ _ (⟨none,Op.store 162 (.tmp 9) (.tmp 22),_,_,_,_⟩ :: _) _ _);refine EBox.w_all (k':=0) (s':=⟨#[]⟩) Y.out.ks.eff rfl rfl rfl (by rfl) ?_;intro wz hwz;have Y:=hid (Y.out.give hwz);clear hwz));exact bodyPost_ret (v:=.tuple #[bdV bdZ,effV 0 ⟨#[]⟩,.bool false]) (zcK results146 _ _ (W.heap.size+1) (W.heap.size+2) _ _ _ _ rfl Y.out.ks.res rfl Y.out.ks.eff rfl) rfl (zdW (fun x=>.tuple #[x,effV 0 ⟨#[]⟩,.bool false]) Y.out.ks.below)
theorem zsb (b:Bd) (F:List ByteArray) (v:Int) (W:World) (hf:FAt W (.slice b.fp b.fn b.fc) F) (hF:F.length≤8796093022208):Calls Tryz.prog 146 #[bdV b,.int .u64 268439576,.int .i64 8,.int .u64 v] W (Told W bdZ [] (fun x=>.tuple #[x,effV 0 ⟨#[]⟩,.bool false])):=by
 have HFR:=hid hf;have HFL:=hid hF;clear hf hF;go_enter func146,ntmps146;go_upto_region 1 with (fail);have X:=hid (KS.new W b);generalize ((W.alloc (bdO b)).alloc zaj).alloc effO=wx at X ⊢;go_wp2_with (first | (go_at_call 198;with_reducible refine (zg4 _).tq ?_) | (with_reducible refine zaa rfl rfl (Box.load X.out.own) rfl ?_) | (go_at_call 57;(with_reducible refine (za6 b F _ (HFR.out.next X.out.below) HFL.out).mono ?_);rintro e w2 ⟨p,cap,rfl,ho,k2⟩;have HO:=hid (ho.base X.out.below.size);have X:=hid (X.out.next k2);clear ho k2) | (with_reducible refine zaB X.out.own rfl rfl rfl rfl ?_;intro wy0 hwy;have HO:=hid ((HO.out.put X.out.own hwy).next (zag _ effO));have Y:=hid ((X.out.put hwy).more);clear X hwy) | ((with_reducible show wpList _ _ _ (⟨none,Op.store 35 (.tmp 8) (.tmp 21),_,_,_,_⟩ :: _) _ _);refine zaB (b:=bdZ) Y.out.ks.res rfl rfl rfl (by rfl) ?_;intro wy hwy;have Y:=hid (Y.out.tell hwy);clear hwy) | ((with_reducible show wpList _ _ _ (⟨none,Op.store 162 (.tmp 9) (.tmp 22),_,_,_,_⟩ :: _) _ _);refine EBox.w_all (k':=0) (s':=⟨#[]⟩) Y.out.ks.eff rfl rfl rfl (by rfl) ?_;intro wz hwz;have Y:=hid (Y.out.give hwz);clear hwz));exact bodyPost_ret (v:=.tuple #[bdV bdZ,effV 0 ⟨#[]⟩,.bool false]) (zcK results146 _ _ (W.heap.size+1) (W.heap.size+2) _ _ _ _ rfl Y.out.ks.res rfl Y.out.ks.eff rfl) rfl (zdW (fun x=>.tuple #[x,effV 0 ⟨#[]⟩,.bool false]) Y.out.ks.below)
theorem zrw (b:Bd) (F:List ByteArray) (v:Int) (W:World) (hf:FAt W (.slice b.fp b.fn b.fc) F) (hF:F.length≤8796093022208):Calls Tryz.prog 146 #[bdV b,.int .u64 268443648,.int .i64 8,.int .u64 v] W (Told W bdZ [] (fun x=>.tuple #[x,effV 0 ⟨#[]⟩,.bool false])):=by
 have HFR:=hid hf;have HFL:=hid hF;clear hf hF;go_enter func146,ntmps146;go_upto_region 1 with (fail);have X:=hid (KS.new W b);generalize ((W.alloc (bdO b)).alloc zaj).alloc effO=wx at X ⊢;go_wp2_with (first | (go_at_call 198;with_reducible refine (ze9 _).tq ?_) | (with_reducible refine zaa rfl rfl (Box.load X.out.own) rfl ?_) | (go_at_call 57;(with_reducible refine (za6 b F _ (HFR.out.next X.out.below) HFL.out).mono ?_);rintro e w2 ⟨p,cap,rfl,ho,k2⟩;have HO:=hid (ho.base X.out.below.size);have X:=hid (X.out.next k2);clear ho k2) | (with_reducible refine zaB X.out.own rfl rfl rfl rfl ?_;intro wy0 hwy;have HO:=hid ((HO.out.put X.out.own hwy).next (zag _ effO));have Y:=hid ((X.out.put hwy).more);clear X hwy) | ((with_reducible show wpList _ _ _ (⟨none,Op.store 35 (.tmp 8) (.tmp 21),_,_,_,_⟩ :: _) _ _);refine zaB (b:=bdZ) Y.out.ks.res rfl rfl rfl (by rfl) ?_;intro wy hwy;have Y:=hid (Y.out.tell hwy);clear hwy) | ((with_reducible show wpList _ _ _ (⟨none,Op.store 162 (.tmp 9) (.tmp 22),_,_,_,_⟩ :: _) _ _);refine EBox.w_all (k':=0) (s':=⟨#[]⟩) Y.out.ks.eff rfl rfl rfl (by rfl) ?_;intro wz hwz;have Y:=hid (Y.out.give hwz);clear hwz));exact bodyPost_ret (v:=.tuple #[bdV bdZ,effV 0 ⟨#[]⟩,.bool false]) (zcK results146 _ _ (W.heap.size+1) (W.heap.size+2) _ _ _ _ rfl Y.out.ks.res rfl Y.out.ks.eff rfl) rfl (zdW (fun x=>.tuple #[x,effV 0 ⟨#[]⟩,.bool false]) Y.out.ks.below)
theorem zv3 (b:Bd) (F:List ByteArray) (t v:Int) (W:World) (hf:FAt W (.slice b.fp b.fn b.fc) F) (hF:F.length≤8796093022208) (h:zdv t):Calls Tryz.prog 146 #[bdV b,.int .u64 t,.int .i64 0,.int .u64 v] W (Told W bdZ [] (fun x=>.tuple #[x,effV 0 ⟨#[]⟩,.bool false])):=by
 have HFR:=hid hf;have HFL:=hid hF;clear hf hF;have c0:=hid (zhj t h);obtain ⟨h0,h1,h2,h3,h4,h5,h6,h7,h8,h9,h10,h11,h12,h13⟩:=h;go_enter func146,ntmps146;go_upto_region 1 with (fail);have X:=hid (KS.new W b);generalize ((W.alloc (bdO b)).alloc zaj).alloc effO=wx at X ⊢;go_wp2_with (first | (go_at_call 198;with_reducible refine (c0.out _).tq ?_) | (with_reducible refine zaa rfl rfl (Box.load X.out.own) rfl ?_) | (go_at_call 57;(with_reducible refine (za6 b F _ (HFR.out.next X.out.below) HFL.out).mono ?_);rintro e w2 ⟨p,cap,rfl,ho,k2⟩;have HO:=hid (ho.base X.out.below.size);have X:=hid (X.out.next k2);clear ho k2) | (with_reducible refine zaB X.out.own rfl rfl rfl rfl ?_;intro wy0 hwy;have HO:=hid ((HO.out.put X.out.own hwy).next (zag _ effO));have Y:=hid ((X.out.put hwy).more);clear X hwy) | ((with_reducible show wpList _ _ _ (⟨none,Op.store 35 (.tmp 8) (.tmp 21),_,_,_,_⟩ :: _) _ _);refine zaB (b:=bdZ) Y.out.ks.res rfl rfl rfl (by rfl) ?_;intro wy hwy;have Y:=hid (Y.out.tell hwy);clear hwy) | ((with_reducible show wpList _ _ _ (⟨none,Op.store 162 (.tmp 9) (.tmp 22),_,_,_,_⟩ :: _) _ _);refine EBox.w_all (k':=0) (s':=⟨#[]⟩) Y.out.ks.eff rfl rfl rfl (by rfl) ?_;intro wz hwz;have Y:=hid (Y.out.give hwz);clear hwz));exact bodyPost_ret (v:=.tuple #[bdV bdZ,effV 0 ⟨#[]⟩,.bool false]) (zcK results146 _ _ (W.heap.size+1) (W.heap.size+2) _ _ _ _ rfl Y.out.ks.res rfl Y.out.ks.eff rfl) rfl (zdW (fun x=>.tuple #[x,effV 0 ⟨#[]⟩,.bool false]) Y.out.ks.below)
theorem zhM (b:Bd) (F:List ByteArray) (t s v:Int) (W:World) (hf:FAt W (.slice b.fp b.fn b.fc) F) (hF:F.length≤8796093022208) (hv:0≤v∧v≤18446744073709551615):Calls Tryz.prog 146 #[bdV b,.int .u64 t,.int .i64 s,.int .u64 v] W (Told W (stF b F t s v).1 (stF b F t s v).2.1 (fun x=>.tuple #[x,effV (stF b F t s v).2.2.1 (stF b F t s v).2.2.2.1,.bool (stF b F t s v).2.2.2.2])):=by
 by_cases h0:t=33554432
 ·subst h0
  by_cases hs:s=4
  ·subst hs
   exact zva b F v W hf hF
  ·rw [zbO _ _ _ _ _ (by omega)]
   exact zcx b _ s 4 v W (hid zhh) (by rw [bne_iff_ne];exact hs)
 by_cases h1:t=33570816
 ·subst h1
  by_cases hs:s=8
  ·subst hs
   exact zyh b F v W hf hF
  ·rw [zbO _ _ _ _ _ (by omega)]
   exact zcx b _ s 8 v W (hid zgD) (by rw [bne_iff_ne];exact hs)
 by_cases h2:t=33603576
 ·subst h2
  by_cases hs:s=8
  ·subst hs
   rw [zbO _ _ _ _ _ (by omega)];exact zo4 b F v W hf hF
  ·rw [zbO _ _ _ _ _ (by omega)]
   exact zcx b _ s 8 v W (hid zgu) (by rw [bne_iff_ne];exact hs)
 by_cases h3:t=268435456
 ·subst h3
  by_cases hs:s=1
  ·subst hs
   exact znP b F v W hf hF hv
  ·rw [zbO _ _ _ _ _ (by omega)]
   exact zcx b _ s 1 v W (hid zfQ) (by rw [bne_iff_ne];exact hs)
 by_cases h4:t=268435457
 ·subst h4
  by_cases hs:s=1
  ·subst hs
   exact zmU b F v W hf hF
  ·rw [zbO _ _ _ _ _ (by omega)]
   exact zcx b _ s 1 v W (hid zgK) (by rw [bne_iff_ne];exact hs)
 by_cases h5:t=268435461
 ·subst h5
  by_cases hs:s=1
  ·subst hs
   rw [zbO _ _ _ _ _ (by omega)];exact znu b F v W hf hF
  ·rw [zbO _ _ _ _ _ (by omega)]
   exact zcx b _ s 1 v W (hid zg3) (by rw [bne_iff_ne];exact hs)
 by_cases h6:t=268439552
 ·subst h6
  by_cases hs:s=8
  ·subst hs
   exact zuh b F v W hf hF
  ·rw [zbO _ _ _ _ _ (by omega)]
   exact zcx b _ s 8 v W (hid zgW) (by rw [bne_iff_ne];exact hs)
 by_cases h7:t=268439560
 ·subst h7
  by_cases hs:s=8
  ·subst hs
   exact zqd b F v W hf hF
  ·rw [zbO _ _ _ _ _ (by omega)]
   exact zcx b _ s 8 v W (hid zgs) (by rw [bne_iff_ne];exact hs)
 by_cases h8:t=268439568
 ·subst h8
  by_cases hs:s=8
  ·subst hs
   exact znS b F v W hf hF
  ·rw [zbO _ _ _ _ _ (by omega)]
   exact zcx b _ s 8 v W (hid zgA) (by rw [bne_iff_ne];exact hs)
 by_cases h9:t=268439576
 ·subst h9
  by_cases hs:s=8
  ·subst hs
   rw [zbO _ _ _ _ _ (by omega)];exact zsb b F v W hf hF
  ·rw [zbO _ _ _ _ _ (by omega)]
   exact zcx b _ s 8 v W (hid zg4) (by rw [bne_iff_ne];exact hs)
 by_cases h10:t=268443648
 ·subst h10
  by_cases hs:s=8
  ·subst hs
   rw [zbO _ _ _ _ _ (by omega)];exact zrw b F v W hf hF
  ·rw [zbO _ _ _ _ _ (by omega)]
   exact zcx b _ s 8 v W (hid ze9) (by rw [bne_iff_ne];exact hs)
 by_cases h11:t=268443656
 ·subst h11
  by_cases hs:s=8
  ·subst hs
   exact zuZ b F v W hf hF
  ·rw [zbO _ _ _ _ _ (by omega)]
   exact zcx b _ s 8 v W (hid zgI) (by rw [bne_iff_ne];exact hs)
 by_cases h12:t=268443664
 ·subst h12
  by_cases hs:s=8
  ·subst hs
   exact zAo b F v W hf hF
  ·rw [zbO _ _ _ _ _ (by omega)]
   exact zcx b _ s 8 v W (hid zgP) (by rw [bne_iff_ne];exact hs)
 by_cases h13:t=268443672
 ·subst h13
  by_cases hs:s=8
  ·subst hs
   exact zpi b F v W hf hF
  ·rw [zbO _ _ _ _ _ (by omega)]
   exact zcx b _ s 8 v W (hid zgo) (by rw [bne_iff_ne];exact hs)
 have hn:zdv t:=⟨beq_eq_false_iff_ne.2 h0,beq_eq_false_iff_ne.2 h1,beq_eq_false_iff_ne.2 h2,beq_eq_false_iff_ne.2 h3,beq_eq_false_iff_ne.2 h4,beq_eq_false_iff_ne.2 h5,beq_eq_false_iff_ne.2 h6,beq_eq_false_iff_ne.2 h7,beq_eq_false_iff_ne.2 h8,beq_eq_false_iff_ne.2 h9,beq_eq_false_iff_ne.2 h10,beq_eq_false_iff_ne.2 h11,beq_eq_false_iff_ne.2 h12,beq_eq_false_iff_ne.2 h13⟩;rw [zbO _ _ _ _ _ (by omega)]
 by_cases hs:s=0
 ·subst hs
  exact zv3 b F t v W hf hF hn
 ·exact zcx b t s 0 v W (hid (zhj t hn)) (by rw [bne_iff_ne];exact hs)
end Go.Proofs.YtplcfdnfeclpmaaGreatDoor
