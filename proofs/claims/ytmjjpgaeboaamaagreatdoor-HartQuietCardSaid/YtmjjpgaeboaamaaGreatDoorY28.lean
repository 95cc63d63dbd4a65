/- HartQuiet,part 28. -/
import Derived.Test.YtmjjpgaeboaamaaGreatDoorY27
set_option maxHeartbeats 4000000
set_option maxRecDepth 100000
open Go.Lib (hid)
namespace Go.Proofs.YtmjjpgaeboaamaaGreatDoor.Tr
open Go.RowKit Go.Deep Go.Joins
set_option maxRecDepth 100000
theorem zbg {fn:Func} {p u:Tmp} (h:fn.results=#[.cell p 27,.tmp u]) (tmps:Array Value) (w:World) (g:Nat) (k:Hart) (v:Value) (hp:tmps.getD p undef=.pointer (some ⟨g,0,none⟩)) (hg:Box w g k) (hv:tmps.getD u undef=v) :
  (results fn tmps).run Tryz.prog w=.ok (.tuple #[zas k,v]) w:=by
 rw [results_cell_tmp h,hp,hv]
 simp [asAddr,Result.andThen,Box.result hg]
def zdl (h:Hart) (t v:Int):Hart:=(⟨h.x,h.hx,zeP h.c.s10 t,1,⟨bits .andNot .u64 (wV (wV h.c.s0 256 (h.mode==1)) 32 (nzV h.c.s0 2)) 2,h.c.s1,h.c.s2,h.c.s3,h.c.s4,h.c.s5,h.c.s6,h.c.s7,h.c.s8,h.c.s9,h.c.s10,h.c.s11,bits .andNot .u64 h.pc 1,t,v,h.c.s15⟩,h.held,h.rat⟩:Hart)
def zdj (h:Hart) (t v:Int):Hart:=(⟨h.x,h.hx,zeP h.c.s5 t,3,⟨bits .andNot .u64 (wV (bits .or .u64 (bits .andNot .u64 h.c.s0 6144) (bits .and .u64 (IntKind.u64.wrap (IntKind.u64.wrap h.mode*2048)) 6144)) 128 (nzV h.c.s0 8)) 8,h.c.s1,h.c.s2,h.c.s3,h.c.s4,h.c.s5,h.c.s6,bits .andNot .u64 h.pc 1,t,v,h.c.s10,h.c.s11,h.c.s12,h.c.s13,h.c.s14,h.c.s15⟩,h.held,h.rat⟩:Hart)
theorem zhE (h:Hart) (t v:Int) (W:World):TB 104 #[zas h,.int .u64 t,.int .u64 v] W (zas (zdl h t v)):=by
 obtain ⟨x,hx,pc,mode,⟨s0,s1,s2,s3,s4,s5,s6,s7,s8,s9,s10,s11,s12,s13,s14,s15⟩,held,rat⟩:=h
 go_enter Tryz.func104,Tryz.ntmps104
 go_upto_region 1 with (fail)
 have hst:(W.alloc (zbD (⟨x,hx,pc,mode,⟨s0,s1,s2,s3,s4,s5,s6,s7,s8,s9,s10,s11,s12,s13,s14,s15⟩,held,rat⟩:Hart))).alloc zak=St 0 W (⟨x,hx,pc,mode,⟨s0,s1,s2,s3,s4,s5,s6,s7,s8,s9,s10,s11,s12,s13,s14,s15⟩,held,rat⟩:Hart) zeroC:=rfl
 rw [hst]
 clear hst
 go_wp2_with (first | (with_reducible first | refine zaa rfl rfl St.load_s0 rfl ?_ | refine zaa rfl rfl St.load_pc rfl ?_ | refine zaa rfl rfl St.load_mode rfl ?_ | refine zaa rfl rfl St.load_s10 rfl ?_ | refine zam rfl rfl St.store_s12 rfl rfl ?_ | refine zam rfl rfl St.store_s13 rfl rfl ?_ | refine zam rfl rfl St.store_s14 rfl rfl ?_ | refine zam rfl rfl St.store_s0 rfl rfl ?_ | refine zam rfl rfl St.store_mode rfl rfl ?_ | refine zam rfl rfl St.store_pc rfl rfl ?_ | refine zaa rfl rfl (St.load _ _ _ _) rfl ?_ | refine zam rfl rfl (St.store _ _ _ _) rfl rfl ?_) | ((first | (go_at_call 137;with_reducible refine (zeB _ _ _ _).mono ?_) | (go_at_call 138;with_reducible refine (zhS _ _ _).mono ?_));rintro e w' ⟨rfl,rfl⟩) | fail)
 exact bodyPost_ret (v:=zas (zdl (⟨x,hx,pc,mode,⟨s0,s1,s2,s3,s4,s5,s6,s7,s8,s9,s10,s11,s12,s13,s14,s15⟩,held,rat⟩:Hart) t v)) (results_cell_row Tryz.results104 _ _ (W.heap.size+1) 27 (zar (zdl (⟨x,hx,pc,mode,⟨s0,s1,s2,s3,s4,s5,s6,s7,s8,s9,s10,s11,s12,s13,s14,s15⟩,held,rat⟩:Hart) t v)) (0,0) _ rfl (St.res _ W _ _) Tryz.underlying27 rfl (by rw [zcH,zch])) rfl ⟨rfl,St.below _ W _ _⟩
theorem zi8 (h:Hart) (t v:Int) (W:World):TB 105 #[zas h,.int .u64 t,.int .u64 v] W (zas (zdj h t v)):=by
 obtain ⟨x,hx,pc,mode,⟨s0,s1,s2,s3,s4,s5,s6,s7,s8,s9,s10,s11,s12,s13,s14,s15⟩,held,rat⟩:=h
 go_enter Tryz.func105,Tryz.ntmps105
 go_upto_region 1 with (fail)
 have hst:(W.alloc (zbD (⟨x,hx,pc,mode,⟨s0,s1,s2,s3,s4,s5,s6,s7,s8,s9,s10,s11,s12,s13,s14,s15⟩,held,rat⟩:Hart))).alloc zak=St 0 W (⟨x,hx,pc,mode,⟨s0,s1,s2,s3,s4,s5,s6,s7,s8,s9,s10,s11,s12,s13,s14,s15⟩,held,rat⟩:Hart) zeroC:=rfl
 rw [hst]
 clear hst
 go_wp2_with (first | (with_reducible first | refine zaa rfl rfl St.load_s0 rfl ?_ | refine zaa rfl rfl St.load_pc rfl ?_ | refine zaa rfl rfl St.load_mode rfl ?_ | refine zaa rfl rfl St.load_s5 rfl ?_ | refine zam rfl rfl St.store_s7 rfl rfl ?_ | refine zam rfl rfl St.store_s8 rfl rfl ?_ | refine zam rfl rfl St.store_s9 rfl rfl ?_ | refine zam rfl rfl St.store_s0 rfl rfl ?_ | refine zam rfl rfl St.store_mode rfl rfl ?_ | refine zam rfl rfl St.store_pc rfl rfl ?_ | refine zaa rfl rfl (St.load _ _ _ _) rfl ?_ | refine zam rfl rfl (St.store _ _ _ _) rfl rfl ?_) | ((first | (go_at_call 137;with_reducible refine (zeB _ _ _ _).mono ?_) | (go_at_call 138;with_reducible refine (zhS _ _ _).mono ?_));rintro e w' ⟨rfl,rfl⟩) | fail)
 exact bodyPost_ret (v:=zas (zdj (⟨x,hx,pc,mode,⟨s0,s1,s2,s3,s4,s5,s6,s7,s8,s9,s10,s11,s12,s13,s14,s15⟩,held,rat⟩:Hart) t v)) (results_cell_row Tryz.results105 _ _ (W.heap.size+1) 27 (zar (zdj (⟨x,hx,pc,mode,⟨s0,s1,s2,s3,s4,s5,s6,s7,s8,s9,s10,s11,s12,s13,s14,s15⟩,held,rat⟩:Hart) t v)) (0,0) _ rfl (St.res _ W _ _) Tryz.underlying27 rfl (by rw [zcH,zch])) rfl ⟨rfl,St.below _ W _ _⟩
end Go.Proofs.YtmjjpgaeboaamaaGreatDoor.Tr
namespace Go.Proofs.YtmjjpgaeboaamaaGreatDoor.Tr
open Go.RowKit Go.Deep Go.Joins
set_option maxRecDepth 100000
theorem zd4 {w w':World} {b:Nat} {o:Obj} (k:Below w.heap.size w w') (h:w.heap[b]?=some o):w'.heap[b]?=some o:=(k.block b (Array.getElem?_eq_some_iff.1 h).1).trans h
def zcK (h:Hart):Hart:=(⟨h.x,h.hx,h.pc,h.mode,⟨h.c.s0,h.c.s1,h.c.s2,h.c.s3,h.c.s4,h.c.s5,h.c.s6,h.c.s7,h.c.s8,h.c.s9,h.c.s10,h.c.s11,h.c.s12,h.c.s13,h.c.s14,h.c.s15⟩,false,0⟩:Hart)
def zcs (k:Int) (it:Bool):Int:=if it=true then bits .or .u64 k 9223372036854775808 else k
def zdX (h:Hart) (k:Nat) (it:Bool) (v:Int):Hart:=if zd0 h k it=true then zdl (zcK h) (zcs k it) v else zdj (zcK h) (zcs k it) v
theorem zuj (h:Hart) (c:Int) (it:Bool) (v:Int) (hc:c<0∨63<c) (W:World):TB 73 #[zas h,.int .i64 c,.bool it,.int .u64 v] W (zas h):=by
 obtain ⟨x,hx,pc,mode,⟨s0,s1,s2,s3,s4,s5,s6,s7,s8,s9,s10,s11,s12,s13,s14,s15⟩,held,rat⟩:=h
 rcases hc with hc | hc
 all_goals
  go_enter Tryz.func73,Tryz.ntmps73
  go_upto_region 1 with (fail)
  have hst:(W.alloc (zbD (⟨x,hx,pc,mode,⟨s0,s1,s2,s3,s4,s5,s6,s7,s8,s9,s10,s11,s12,s13,s14,s15⟩,held,rat⟩:Hart))).alloc zak=St 0 W (⟨x,hx,pc,mode,⟨s0,s1,s2,s3,s4,s5,s6,s7,s8,s9,s10,s11,s12,s13,s14,s15⟩,held,rat⟩:Hart) zeroC:=rfl
  rw [hst]
  clear hst
  go_wp2_with (first | (with_reducible first | refine zaa rfl rfl (St.load _ _ _ _) rfl ?_ | refine zam rfl rfl (St.store _ _ _ _) rfl rfl ?_) | fail)
  exact bodyPost_ret (v:=zas ((⟨x,hx,pc,mode,⟨s0,s1,s2,s3,s4,s5,s6,s7,s8,s9,s10,s11,s12,s13,s14,s15⟩,held,rat⟩:Hart))) (results_cell_row Tryz.results73 _ _ (W.heap.size+1) 27 (zar ((⟨x,hx,pc,mode,⟨s0,s1,s2,s3,s4,s5,s6,s7,s8,s9,s10,s11,s12,s13,s14,s15⟩,held,rat⟩:Hart))) (0,0) _ rfl (St.res _ W _ _) Tryz.underlying27 rfl (by rw [zcH,zch])) rfl ⟨rfl,St.below _ W _ _⟩
theorem znK (h:Hart) (k:Nat) (v:Int) (hk:k≤63) (hb:zd0 h k true=true) (W:World):TB 73 #[zas h,.int .i64 k,.bool true,.int .u64 v] W (zas (zdl (zcK h) (zcs k true) v)):=by
 obtain ⟨x,hx,pc,mode,⟨s0,s1,s2,s3,s4,s5,s6,s7,s8,s9,s10,s11,s12,s13,s14,s15⟩,held,rat⟩:=h
 have hw:IntKind.u64.wrap (k:Int)=k:=by rw [IntKind.wrap_u64];omega
 have c23:=hid (zgo (⟨x,hx,pc,mode,⟨s0,s1,s2,s3,s4,s5,s6,s7,s8,s9,s10,s11,s12,s13,s14,s15⟩,false,0⟩:Hart) k true true hk hb)
 clear hb
 go_enter Tryz.func73,Tryz.ntmps73
 go_upto_region 1 with (fail)
 have hst:(W.alloc (zbD (⟨x,hx,pc,mode,⟨s0,s1,s2,s3,s4,s5,s6,s7,s8,s9,s10,s11,s12,s13,s14,s15⟩,held,rat⟩:Hart))).alloc zak=St 0 W (⟨x,hx,pc,mode,⟨s0,s1,s2,s3,s4,s5,s6,s7,s8,s9,s10,s11,s12,s13,s14,s15⟩,held,rat⟩:Hart) zeroC:=rfl
 rw [hst]
 clear hst
 go_wp2_with (first | (with_reducible first | refine zaa rfl rfl (Box.load ((St.box _ W _ _).next k1)) rfl ?_ | refine zam rfl rfl (zaT _ _ zeroC _ r2 rfl) rfl rfl ?_ | refine zam rfl rfl St.store_held rfl rfl ?_ | refine zam rfl rfl St.store_rat rfl rfl ?_ | refine zaa rfl rfl (St.load _ _ _ _) rfl ?_ | refine zam rfl rfl (St.store _ _ _ _) rfl rfl ?_) | (go_at_call 103;(with_reducible refine (c23.out _).mono ?_);rintro e w1 ⟨rfl,k1⟩) | (go_at_call 104;(with_reducible refine (zhE _ _ _ _).mono ?_);rintro e w2 ⟨rfl,k2⟩;have r2:=zd4 k2 (zd4 k1 (St.res _ W _ _))) | fail)
 exact bodyPost_ret (v:=zas (zdl (zcK (⟨x,hx,pc,mode,⟨s0,s1,s2,s3,s4,s5,s6,s7,s8,s9,s10,s11,s12,s13,s14,s15⟩,held,rat⟩:Hart)) (zcs k true) v)) (results_cell_row Tryz.results73 _ _ (W.heap.size+1) 27 (zar (zdl (zcK (⟨x,hx,pc,mode,⟨s0,s1,s2,s3,s4,s5,s6,s7,s8,s9,s10,s11,s12,s13,s14,s15⟩,held,rat⟩:Hart)) (zcs k true) v)) (0,0) _ rfl (Box.mine r2 _) Tryz.underlying27 rfl (by rw [zcH,zch])) rfl ⟨rfl,below_setRow (zad (zad (St.below _ W _ _) (Nat.le_refl _) k1) (Nat.le_refl _) k2) (by omega) _⟩
theorem zoy (h:Hart) (k:Nat) (v:Int) (hk:k≤63) (hb:zd0 h k false=true) (W:World):TB 73 #[zas h,.int .i64 k,.bool false,.int .u64 v] W (zas (zdl (zcK h) (zcs k false) v)):=by
 obtain ⟨x,hx,pc,mode,⟨s0,s1,s2,s3,s4,s5,s6,s7,s8,s9,s10,s11,s12,s13,s14,s15⟩,held,rat⟩:=h
 have hw:IntKind.u64.wrap (k:Int)=k:=by rw [IntKind.wrap_u64];omega
 have c23:=hid (zgo (⟨x,hx,pc,mode,⟨s0,s1,s2,s3,s4,s5,s6,s7,s8,s9,s10,s11,s12,s13,s14,s15⟩,false,0⟩:Hart) k false true hk hb)
 clear hb
 go_enter Tryz.func73,Tryz.ntmps73
 go_upto_region 1 with (fail)
 have hst:(W.alloc (zbD (⟨x,hx,pc,mode,⟨s0,s1,s2,s3,s4,s5,s6,s7,s8,s9,s10,s11,s12,s13,s14,s15⟩,held,rat⟩:Hart))).alloc zak=St 0 W (⟨x,hx,pc,mode,⟨s0,s1,s2,s3,s4,s5,s6,s7,s8,s9,s10,s11,s12,s13,s14,s15⟩,held,rat⟩:Hart) zeroC:=rfl
 rw [hst]
 clear hst
 go_wp2_with (first | (with_reducible first | refine zaa rfl rfl (Box.load ((St.box _ W _ _).next k1)) rfl ?_ | refine zam rfl rfl (zaT _ _ zeroC _ r2 rfl) rfl rfl ?_ | refine zam rfl rfl St.store_held rfl rfl ?_ | refine zam rfl rfl St.store_rat rfl rfl ?_ | refine zaa rfl rfl (St.load _ _ _ _) rfl ?_ | refine zam rfl rfl (St.store _ _ _ _) rfl rfl ?_) | (go_at_call 103;(with_reducible refine (c23.out _).mono ?_);rintro e w1 ⟨rfl,k1⟩) | (go_at_call 104;(with_reducible refine (zhE _ _ _ _).mono ?_);rintro e w2 ⟨rfl,k2⟩;have r2:=zd4 k2 (zd4 k1 (St.res _ W _ _))) | fail)
 exact bodyPost_ret (v:=zas (zdl (zcK (⟨x,hx,pc,mode,⟨s0,s1,s2,s3,s4,s5,s6,s7,s8,s9,s10,s11,s12,s13,s14,s15⟩,held,rat⟩:Hart)) (zcs k false) v)) (results_cell_row Tryz.results73 _ _ (W.heap.size+1) 27 (zar (zdl (zcK (⟨x,hx,pc,mode,⟨s0,s1,s2,s3,s4,s5,s6,s7,s8,s9,s10,s11,s12,s13,s14,s15⟩,held,rat⟩:Hart)) (zcs k false) v)) (0,0) _ rfl (Box.mine r2 _) Tryz.underlying27 rfl (by rw [zcH,zch])) rfl ⟨rfl,below_setRow (zad (zad (St.below _ W _ _) (Nat.le_refl _) k1) (Nat.le_refl _) k2) (by omega) _⟩
theorem znp (h:Hart) (k:Nat) (v:Int) (hk:k≤63) (hb:zd0 h k true=false) (W:World):TB 73 #[zas h,.int .i64 k,.bool true,.int .u64 v] W (zas (zdj (zcK h) (zcs k true) v)):=by
 obtain ⟨x,hx,pc,mode,⟨s0,s1,s2,s3,s4,s5,s6,s7,s8,s9,s10,s11,s12,s13,s14,s15⟩,held,rat⟩:=h
 have hw:IntKind.u64.wrap (k:Int)=k:=by rw [IntKind.wrap_u64];omega
 have c23:=hid (zgo (⟨x,hx,pc,mode,⟨s0,s1,s2,s3,s4,s5,s6,s7,s8,s9,s10,s11,s12,s13,s14,s15⟩,false,0⟩:Hart) k true false hk hb)
 clear hb
 go_enter Tryz.func73,Tryz.ntmps73
 go_upto_region 1 with (fail)
 have hst:(W.alloc (zbD (⟨x,hx,pc,mode,⟨s0,s1,s2,s3,s4,s5,s6,s7,s8,s9,s10,s11,s12,s13,s14,s15⟩,held,rat⟩:Hart))).alloc zak=St 0 W (⟨x,hx,pc,mode,⟨s0,s1,s2,s3,s4,s5,s6,s7,s8,s9,s10,s11,s12,s13,s14,s15⟩,held,rat⟩:Hart) zeroC:=rfl
 rw [hst]
 clear hst
 go_wp2_with (first | (with_reducible first | refine zaa rfl rfl (Box.load ((St.box _ W _ _).next k1)) rfl ?_ | refine zam rfl rfl (zaT _ _ zeroC _ r2 rfl) rfl rfl ?_ | refine zam rfl rfl St.store_held rfl rfl ?_ | refine zam rfl rfl St.store_rat rfl rfl ?_ | refine zaa rfl rfl (St.load _ _ _ _) rfl ?_ | refine zam rfl rfl (St.store _ _ _ _) rfl rfl ?_) | (go_at_call 103;(with_reducible refine (c23.out _).mono ?_);rintro e w1 ⟨rfl,k1⟩) | (go_at_call 105;(with_reducible refine (zi8 _ _ _ _).mono ?_);rintro e w2 ⟨rfl,k2⟩;have r2:=zd4 k2 (zd4 k1 (St.res _ W _ _))) | fail)
 exact bodyPost_ret (v:=zas (zdj (zcK (⟨x,hx,pc,mode,⟨s0,s1,s2,s3,s4,s5,s6,s7,s8,s9,s10,s11,s12,s13,s14,s15⟩,held,rat⟩:Hart)) (zcs k true) v)) (results_cell_row Tryz.results73 _ _ (W.heap.size+1) 27 (zar (zdj (zcK (⟨x,hx,pc,mode,⟨s0,s1,s2,s3,s4,s5,s6,s7,s8,s9,s10,s11,s12,s13,s14,s15⟩,held,rat⟩:Hart)) (zcs k true) v)) (0,0) _ rfl (Box.mine r2 _) Tryz.underlying27 rfl (by rw [zcH,zch])) rfl ⟨rfl,below_setRow (zad (zad (St.below _ W _ _) (Nat.le_refl _) k1) (Nat.le_refl _) k2) (by omega) _⟩
theorem zq3 (h:Hart) (k:Nat) (v:Int) (hk:k≤63) (hb:zd0 h k false=false) (W:World):TB 73 #[zas h,.int .i64 k,.bool false,.int .u64 v] W (zas (zdj (zcK h) (zcs k false) v)):=by
 obtain ⟨x,hx,pc,mode,⟨s0,s1,s2,s3,s4,s5,s6,s7,s8,s9,s10,s11,s12,s13,s14,s15⟩,held,rat⟩:=h
 have hw:IntKind.u64.wrap (k:Int)=k:=by rw [IntKind.wrap_u64];omega
 have c23:=hid (zgo (⟨x,hx,pc,mode,⟨s0,s1,s2,s3,s4,s5,s6,s7,s8,s9,s10,s11,s12,s13,s14,s15⟩,false,0⟩:Hart) k false false hk hb)
 clear hb
 go_enter Tryz.func73,Tryz.ntmps73
 go_upto_region 1 with (fail)
 have hst:(W.alloc (zbD (⟨x,hx,pc,mode,⟨s0,s1,s2,s3,s4,s5,s6,s7,s8,s9,s10,s11,s12,s13,s14,s15⟩,held,rat⟩:Hart))).alloc zak=St 0 W (⟨x,hx,pc,mode,⟨s0,s1,s2,s3,s4,s5,s6,s7,s8,s9,s10,s11,s12,s13,s14,s15⟩,held,rat⟩:Hart) zeroC:=rfl
 rw [hst]
 clear hst
 go_wp2_with (first | (with_reducible first | refine zaa rfl rfl (Box.load ((St.box _ W _ _).next k1)) rfl ?_ | refine zam rfl rfl (zaT _ _ zeroC _ r2 rfl) rfl rfl ?_ | refine zam rfl rfl St.store_held rfl rfl ?_ | refine zam rfl rfl St.store_rat rfl rfl ?_ | refine zaa rfl rfl (St.load _ _ _ _) rfl ?_ | refine zam rfl rfl (St.store _ _ _ _) rfl rfl ?_) | (go_at_call 103;(with_reducible refine (c23.out _).mono ?_);rintro e w1 ⟨rfl,k1⟩) | (go_at_call 105;(with_reducible refine (zi8 _ _ _ _).mono ?_);rintro e w2 ⟨rfl,k2⟩;have r2:=zd4 k2 (zd4 k1 (St.res _ W _ _))) | fail)
 exact bodyPost_ret (v:=zas (zdj (zcK (⟨x,hx,pc,mode,⟨s0,s1,s2,s3,s4,s5,s6,s7,s8,s9,s10,s11,s12,s13,s14,s15⟩,held,rat⟩:Hart)) (zcs k false) v)) (results_cell_row Tryz.results73 _ _ (W.heap.size+1) 27 (zar (zdj (zcK (⟨x,hx,pc,mode,⟨s0,s1,s2,s3,s4,s5,s6,s7,s8,s9,s10,s11,s12,s13,s14,s15⟩,held,rat⟩:Hart)) (zcs k false) v)) (0,0) _ rfl (Box.mine r2 _) Tryz.underlying27 rfl (by rw [zcH,zch])) rfl ⟨rfl,below_setRow (zad (zad (St.below _ W _ _) (Nat.le_refl _) k1) (Nat.le_refl _) k2) (by omega) _⟩
theorem zhk (h:Hart) (k:Nat) (it:Bool) (v:Int) (hk:k≤63) (W:World):TB 73 #[zas h,.int .i64 k,.bool it,.int .u64 v] W (zas (zdX h k it v)):=by
 unfold zdX
 rcases Bool.eq_false_or_eq_true (zd0 h k it) with hb | hb
 all_goals cases it
 ·rw [if_pos hb];exact zoy h k v hk hb W
 ·rw [if_pos hb];exact znK h k v hk hb W
 ·rw [if_neg (by rw [hb];decide)];exact zq3 h k v hk hb W
 ·rw [if_neg (by rw [hb];decide)];exact znp h k v hk hb W
end Go.Proofs.YtmjjpgaeboaamaaGreatDoor.Tr
namespace Go.Proofs.YtmjjpgaeboaamaaGreatDoor.Tr
open Go.RowKit Go.Deep Go.Joins
set_option maxRecDepth 100000
theorem zo2 (x:Int) (m:Nat) (hm:m<18446744073709551616):bits .and .u64 x m≤m:=by
 show IntKind.u64.wrap (((BitVec.ofInt 64 x &&& BitVec.ofInt 64 (m:Int)).toNat:Nat):Int)≤m
 have h:(BitVec.ofInt 64 x &&& BitVec.ofInt 64 (m:Int)).toNat≤m:=by
  rw [BitVec.toNat_and,BitVec.ofInt_natCast,BitVec.toNat_ofNat,Nat.mod_eq_of_lt (by omega)]
  exact Nat.and_le_right
 rw [IntKind.wrap_u64]
 omega
theorem ziz (x:Int):∃ q:Int,bits .and .u64 x 6144 / 2048=q∧0≤q∧q≤3:=by
 refine ⟨_,rfl,?_,?_⟩
 ·have:=bits_lo_u64 .and x 6144
  omega
 ·have h:bits .and .u64 x 6144≤6144:=zo2 x 6144 (by omega)
  omega
def mppV (x:Int):Int:=bits .and .u64 x 6144 / 2048
def zd8 (s:Int) (q:Int):Int:=if (q != 3)=true then bits .andNot .u64 (bits .andNot .u64 (bits .or .u64 (wV s 8 (nzV s 128)) 128) 6144) 131072 else bits .andNot .u64 (bits .or .u64 (wV s 8 (nzV s 128)) 128) 6144
def ze2 (s:Int):Int:=bits .andNot .u64 (bits .or .u64 (wV s 2 (nzV s 32)) 32) 131328
def zdZ (h:Hart):Hart:=(⟨h.x,h.hx,h.c.s7,mppV h.c.s0,⟨zd8 h.c.s0 (mppV h.c.s0),h.c.s1,h.c.s2,h.c.s3,h.c.s4,h.c.s5,h.c.s6,h.c.s7,h.c.s8,h.c.s9,h.c.s10,h.c.s11,h.c.s12,h.c.s13,h.c.s14,h.c.s15⟩,h.held,h.rat⟩:Hart)
def zd1 (h:Hart):Hart:=(⟨h.x,h.hx,h.c.s12,if nzV h.c.s0 256=true then 1 else 0,⟨ze2 h.c.s0,h.c.s1,h.c.s2,h.c.s3,h.c.s4,h.c.s5,h.c.s6,h.c.s7,h.c.s8,h.c.s9,h.c.s10,h.c.s11,h.c.s12,h.c.s13,h.c.s14,h.c.s15⟩,h.held,h.rat⟩:Hart)
theorem ztp (h:Hart) (hm:(h.mode != 3)=true) (W:World):TB 121 #[zas h] W (.tuple #[zas h,.bool false]):=by
 obtain ⟨x,hx,pc,mode,⟨s0,s1,s2,s3,s4,s5,s6,s7,s8,s9,s10,s11,s12,s13,s14,s15⟩,held,rat⟩:=h
 go_enter Tryz.func121,Tryz.ntmps121
 go_upto_region 1 with (fail)
 have hst:(W.alloc (zbD (⟨x,hx,pc,mode,⟨s0,s1,s2,s3,s4,s5,s6,s7,s8,s9,s10,s11,s12,s13,s14,s15⟩,held,rat⟩:Hart))).alloc zak=St 0 W (⟨x,hx,pc,mode,⟨s0,s1,s2,s3,s4,s5,s6,s7,s8,s9,s10,s11,s12,s13,s14,s15⟩,held,rat⟩:Hart) zeroC:=rfl
 rw [hst]
 clear hst
 go_wp2_with (first | (with_reducible first | refine zaa rfl rfl St.load_mode rfl ?_ | refine zaa rfl rfl (St.load _ _ _ _) rfl ?_ | refine zam rfl rfl (St.store _ _ _ _) rfl rfl ?_) | fail)
 exact bodyPost_ret (v:=.tuple #[zas ((⟨x,hx,pc,mode,⟨s0,s1,s2,s3,s4,s5,s6,s7,s8,s9,s10,s11,s12,s13,s14,s15⟩,held,rat⟩:Hart)),.bool false]) (zbg Tryz.results121 _ _ (W.heap.size+1) _ _ rfl (St.res _ W _ _) rfl) rfl ⟨rfl,St.below _ W _ _⟩
theorem zr1 (h:Hart) (hm:(h.mode != 3)=false) (hq:(mppV h.c.s0 != 3)=true) (W:World):TB 121 #[zas h] W (.tuple #[zas (zdZ h),.bool true]):=by
 obtain ⟨x,hx,pc,mode,⟨s0,s1,s2,s3,s4,s5,s6,s7,s8,s9,s10,s11,s12,s13,s14,s15⟩,held,rat⟩:=h
 obtain ⟨q,he,h0,h3⟩:=ziz s0
 have HQ:Hid (mppV s0=q):=hid he
 have hw:IntKind.i64.wrap q=q:=IntWalk.i64_in _ (by omega)
 have hq2:(q != 3)=true:=by rw [← hq];exact congrArg (fun z=>z != 3) he.symm
 clear hq
 have HQ2:=hid hq2
 go_enter Tryz.func121,Tryz.ntmps121
 go_upto_region 1 with (fail)
 have hst:(W.alloc (zbD (⟨x,hx,pc,mode,⟨s0,s1,s2,s3,s4,s5,s6,s7,s8,s9,s10,s11,s12,s13,s14,s15⟩,held,rat⟩:Hart))).alloc zak=St 0 W (⟨x,hx,pc,mode,⟨s0,s1,s2,s3,s4,s5,s6,s7,s8,s9,s10,s11,s12,s13,s14,s15⟩,held,rat⟩:Hart) zeroC:=rfl
 rw [hst]
 clear hst
 go_wp2_with (first | (with_reducible first | refine zaa rfl rfl St.load_mode rfl ?_ | refine zaa rfl rfl St.load_s0 rfl ?_ | refine zaa rfl rfl St.load_s7 rfl ?_ | refine zam rfl rfl St.store_mode rfl rfl ?_ | refine zam rfl rfl St.store_s0 rfl rfl ?_ | refine zam rfl rfl St.store_pc rfl rfl ?_ | refine zaa rfl rfl (St.load _ _ _ _) rfl ?_ | refine zam rfl rfl (St.store _ _ _ _) rfl rfl ?_) | (go_at_call 137;(with_reducible refine (zeB _ _ _ _).mono ?_);rintro e w' ⟨rfl,rfl⟩) | fail)
 have hE:zdZ (⟨x,hx,pc,mode,⟨s0,s1,s2,s3,s4,s5,s6,s7,s8,s9,s10,s11,s12,s13,s14,s15⟩,held,rat⟩:Hart)=(⟨x,hx,s7,q,⟨zd8 s0 q,s1,s2,s3,s4,s5,s6,s7,s8,s9,s10,s11,s12,s13,s14,s15⟩,held,rat⟩:Hart):=by
  unfold zdZ
  rw [show mppV (⟨x,hx,pc,mode,⟨s0,s1,s2,s3,s4,s5,s6,s7,s8,s9,s10,s11,s12,s13,s14,s15⟩,held,rat⟩:Hart).c.s0=q from HQ.out]
 have hS:zd8 s0 q=bits .andNot .u64 (bits .andNot .u64 (bits .or .u64 (wV s0 8 (nzV s0 128)) 128) 6144) 131072:=if_pos HQ2.out
 rw [hE,hS]
 exact bodyPost_ret (v:=.tuple #[zas ((⟨x,hx,s7,q,⟨bits .andNot .u64 (bits .andNot .u64 (bits .or .u64 (wV s0 8 (nzV s0 128)) 128) 6144) 131072,s1,s2,s3,s4,s5,s6,s7,s8,s9,s10,s11,s12,s13,s14,s15⟩,held,rat⟩:Hart)),.bool true]) (zbg Tryz.results121 _ _ (W.heap.size+1) _ _ rfl (St.res _ W _ _) rfl) rfl ⟨rfl,St.below _ W _ _⟩
theorem znt (h:Hart) (hm:(h.mode != 3)=false) (hq:(mppV h.c.s0 != 3)=false) (W:World):TB 121 #[zas h] W (.tuple #[zas (zdZ h),.bool true]):=by
 obtain ⟨x,hx,pc,mode,⟨s0,s1,s2,s3,s4,s5,s6,s7,s8,s9,s10,s11,s12,s13,s14,s15⟩,held,rat⟩:=h
 obtain ⟨q,he,h0,h3⟩:=ziz s0
 have HQ:Hid (mppV s0=q):=hid he
 have hw:IntKind.i64.wrap q=q:=IntWalk.i64_in _ (by omega)
 have hq2:(q != 3)=false:=by rw [← hq];exact congrArg (fun z=>z != 3) he.symm
 clear hq
 have HQ2:=hid hq2
 go_enter Tryz.func121,Tryz.ntmps121
 go_upto_region 1 with (fail)
 have hst:(W.alloc (zbD (⟨x,hx,pc,mode,⟨s0,s1,s2,s3,s4,s5,s6,s7,s8,s9,s10,s11,s12,s13,s14,s15⟩,held,rat⟩:Hart))).alloc zak=St 0 W (⟨x,hx,pc,mode,⟨s0,s1,s2,s3,s4,s5,s6,s7,s8,s9,s10,s11,s12,s13,s14,s15⟩,held,rat⟩:Hart) zeroC:=rfl
 rw [hst]
 clear hst
 go_wp2_with (first | (with_reducible first | refine zaa rfl rfl St.load_mode rfl ?_ | refine zaa rfl rfl St.load_s0 rfl ?_ | refine zaa rfl rfl St.load_s7 rfl ?_ | refine zam rfl rfl St.store_mode rfl rfl ?_ | refine zam rfl rfl St.store_s0 rfl rfl ?_ | refine zam rfl rfl St.store_pc rfl rfl ?_ | refine zaa rfl rfl (St.load _ _ _ _) rfl ?_ | refine zam rfl rfl (St.store _ _ _ _) rfl rfl ?_) | (go_at_call 137;(with_reducible refine (zeB _ _ _ _).mono ?_);rintro e w' ⟨rfl,rfl⟩) | fail)
 have hE:zdZ (⟨x,hx,pc,mode,⟨s0,s1,s2,s3,s4,s5,s6,s7,s8,s9,s10,s11,s12,s13,s14,s15⟩,held,rat⟩:Hart)=(⟨x,hx,s7,q,⟨zd8 s0 q,s1,s2,s3,s4,s5,s6,s7,s8,s9,s10,s11,s12,s13,s14,s15⟩,held,rat⟩:Hart):=by
  unfold zdZ
  rw [show mppV (⟨x,hx,pc,mode,⟨s0,s1,s2,s3,s4,s5,s6,s7,s8,s9,s10,s11,s12,s13,s14,s15⟩,held,rat⟩:Hart).c.s0=q from HQ.out]
 have hS:zd8 s0 q=bits .andNot .u64 (bits .or .u64 (wV s0 8 (nzV s0 128)) 128) 6144:=if_neg (by rw [HQ2.out];decide)
 rw [hE,hS]
 exact bodyPost_ret (v:=.tuple #[zas ((⟨x,hx,s7,q,⟨bits .andNot .u64 (bits .or .u64 (wV s0 8 (nzV s0 128)) 128) 6144,s1,s2,s3,s4,s5,s6,s7,s8,s9,s10,s11,s12,s13,s14,s15⟩,held,rat⟩:Hart)),.bool true]) (zbg Tryz.results121 _ _ (W.heap.size+1) _ _ rfl (St.res _ W _ _) rfl) rfl ⟨rfl,St.below _ W _ _⟩
theorem zrx (h:Hart) (hm:h.mode<1) (W:World):TB 122 #[zas h] W (.tuple #[zas h,.bool false]):=by
 obtain ⟨x,hx,pc,mode,⟨s0,s1,s2,s3,s4,s5,s6,s7,s8,s9,s10,s11,s12,s13,s14,s15⟩,held,rat⟩:=h
 go_enter Tryz.func122,Tryz.ntmps122
 go_upto_region 1 with (fail)
 have hst:(W.alloc (zbD (⟨x,hx,pc,mode,⟨s0,s1,s2,s3,s4,s5,s6,s7,s8,s9,s10,s11,s12,s13,s14,s15⟩,held,rat⟩:Hart))).alloc zak=St 0 W (⟨x,hx,pc,mode,⟨s0,s1,s2,s3,s4,s5,s6,s7,s8,s9,s10,s11,s12,s13,s14,s15⟩,held,rat⟩:Hart) zeroC:=rfl
 rw [hst]
 clear hst
 go_wp2_with (first | (with_reducible first | refine zaa rfl rfl St.load_mode rfl ?_ | refine zaa rfl rfl (St.load _ _ _ _) rfl ?_ | refine zam rfl rfl (St.store _ _ _ _) rfl rfl ?_) | fail)
 exact bodyPost_ret (v:=.tuple #[zas ((⟨x,hx,pc,mode,⟨s0,s1,s2,s3,s4,s5,s6,s7,s8,s9,s10,s11,s12,s13,s14,s15⟩,held,rat⟩:Hart)),.bool false]) (zbg Tryz.results122 _ _ (W.heap.size+1) _ _ rfl (St.res _ W _ _) rfl) rfl ⟨rfl,St.below _ W _ _⟩
theorem zkP (h:Hart) (hm:¬ h.mode<1) (hq:nzV h.c.s0 256=true) (W:World):TB 122 #[zas h] W (.tuple #[zas (zd1 h),.bool true]):=by
 obtain ⟨x,hx,pc,mode,⟨s0,s1,s2,s3,s4,s5,s6,s7,s8,s9,s10,s11,s12,s13,s14,s15⟩,held,rat⟩:=h
 have hq2:(bits .and .u64 s0 256 != 0)=true:=hq
 have HQ:Hid (nzV s0 256=true):=hid hq
 clear hq
 go_enter Tryz.func122,Tryz.ntmps122
 go_upto_region 1 with (fail)
 have hst:(W.alloc (zbD (⟨x,hx,pc,mode,⟨s0,s1,s2,s3,s4,s5,s6,s7,s8,s9,s10,s11,s12,s13,s14,s15⟩,held,rat⟩:Hart))).alloc zak=St 0 W (⟨x,hx,pc,mode,⟨s0,s1,s2,s3,s4,s5,s6,s7,s8,s9,s10,s11,s12,s13,s14,s15⟩,held,rat⟩:Hart) zeroC:=rfl
 rw [hst]
 clear hst
 go_wp2_with (first | (with_reducible first | refine zaa rfl rfl St.load_mode rfl ?_ | refine zaa rfl rfl St.load_s0 rfl ?_ | refine zaa rfl rfl St.load_s12 rfl ?_ | refine zam rfl rfl St.store_mode rfl rfl ?_ | refine zam rfl rfl St.store_s0 rfl rfl ?_ | refine zam rfl rfl St.store_pc rfl rfl ?_ | refine zaa rfl rfl (St.load _ _ _ _) rfl ?_ | refine zam rfl rfl (St.store _ _ _ _) rfl rfl ?_) | (go_at_call 137;(with_reducible refine (zeB _ _ _ _).mono ?_);rintro e w' ⟨rfl,rfl⟩) | fail)
 have hE:zd1 (⟨x,hx,pc,mode,⟨s0,s1,s2,s3,s4,s5,s6,s7,s8,s9,s10,s11,s12,s13,s14,s15⟩,held,rat⟩:Hart)=(⟨x,hx,s12,1,⟨ze2 s0,s1,s2,s3,s4,s5,s6,s7,s8,s9,s10,s11,s12,s13,s14,s15⟩,held,rat⟩:Hart):=by
  unfold zd1
  rw [show nzV (⟨x,hx,pc,mode,⟨s0,s1,s2,s3,s4,s5,s6,s7,s8,s9,s10,s11,s12,s13,s14,s15⟩,held,rat⟩:Hart).c.s0 256=true from HQ.out]
  rfl
 rw [hE]
 exact bodyPost_ret (v:=.tuple #[zas ((⟨x,hx,s12,1,⟨ze2 s0,s1,s2,s3,s4,s5,s6,s7,s8,s9,s10,s11,s12,s13,s14,s15⟩,held,rat⟩:Hart)),.bool true]) (zbg Tryz.results122 _ _ (W.heap.size+1) _ _ rfl (St.res _ W _ _) rfl) rfl ⟨rfl,St.below _ W _ _⟩
theorem zmD (h:Hart) (hm:¬ h.mode<1) (hq:nzV h.c.s0 256=false) (W:World):TB 122 #[zas h] W (.tuple #[zas (zd1 h),.bool true]):=by
 obtain ⟨x,hx,pc,mode,⟨s0,s1,s2,s3,s4,s5,s6,s7,s8,s9,s10,s11,s12,s13,s14,s15⟩,held,rat⟩:=h
 have hq2:(bits .and .u64 s0 256 != 0)=false:=hq
 have HQ:Hid (nzV s0 256=false):=hid hq
 clear hq
 go_enter Tryz.func122,Tryz.ntmps122
 go_upto_region 1 with (fail)
 have hst:(W.alloc (zbD (⟨x,hx,pc,mode,⟨s0,s1,s2,s3,s4,s5,s6,s7,s8,s9,s10,s11,s12,s13,s14,s15⟩,held,rat⟩:Hart))).alloc zak=St 0 W (⟨x,hx,pc,mode,⟨s0,s1,s2,s3,s4,s5,s6,s7,s8,s9,s10,s11,s12,s13,s14,s15⟩,held,rat⟩:Hart) zeroC:=rfl
 rw [hst]
 clear hst
 go_wp2_with (first | (with_reducible first | refine zaa rfl rfl St.load_mode rfl ?_ | refine zaa rfl rfl St.load_s0 rfl ?_ | refine zaa rfl rfl St.load_s12 rfl ?_ | refine zam rfl rfl St.store_mode rfl rfl ?_ | refine zam rfl rfl St.store_s0 rfl rfl ?_ | refine zam rfl rfl St.store_pc rfl rfl ?_ | refine zaa rfl rfl (St.load _ _ _ _) rfl ?_ | refine zam rfl rfl (St.store _ _ _ _) rfl rfl ?_) | (go_at_call 137;(with_reducible refine (zeB _ _ _ _).mono ?_);rintro e w' ⟨rfl,rfl⟩) | fail)
 have hE:zd1 (⟨x,hx,pc,mode,⟨s0,s1,s2,s3,s4,s5,s6,s7,s8,s9,s10,s11,s12,s13,s14,s15⟩,held,rat⟩:Hart)=(⟨x,hx,s12,0,⟨ze2 s0,s1,s2,s3,s4,s5,s6,s7,s8,s9,s10,s11,s12,s13,s14,s15⟩,held,rat⟩:Hart):=by
  unfold zd1
  rw [show nzV (⟨x,hx,pc,mode,⟨s0,s1,s2,s3,s4,s5,s6,s7,s8,s9,s10,s11,s12,s13,s14,s15⟩,held,rat⟩:Hart).c.s0 256=false from HQ.out]
  rfl
 rw [hE]
 exact bodyPost_ret (v:=.tuple #[zas ((⟨x,hx,s12,0,⟨ze2 s0,s1,s2,s3,s4,s5,s6,s7,s8,s9,s10,s11,s12,s13,s14,s15⟩,held,rat⟩:Hart)),.bool true]) (zbg Tryz.results122 _ _ (W.heap.size+1) _ _ rfl (St.res _ W _ _) rfl) rfl ⟨rfl,St.below _ W _ _⟩
end Go.Proofs.YtmjjpgaeboaamaaGreatDoor.Tr
