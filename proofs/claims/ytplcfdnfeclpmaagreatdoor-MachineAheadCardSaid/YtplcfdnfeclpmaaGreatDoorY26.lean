/- MachineAhead,part 26. -/
import Derived.Test.YtplcfdnfeclpmaaGreatDoorY25
set_option maxHeartbeats 4000000
set_option maxRecDepth 100000
open Go.Lib (hid)
namespace Go.Proofs.YtplcfdnfeclpmaaGreatDoor.Tr
open Go.RowKit Go.Deep Go.Joins
set_option maxRecDepth 100000
theorem za8 {fn:Func} {p u:Tmp} (h:fn.results=#[.cell p 27,.tmp u]) (tmps:Array Value) (w:World) (g:Nat) (k:Hart) (v:Value) (hp:tmps.getD p undef=.pointer (some ⟨g,0,none⟩)) (hg:Box w g k) (hv:tmps.getD u undef=v) :
  (results fn tmps).run Tryz.prog w=.ok (.tuple #[zat k,v]) w:=by
 rw [results_cell_tmp h,hp,hv]
 simp [asAddr,Result.andThen,Box.result hg]
def zdD (h:Hart) (t v:Int):Hart:=(⟨h.x,h.hx,zeK h.c.s10 t,1,⟨bits .andNot .u64 (wV (wV h.c.s0 256 (h.mode==1)) 32 (nzV h.c.s0 2)) 2,h.c.s1,h.c.s2,h.c.s3,h.c.s4,h.c.s5,h.c.s6,h.c.s7,h.c.s8,h.c.s9,h.c.s10,h.c.s11,bits .andNot .u64 h.pc 1,t,v,h.c.s15⟩,h.held,h.rat⟩:Hart)
def zdA (h:Hart) (t v:Int):Hart:=(⟨h.x,h.hx,zeK h.c.s5 t,3,⟨bits .andNot .u64 (wV (bits .or .u64 (bits .andNot .u64 h.c.s0 6144) (bits .and .u64 (IntKind.u64.wrap (IntKind.u64.wrap h.mode*2048)) 6144)) 128 (nzV h.c.s0 8)) 8,h.c.s1,h.c.s2,h.c.s3,h.c.s4,h.c.s5,h.c.s6,bits .andNot .u64 h.pc 1,t,v,h.c.s10,h.c.s11,h.c.s12,h.c.s13,h.c.s14,h.c.s15⟩,h.held,h.rat⟩:Hart)
theorem zia (h:Hart) (t v:Int) (W:World):TB 70 #[zat h,.int .u64 t,.int .u64 v] W (zat (zdD h t v)):=by
 obtain ⟨x,hx,pc,mode,⟨s0,s1,s2,s3,s4,s5,s6,s7,s8,s9,s10,s11,s12,s13,s14,s15⟩,held,rat⟩:=h
 go_enter Tryz.func70,Tryz.ntmps70
 go_upto_region 1 with (fail)
 have hst:(W.alloc (zbp (⟨x,hx,pc,mode,⟨s0,s1,s2,s3,s4,s5,s6,s7,s8,s9,s10,s11,s12,s13,s14,s15⟩,held,rat⟩:Hart))).alloc zah=St 0 W (⟨x,hx,pc,mode,⟨s0,s1,s2,s3,s4,s5,s6,s7,s8,s9,s10,s11,s12,s13,s14,s15⟩,held,rat⟩:Hart) zeroC:=rfl
 rw [hst]
 clear hst
 go_wp2_with (first | (with_reducible first | refine zaa rfl rfl St.load_s0 rfl ?_ | refine zaa rfl rfl St.load_pc rfl ?_ | refine zaa rfl rfl St.load_mode rfl ?_ | refine zaa rfl rfl St.load_s10 rfl ?_ | refine zam rfl rfl St.store_s12 rfl rfl ?_ | refine zam rfl rfl St.store_s13 rfl rfl ?_ | refine zam rfl rfl St.store_s14 rfl rfl ?_ | refine zam rfl rfl St.store_s0 rfl rfl ?_ | refine zam rfl rfl St.store_mode rfl rfl ?_ | refine zam rfl rfl St.store_pc rfl rfl ?_ | refine zaa rfl rfl (St.load _ _ _ _) rfl ?_ | refine zam rfl rfl (St.store _ _ _ _) rfl rfl ?_) | ((first | (go_at_call 94;with_reducible refine (zeB _ _ _ _).mono ?_) | (go_at_call 95;with_reducible refine (ziZ _ _ _).mono ?_));rintro e w' ⟨rfl,rfl⟩) | fail)
 exact bodyPost_ret (v:=zat (zdD (⟨x,hx,pc,mode,⟨s0,s1,s2,s3,s4,s5,s6,s7,s8,s9,s10,s11,s12,s13,s14,s15⟩,held,rat⟩:Hart) t v)) (results_cell_row Tryz.results70 _ _ (W.heap.size+1) 27 (zao (zdD (⟨x,hx,pc,mode,⟨s0,s1,s2,s3,s4,s5,s6,s7,s8,s9,s10,s11,s12,s13,s14,s15⟩,held,rat⟩:Hart) t v)) (0,0) _ rfl (St.res _ W _ _) Tryz.underlying27 rfl (by rw [zcJ,zcg])) rfl ⟨rfl,St.below _ W _ _⟩
theorem zi6 (h:Hart) (t v:Int) (W:World):TB 71 #[zat h,.int .u64 t,.int .u64 v] W (zat (zdA h t v)):=by
 obtain ⟨x,hx,pc,mode,⟨s0,s1,s2,s3,s4,s5,s6,s7,s8,s9,s10,s11,s12,s13,s14,s15⟩,held,rat⟩:=h
 go_enter Tryz.func71,Tryz.ntmps71
 go_upto_region 1 with (fail)
 have hst:(W.alloc (zbp (⟨x,hx,pc,mode,⟨s0,s1,s2,s3,s4,s5,s6,s7,s8,s9,s10,s11,s12,s13,s14,s15⟩,held,rat⟩:Hart))).alloc zah=St 0 W (⟨x,hx,pc,mode,⟨s0,s1,s2,s3,s4,s5,s6,s7,s8,s9,s10,s11,s12,s13,s14,s15⟩,held,rat⟩:Hart) zeroC:=rfl
 rw [hst]
 clear hst
 go_wp2_with (first | (with_reducible first | refine zaa rfl rfl St.load_s0 rfl ?_ | refine zaa rfl rfl St.load_pc rfl ?_ | refine zaa rfl rfl St.load_mode rfl ?_ | refine zaa rfl rfl St.load_s5 rfl ?_ | refine zam rfl rfl St.store_s7 rfl rfl ?_ | refine zam rfl rfl St.store_s8 rfl rfl ?_ | refine zam rfl rfl St.store_s9 rfl rfl ?_ | refine zam rfl rfl St.store_s0 rfl rfl ?_ | refine zam rfl rfl St.store_mode rfl rfl ?_ | refine zam rfl rfl St.store_pc rfl rfl ?_ | refine zaa rfl rfl (St.load _ _ _ _) rfl ?_ | refine zam rfl rfl (St.store _ _ _ _) rfl rfl ?_) | ((first | (go_at_call 94;with_reducible refine (zeB _ _ _ _).mono ?_) | (go_at_call 95;with_reducible refine (ziZ _ _ _).mono ?_));rintro e w' ⟨rfl,rfl⟩) | fail)
 exact bodyPost_ret (v:=zat (zdA (⟨x,hx,pc,mode,⟨s0,s1,s2,s3,s4,s5,s6,s7,s8,s9,s10,s11,s12,s13,s14,s15⟩,held,rat⟩:Hart) t v)) (results_cell_row Tryz.results71 _ _ (W.heap.size+1) 27 (zao (zdA (⟨x,hx,pc,mode,⟨s0,s1,s2,s3,s4,s5,s6,s7,s8,s9,s10,s11,s12,s13,s14,s15⟩,held,rat⟩:Hart) t v)) (0,0) _ rfl (St.res _ W _ _) Tryz.underlying27 rfl (by rw [zcJ,zcg])) rfl ⟨rfl,St.below _ W _ _⟩
end Go.Proofs.YtplcfdnfeclpmaaGreatDoor.Tr
namespace Go.Proofs.YtplcfdnfeclpmaaGreatDoor.Tr
open Go.RowKit Go.Deep Go.Joins
set_option maxRecDepth 100000
theorem zdS {w w':World} {b:Nat} {o:Obj} (k:Below w.heap.size w w') (h:w.heap[b]?=some o):w'.heap[b]?=some o:=(k.block b (Array.getElem?_eq_some_iff.1 h).1).trans h
def zcI (h:Hart):Hart:=(⟨h.x,h.hx,h.pc,h.mode,⟨h.c.s0,h.c.s1,h.c.s2,h.c.s3,h.c.s4,h.c.s5,h.c.s6,h.c.s7,h.c.s8,h.c.s9,h.c.s10,h.c.s11,h.c.s12,h.c.s13,h.c.s14,h.c.s15⟩,false,0⟩:Hart)
def zcw (k:Int) (it:Bool):Int:=if it=true then bits .or .u64 k 9223372036854775808 else k
def zdV (h:Hart) (k:Nat) (it:Bool) (v:Int):Hart:=if zdR h k it=true then zdD (zcI h) (zcw k it) v else zdA (zcI h) (zcw k it) v
theorem zvC (h:Hart) (c:Int) (it:Bool) (v:Int) (hc:c<0∨63<c) (W:World):TB 48 #[zat h,.int .i64 c,.bool it,.int .u64 v] W (zat h):=by
 obtain ⟨x,hx,pc,mode,⟨s0,s1,s2,s3,s4,s5,s6,s7,s8,s9,s10,s11,s12,s13,s14,s15⟩,held,rat⟩:=h
 rcases hc with hc | hc
 all_goals
  go_enter Tryz.func48,Tryz.ntmps48
  go_upto_region 1 with (fail)
  have hst:(W.alloc (zbp (⟨x,hx,pc,mode,⟨s0,s1,s2,s3,s4,s5,s6,s7,s8,s9,s10,s11,s12,s13,s14,s15⟩,held,rat⟩:Hart))).alloc zah=St 0 W (⟨x,hx,pc,mode,⟨s0,s1,s2,s3,s4,s5,s6,s7,s8,s9,s10,s11,s12,s13,s14,s15⟩,held,rat⟩:Hart) zeroC:=rfl
  rw [hst]
  clear hst
  go_wp2_with (first | (with_reducible first | refine zaa rfl rfl (St.load _ _ _ _) rfl ?_ | refine zam rfl rfl (St.store _ _ _ _) rfl rfl ?_) | fail)
  exact bodyPost_ret (v:=zat ((⟨x,hx,pc,mode,⟨s0,s1,s2,s3,s4,s5,s6,s7,s8,s9,s10,s11,s12,s13,s14,s15⟩,held,rat⟩:Hart))) (results_cell_row Tryz.results48 _ _ (W.heap.size+1) 27 (zao ((⟨x,hx,pc,mode,⟨s0,s1,s2,s3,s4,s5,s6,s7,s8,s9,s10,s11,s12,s13,s14,s15⟩,held,rat⟩:Hart))) (0,0) _ rfl (St.res _ W _ _) Tryz.underlying27 rfl (by rw [zcJ,zcg])) rfl ⟨rfl,St.below _ W _ _⟩
theorem zwp (h:Hart) (k:Nat) (v:Int) (hk:k≤63) (hb:zdR h k true=true) (W:World):TB 48 #[zat h,.int .i64 k,.bool true,.int .u64 v] W (zat (zdD (zcI h) (zcw k true) v)):=by
 obtain ⟨x,hx,pc,mode,⟨s0,s1,s2,s3,s4,s5,s6,s7,s8,s9,s10,s11,s12,s13,s14,s15⟩,held,rat⟩:=h
 have hw:IntKind.u64.wrap (k:Int)=k:=by rw [IntKind.wrap_u64];omega
 have c23:=hid (zgr (⟨x,hx,pc,mode,⟨s0,s1,s2,s3,s4,s5,s6,s7,s8,s9,s10,s11,s12,s13,s14,s15⟩,false,0⟩:Hart) k true true hk hb)
 clear hb
 go_enter Tryz.func48,Tryz.ntmps48
 go_upto_region 1 with (fail)
 have hst:(W.alloc (zbp (⟨x,hx,pc,mode,⟨s0,s1,s2,s3,s4,s5,s6,s7,s8,s9,s10,s11,s12,s13,s14,s15⟩,held,rat⟩:Hart))).alloc zah=St 0 W (⟨x,hx,pc,mode,⟨s0,s1,s2,s3,s4,s5,s6,s7,s8,s9,s10,s11,s12,s13,s14,s15⟩,held,rat⟩:Hart) zeroC:=rfl
 rw [hst]
 clear hst
 go_wp2_with (first | (with_reducible first | refine zaa rfl rfl (Box.load ((St.box _ W _ _).next k1)) rfl ?_ | refine zam rfl rfl (zaU _ _ zeroC _ r2 rfl) rfl rfl ?_ | refine zam rfl rfl St.store_held rfl rfl ?_ | refine zam rfl rfl St.store_rat rfl rfl ?_ | refine zaa rfl rfl (St.load _ _ _ _) rfl ?_ | refine zam rfl rfl (St.store _ _ _ _) rfl rfl ?_) | (go_at_call 69;(with_reducible refine (c23.out _).mono ?_);rintro e w1 ⟨rfl,k1⟩) | (go_at_call 70;(with_reducible refine (zia _ _ _ _).mono ?_);rintro e w2 ⟨rfl,k2⟩;have r2:=zdS k2 (zdS k1 (St.res _ W _ _))) | fail)
 exact bodyPost_ret (v:=zat (zdD (zcI (⟨x,hx,pc,mode,⟨s0,s1,s2,s3,s4,s5,s6,s7,s8,s9,s10,s11,s12,s13,s14,s15⟩,held,rat⟩:Hart)) (zcw k true) v)) (results_cell_row Tryz.results48 _ _ (W.heap.size+1) 27 (zao (zdD (zcI (⟨x,hx,pc,mode,⟨s0,s1,s2,s3,s4,s5,s6,s7,s8,s9,s10,s11,s12,s13,s14,s15⟩,held,rat⟩:Hart)) (zcw k true) v)) (0,0) _ rfl (Box.mine r2 _) Tryz.underlying27 rfl (by rw [zcJ,zcg])) rfl ⟨rfl,below_setRow (zac (zac (St.below _ W _ _) (Nat.le_refl _) k1) (Nat.le_refl _) k2) (by omega) _⟩
theorem zoj (h:Hart) (k:Nat) (v:Int) (hk:k≤63) (hb:zdR h k false=true) (W:World):TB 48 #[zat h,.int .i64 k,.bool false,.int .u64 v] W (zat (zdD (zcI h) (zcw k false) v)):=by
 obtain ⟨x,hx,pc,mode,⟨s0,s1,s2,s3,s4,s5,s6,s7,s8,s9,s10,s11,s12,s13,s14,s15⟩,held,rat⟩:=h
 have hw:IntKind.u64.wrap (k:Int)=k:=by rw [IntKind.wrap_u64];omega
 have c23:=hid (zgr (⟨x,hx,pc,mode,⟨s0,s1,s2,s3,s4,s5,s6,s7,s8,s9,s10,s11,s12,s13,s14,s15⟩,false,0⟩:Hart) k false true hk hb)
 clear hb
 go_enter Tryz.func48,Tryz.ntmps48
 go_upto_region 1 with (fail)
 have hst:(W.alloc (zbp (⟨x,hx,pc,mode,⟨s0,s1,s2,s3,s4,s5,s6,s7,s8,s9,s10,s11,s12,s13,s14,s15⟩,held,rat⟩:Hart))).alloc zah=St 0 W (⟨x,hx,pc,mode,⟨s0,s1,s2,s3,s4,s5,s6,s7,s8,s9,s10,s11,s12,s13,s14,s15⟩,held,rat⟩:Hart) zeroC:=rfl
 rw [hst]
 clear hst
 go_wp2_with (first | (with_reducible first | refine zaa rfl rfl (Box.load ((St.box _ W _ _).next k1)) rfl ?_ | refine zam rfl rfl (zaU _ _ zeroC _ r2 rfl) rfl rfl ?_ | refine zam rfl rfl St.store_held rfl rfl ?_ | refine zam rfl rfl St.store_rat rfl rfl ?_ | refine zaa rfl rfl (St.load _ _ _ _) rfl ?_ | refine zam rfl rfl (St.store _ _ _ _) rfl rfl ?_) | (go_at_call 69;(with_reducible refine (c23.out _).mono ?_);rintro e w1 ⟨rfl,k1⟩) | (go_at_call 70;(with_reducible refine (zia _ _ _ _).mono ?_);rintro e w2 ⟨rfl,k2⟩;have r2:=zdS k2 (zdS k1 (St.res _ W _ _))) | fail)
 exact bodyPost_ret (v:=zat (zdD (zcI (⟨x,hx,pc,mode,⟨s0,s1,s2,s3,s4,s5,s6,s7,s8,s9,s10,s11,s12,s13,s14,s15⟩,held,rat⟩:Hart)) (zcw k false) v)) (results_cell_row Tryz.results48 _ _ (W.heap.size+1) 27 (zao (zdD (zcI (⟨x,hx,pc,mode,⟨s0,s1,s2,s3,s4,s5,s6,s7,s8,s9,s10,s11,s12,s13,s14,s15⟩,held,rat⟩:Hart)) (zcw k false) v)) (0,0) _ rfl (Box.mine r2 _) Tryz.underlying27 rfl (by rw [zcJ,zcg])) rfl ⟨rfl,below_setRow (zac (zac (St.below _ W _ _) (Nat.le_refl _) k1) (Nat.le_refl _) k2) (by omega) _⟩
theorem zsG (h:Hart) (k:Nat) (v:Int) (hk:k≤63) (hb:zdR h k true=false) (W:World):TB 48 #[zat h,.int .i64 k,.bool true,.int .u64 v] W (zat (zdA (zcI h) (zcw k true) v)):=by
 obtain ⟨x,hx,pc,mode,⟨s0,s1,s2,s3,s4,s5,s6,s7,s8,s9,s10,s11,s12,s13,s14,s15⟩,held,rat⟩:=h
 have hw:IntKind.u64.wrap (k:Int)=k:=by rw [IntKind.wrap_u64];omega
 have c23:=hid (zgr (⟨x,hx,pc,mode,⟨s0,s1,s2,s3,s4,s5,s6,s7,s8,s9,s10,s11,s12,s13,s14,s15⟩,false,0⟩:Hart) k true false hk hb)
 clear hb
 go_enter Tryz.func48,Tryz.ntmps48
 go_upto_region 1 with (fail)
 have hst:(W.alloc (zbp (⟨x,hx,pc,mode,⟨s0,s1,s2,s3,s4,s5,s6,s7,s8,s9,s10,s11,s12,s13,s14,s15⟩,held,rat⟩:Hart))).alloc zah=St 0 W (⟨x,hx,pc,mode,⟨s0,s1,s2,s3,s4,s5,s6,s7,s8,s9,s10,s11,s12,s13,s14,s15⟩,held,rat⟩:Hart) zeroC:=rfl
 rw [hst]
 clear hst
 go_wp2_with (first | (with_reducible first | refine zaa rfl rfl (Box.load ((St.box _ W _ _).next k1)) rfl ?_ | refine zam rfl rfl (zaU _ _ zeroC _ r2 rfl) rfl rfl ?_ | refine zam rfl rfl St.store_held rfl rfl ?_ | refine zam rfl rfl St.store_rat rfl rfl ?_ | refine zaa rfl rfl (St.load _ _ _ _) rfl ?_ | refine zam rfl rfl (St.store _ _ _ _) rfl rfl ?_) | (go_at_call 69;(with_reducible refine (c23.out _).mono ?_);rintro e w1 ⟨rfl,k1⟩) | (go_at_call 71;(with_reducible refine (zi6 _ _ _ _).mono ?_);rintro e w2 ⟨rfl,k2⟩;have r2:=zdS k2 (zdS k1 (St.res _ W _ _))) | fail)
 exact bodyPost_ret (v:=zat (zdA (zcI (⟨x,hx,pc,mode,⟨s0,s1,s2,s3,s4,s5,s6,s7,s8,s9,s10,s11,s12,s13,s14,s15⟩,held,rat⟩:Hart)) (zcw k true) v)) (results_cell_row Tryz.results48 _ _ (W.heap.size+1) 27 (zao (zdA (zcI (⟨x,hx,pc,mode,⟨s0,s1,s2,s3,s4,s5,s6,s7,s8,s9,s10,s11,s12,s13,s14,s15⟩,held,rat⟩:Hart)) (zcw k true) v)) (0,0) _ rfl (Box.mine r2 _) Tryz.underlying27 rfl (by rw [zcJ,zcg])) rfl ⟨rfl,below_setRow (zac (zac (St.below _ W _ _) (Nat.le_refl _) k1) (Nat.le_refl _) k2) (by omega) _⟩
theorem zkO (h:Hart) (k:Nat) (v:Int) (hk:k≤63) (hb:zdR h k false=false) (W:World):TB 48 #[zat h,.int .i64 k,.bool false,.int .u64 v] W (zat (zdA (zcI h) (zcw k false) v)):=by
 obtain ⟨x,hx,pc,mode,⟨s0,s1,s2,s3,s4,s5,s6,s7,s8,s9,s10,s11,s12,s13,s14,s15⟩,held,rat⟩:=h
 have hw:IntKind.u64.wrap (k:Int)=k:=by rw [IntKind.wrap_u64];omega
 have c23:=hid (zgr (⟨x,hx,pc,mode,⟨s0,s1,s2,s3,s4,s5,s6,s7,s8,s9,s10,s11,s12,s13,s14,s15⟩,false,0⟩:Hart) k false false hk hb)
 clear hb
 go_enter Tryz.func48,Tryz.ntmps48
 go_upto_region 1 with (fail)
 have hst:(W.alloc (zbp (⟨x,hx,pc,mode,⟨s0,s1,s2,s3,s4,s5,s6,s7,s8,s9,s10,s11,s12,s13,s14,s15⟩,held,rat⟩:Hart))).alloc zah=St 0 W (⟨x,hx,pc,mode,⟨s0,s1,s2,s3,s4,s5,s6,s7,s8,s9,s10,s11,s12,s13,s14,s15⟩,held,rat⟩:Hart) zeroC:=rfl
 rw [hst]
 clear hst
 go_wp2_with (first | (with_reducible first | refine zaa rfl rfl (Box.load ((St.box _ W _ _).next k1)) rfl ?_ | refine zam rfl rfl (zaU _ _ zeroC _ r2 rfl) rfl rfl ?_ | refine zam rfl rfl St.store_held rfl rfl ?_ | refine zam rfl rfl St.store_rat rfl rfl ?_ | refine zaa rfl rfl (St.load _ _ _ _) rfl ?_ | refine zam rfl rfl (St.store _ _ _ _) rfl rfl ?_) | (go_at_call 69;(with_reducible refine (c23.out _).mono ?_);rintro e w1 ⟨rfl,k1⟩) | (go_at_call 71;(with_reducible refine (zi6 _ _ _ _).mono ?_);rintro e w2 ⟨rfl,k2⟩;have r2:=zdS k2 (zdS k1 (St.res _ W _ _))) | fail)
 exact bodyPost_ret (v:=zat (zdA (zcI (⟨x,hx,pc,mode,⟨s0,s1,s2,s3,s4,s5,s6,s7,s8,s9,s10,s11,s12,s13,s14,s15⟩,held,rat⟩:Hart)) (zcw k false) v)) (results_cell_row Tryz.results48 _ _ (W.heap.size+1) 27 (zao (zdA (zcI (⟨x,hx,pc,mode,⟨s0,s1,s2,s3,s4,s5,s6,s7,s8,s9,s10,s11,s12,s13,s14,s15⟩,held,rat⟩:Hart)) (zcw k false) v)) (0,0) _ rfl (Box.mine r2 _) Tryz.underlying27 rfl (by rw [zcJ,zcg])) rfl ⟨rfl,below_setRow (zac (zac (St.below _ W _ _) (Nat.le_refl _) k1) (Nat.le_refl _) k2) (by omega) _⟩
theorem zjz (h:Hart) (k:Nat) (it:Bool) (v:Int) (hk:k≤63) (W:World):TB 48 #[zat h,.int .i64 k,.bool it,.int .u64 v] W (zat (zdV h k it v)):=by
 unfold zdV
 rcases Bool.eq_false_or_eq_true (zdR h k it) with hb | hb
 all_goals cases it
 ·rw [if_pos hb];exact zoj h k v hk hb W
 ·rw [if_pos hb];exact zwp h k v hk hb W
 ·rw [if_neg (by rw [hb];decide)];exact zkO h k v hk hb W
 ·rw [if_neg (by rw [hb];decide)];exact zsG h k v hk hb W
end Go.Proofs.YtplcfdnfeclpmaaGreatDoor.Tr
namespace Go.Proofs.YtplcfdnfeclpmaaGreatDoor.Tr
open Go.RowKit Go.Deep Go.Joins
set_option maxRecDepth 100000
theorem zoY (x:Int) (m:Nat) (hm:m<18446744073709551616):bits .and .u64 x m≤m:=by
 show IntKind.u64.wrap (((BitVec.ofInt 64 x &&& BitVec.ofInt 64 (m:Int)).toNat:Nat):Int)≤m
 have h:(BitVec.ofInt 64 x &&& BitVec.ofInt 64 (m:Int)).toNat≤m:=by
  rw [BitVec.toNat_and,BitVec.ofInt_natCast,BitVec.toNat_ofNat,Nat.mod_eq_of_lt (by omega)]
  exact Nat.and_le_right
 rw [IntKind.wrap_u64]
 omega
theorem zh0 (x:Int):∃ q:Int,bits .and .u64 x 6144 / 2048=q∧0≤q∧q≤3:=by
 refine ⟨_,rfl,?_,?_⟩
 ·have:=bits_lo_u64 .and x 6144
  omega
 ·have h:bits .and .u64 x 6144≤6144:=zoY x 6144 (by omega)
  omega
def mppV (x:Int):Int:=bits .and .u64 x 6144 / 2048
def zef (s:Int) (q:Int):Int:=if (q != 3)=true then bits .andNot .u64 (bits .andNot .u64 (bits .or .u64 (wV s 8 (nzV s 128)) 128) 6144) 131072 else bits .andNot .u64 (bits .or .u64 (wV s 8 (nzV s 128)) 128) 6144
def ze5 (s:Int):Int:=bits .andNot .u64 (bits .or .u64 (wV s 2 (nzV s 32)) 32) 131328
def zdT (h:Hart):Hart:=(⟨h.x,h.hx,h.c.s7,mppV h.c.s0,⟨zef h.c.s0 (mppV h.c.s0),h.c.s1,h.c.s2,h.c.s3,h.c.s4,h.c.s5,h.c.s6,h.c.s7,h.c.s8,h.c.s9,h.c.s10,h.c.s11,h.c.s12,h.c.s13,h.c.s14,h.c.s15⟩,h.held,h.rat⟩:Hart)
def zdW (h:Hart):Hart:=(⟨h.x,h.hx,h.c.s12,if nzV h.c.s0 256=true then 1 else 0,⟨ze5 h.c.s0,h.c.s1,h.c.s2,h.c.s3,h.c.s4,h.c.s5,h.c.s6,h.c.s7,h.c.s8,h.c.s9,h.c.s10,h.c.s11,h.c.s12,h.c.s13,h.c.s14,h.c.s15⟩,h.held,h.rat⟩:Hart)
theorem zkB (h:Hart) (hm:(h.mode != 3)=true) (W:World):TB 87 #[zat h] W (.tuple #[zat h,.bool false]):=by
 obtain ⟨x,hx,pc,mode,⟨s0,s1,s2,s3,s4,s5,s6,s7,s8,s9,s10,s11,s12,s13,s14,s15⟩,held,rat⟩:=h
 go_enter Tryz.func87,Tryz.ntmps87
 go_upto_region 1 with (fail)
 have hst:(W.alloc (zbp (⟨x,hx,pc,mode,⟨s0,s1,s2,s3,s4,s5,s6,s7,s8,s9,s10,s11,s12,s13,s14,s15⟩,held,rat⟩:Hart))).alloc zah=St 0 W (⟨x,hx,pc,mode,⟨s0,s1,s2,s3,s4,s5,s6,s7,s8,s9,s10,s11,s12,s13,s14,s15⟩,held,rat⟩:Hart) zeroC:=rfl
 rw [hst]
 clear hst
 go_wp2_with (first | (with_reducible first | refine zaa rfl rfl St.load_mode rfl ?_ | refine zaa rfl rfl (St.load _ _ _ _) rfl ?_ | refine zam rfl rfl (St.store _ _ _ _) rfl rfl ?_) | fail)
 exact bodyPost_ret (v:=.tuple #[zat ((⟨x,hx,pc,mode,⟨s0,s1,s2,s3,s4,s5,s6,s7,s8,s9,s10,s11,s12,s13,s14,s15⟩,held,rat⟩:Hart)),.bool false]) (za8 Tryz.results87 _ _ (W.heap.size+1) _ _ rfl (St.res _ W _ _) rfl) rfl ⟨rfl,St.below _ W _ _⟩
theorem zmo (h:Hart) (hm:(h.mode != 3)=false) (hq:(mppV h.c.s0 != 3)=true) (W:World):TB 87 #[zat h] W (.tuple #[zat (zdT h),.bool true]):=by
 obtain ⟨x,hx,pc,mode,⟨s0,s1,s2,s3,s4,s5,s6,s7,s8,s9,s10,s11,s12,s13,s14,s15⟩,held,rat⟩:=h
 obtain ⟨q,he,h0,h3⟩:=zh0 s0
 have HQ:Hid (mppV s0=q):=hid he
 have hw:IntKind.i64.wrap q=q:=IntWalk.i64_in _ (by omega)
 have hq2:(q != 3)=true:=by rw [← hq];exact congrArg (fun z=>z != 3) he.symm
 clear hq
 have HQ2:=hid hq2
 go_enter Tryz.func87,Tryz.ntmps87
 go_upto_region 1 with (fail)
 have hst:(W.alloc (zbp (⟨x,hx,pc,mode,⟨s0,s1,s2,s3,s4,s5,s6,s7,s8,s9,s10,s11,s12,s13,s14,s15⟩,held,rat⟩:Hart))).alloc zah=St 0 W (⟨x,hx,pc,mode,⟨s0,s1,s2,s3,s4,s5,s6,s7,s8,s9,s10,s11,s12,s13,s14,s15⟩,held,rat⟩:Hart) zeroC:=rfl
 rw [hst]
 clear hst
 go_wp2_with (first | (with_reducible first | refine zaa rfl rfl St.load_mode rfl ?_ | refine zaa rfl rfl St.load_s0 rfl ?_ | refine zaa rfl rfl St.load_s7 rfl ?_ | refine zam rfl rfl St.store_mode rfl rfl ?_ | refine zam rfl rfl St.store_s0 rfl rfl ?_ | refine zam rfl rfl St.store_pc rfl rfl ?_ | refine zaa rfl rfl (St.load _ _ _ _) rfl ?_ | refine zam rfl rfl (St.store _ _ _ _) rfl rfl ?_) | (go_at_call 94;(with_reducible refine (zeB _ _ _ _).mono ?_);rintro e w' ⟨rfl,rfl⟩) | fail)
 have hE:zdT (⟨x,hx,pc,mode,⟨s0,s1,s2,s3,s4,s5,s6,s7,s8,s9,s10,s11,s12,s13,s14,s15⟩,held,rat⟩:Hart)=(⟨x,hx,s7,q,⟨zef s0 q,s1,s2,s3,s4,s5,s6,s7,s8,s9,s10,s11,s12,s13,s14,s15⟩,held,rat⟩:Hart):=by
  unfold zdT
  rw [show mppV (⟨x,hx,pc,mode,⟨s0,s1,s2,s3,s4,s5,s6,s7,s8,s9,s10,s11,s12,s13,s14,s15⟩,held,rat⟩:Hart).c.s0=q from HQ.out]
 have hS:zef s0 q=bits .andNot .u64 (bits .andNot .u64 (bits .or .u64 (wV s0 8 (nzV s0 128)) 128) 6144) 131072:=if_pos HQ2.out
 rw [hE,hS]
 exact bodyPost_ret (v:=.tuple #[zat ((⟨x,hx,s7,q,⟨bits .andNot .u64 (bits .andNot .u64 (bits .or .u64 (wV s0 8 (nzV s0 128)) 128) 6144) 131072,s1,s2,s3,s4,s5,s6,s7,s8,s9,s10,s11,s12,s13,s14,s15⟩,held,rat⟩:Hart)),.bool true]) (za8 Tryz.results87 _ _ (W.heap.size+1) _ _ rfl (St.res _ W _ _) rfl) rfl ⟨rfl,St.below _ W _ _⟩
theorem zwd (h:Hart) (hm:(h.mode != 3)=false) (hq:(mppV h.c.s0 != 3)=false) (W:World):TB 87 #[zat h] W (.tuple #[zat (zdT h),.bool true]):=by
 obtain ⟨x,hx,pc,mode,⟨s0,s1,s2,s3,s4,s5,s6,s7,s8,s9,s10,s11,s12,s13,s14,s15⟩,held,rat⟩:=h
 obtain ⟨q,he,h0,h3⟩:=zh0 s0
 have HQ:Hid (mppV s0=q):=hid he
 have hw:IntKind.i64.wrap q=q:=IntWalk.i64_in _ (by omega)
 have hq2:(q != 3)=false:=by rw [← hq];exact congrArg (fun z=>z != 3) he.symm
 clear hq
 have HQ2:=hid hq2
 go_enter Tryz.func87,Tryz.ntmps87
 go_upto_region 1 with (fail)
 have hst:(W.alloc (zbp (⟨x,hx,pc,mode,⟨s0,s1,s2,s3,s4,s5,s6,s7,s8,s9,s10,s11,s12,s13,s14,s15⟩,held,rat⟩:Hart))).alloc zah=St 0 W (⟨x,hx,pc,mode,⟨s0,s1,s2,s3,s4,s5,s6,s7,s8,s9,s10,s11,s12,s13,s14,s15⟩,held,rat⟩:Hart) zeroC:=rfl
 rw [hst]
 clear hst
 go_wp2_with (first | (with_reducible first | refine zaa rfl rfl St.load_mode rfl ?_ | refine zaa rfl rfl St.load_s0 rfl ?_ | refine zaa rfl rfl St.load_s7 rfl ?_ | refine zam rfl rfl St.store_mode rfl rfl ?_ | refine zam rfl rfl St.store_s0 rfl rfl ?_ | refine zam rfl rfl St.store_pc rfl rfl ?_ | refine zaa rfl rfl (St.load _ _ _ _) rfl ?_ | refine zam rfl rfl (St.store _ _ _ _) rfl rfl ?_) | (go_at_call 94;(with_reducible refine (zeB _ _ _ _).mono ?_);rintro e w' ⟨rfl,rfl⟩) | fail)
 have hE:zdT (⟨x,hx,pc,mode,⟨s0,s1,s2,s3,s4,s5,s6,s7,s8,s9,s10,s11,s12,s13,s14,s15⟩,held,rat⟩:Hart)=(⟨x,hx,s7,q,⟨zef s0 q,s1,s2,s3,s4,s5,s6,s7,s8,s9,s10,s11,s12,s13,s14,s15⟩,held,rat⟩:Hart):=by
  unfold zdT
  rw [show mppV (⟨x,hx,pc,mode,⟨s0,s1,s2,s3,s4,s5,s6,s7,s8,s9,s10,s11,s12,s13,s14,s15⟩,held,rat⟩:Hart).c.s0=q from HQ.out]
 have hS:zef s0 q=bits .andNot .u64 (bits .or .u64 (wV s0 8 (nzV s0 128)) 128) 6144:=if_neg (by rw [HQ2.out];decide)
 rw [hE,hS]
 exact bodyPost_ret (v:=.tuple #[zat ((⟨x,hx,s7,q,⟨bits .andNot .u64 (bits .or .u64 (wV s0 8 (nzV s0 128)) 128) 6144,s1,s2,s3,s4,s5,s6,s7,s8,s9,s10,s11,s12,s13,s14,s15⟩,held,rat⟩:Hart)),.bool true]) (za8 Tryz.results87 _ _ (W.heap.size+1) _ _ rfl (St.res _ W _ _) rfl) rfl ⟨rfl,St.below _ W _ _⟩
theorem zmz (h:Hart) (hm:h.mode<1) (W:World):TB 88 #[zat h] W (.tuple #[zat h,.bool false]):=by
 obtain ⟨x,hx,pc,mode,⟨s0,s1,s2,s3,s4,s5,s6,s7,s8,s9,s10,s11,s12,s13,s14,s15⟩,held,rat⟩:=h
 go_enter Tryz.func88,Tryz.ntmps88
 go_upto_region 1 with (fail)
 have hst:(W.alloc (zbp (⟨x,hx,pc,mode,⟨s0,s1,s2,s3,s4,s5,s6,s7,s8,s9,s10,s11,s12,s13,s14,s15⟩,held,rat⟩:Hart))).alloc zah=St 0 W (⟨x,hx,pc,mode,⟨s0,s1,s2,s3,s4,s5,s6,s7,s8,s9,s10,s11,s12,s13,s14,s15⟩,held,rat⟩:Hart) zeroC:=rfl
 rw [hst]
 clear hst
 go_wp2_with (first | (with_reducible first | refine zaa rfl rfl St.load_mode rfl ?_ | refine zaa rfl rfl (St.load _ _ _ _) rfl ?_ | refine zam rfl rfl (St.store _ _ _ _) rfl rfl ?_) | fail)
 exact bodyPost_ret (v:=.tuple #[zat ((⟨x,hx,pc,mode,⟨s0,s1,s2,s3,s4,s5,s6,s7,s8,s9,s10,s11,s12,s13,s14,s15⟩,held,rat⟩:Hart)),.bool false]) (za8 Tryz.results88 _ _ (W.heap.size+1) _ _ rfl (St.res _ W _ _) rfl) rfl ⟨rfl,St.below _ W _ _⟩
theorem zla (h:Hart) (hm:¬ h.mode<1) (hq:nzV h.c.s0 256=true) (W:World):TB 88 #[zat h] W (.tuple #[zat (zdW h),.bool true]):=by
 obtain ⟨x,hx,pc,mode,⟨s0,s1,s2,s3,s4,s5,s6,s7,s8,s9,s10,s11,s12,s13,s14,s15⟩,held,rat⟩:=h
 have hq2:(bits .and .u64 s0 256 != 0)=true:=hq
 have HQ:Hid (nzV s0 256=true):=hid hq
 clear hq
 go_enter Tryz.func88,Tryz.ntmps88
 go_upto_region 1 with (fail)
 have hst:(W.alloc (zbp (⟨x,hx,pc,mode,⟨s0,s1,s2,s3,s4,s5,s6,s7,s8,s9,s10,s11,s12,s13,s14,s15⟩,held,rat⟩:Hart))).alloc zah=St 0 W (⟨x,hx,pc,mode,⟨s0,s1,s2,s3,s4,s5,s6,s7,s8,s9,s10,s11,s12,s13,s14,s15⟩,held,rat⟩:Hart) zeroC:=rfl
 rw [hst]
 clear hst
 go_wp2_with (first | (with_reducible first | refine zaa rfl rfl St.load_mode rfl ?_ | refine zaa rfl rfl St.load_s0 rfl ?_ | refine zaa rfl rfl St.load_s12 rfl ?_ | refine zam rfl rfl St.store_mode rfl rfl ?_ | refine zam rfl rfl St.store_s0 rfl rfl ?_ | refine zam rfl rfl St.store_pc rfl rfl ?_ | refine zaa rfl rfl (St.load _ _ _ _) rfl ?_ | refine zam rfl rfl (St.store _ _ _ _) rfl rfl ?_) | (go_at_call 94;(with_reducible refine (zeB _ _ _ _).mono ?_);rintro e w' ⟨rfl,rfl⟩) | fail)
 have hE:zdW (⟨x,hx,pc,mode,⟨s0,s1,s2,s3,s4,s5,s6,s7,s8,s9,s10,s11,s12,s13,s14,s15⟩,held,rat⟩:Hart)=(⟨x,hx,s12,1,⟨ze5 s0,s1,s2,s3,s4,s5,s6,s7,s8,s9,s10,s11,s12,s13,s14,s15⟩,held,rat⟩:Hart):=by
  unfold zdW
  rw [show nzV (⟨x,hx,pc,mode,⟨s0,s1,s2,s3,s4,s5,s6,s7,s8,s9,s10,s11,s12,s13,s14,s15⟩,held,rat⟩:Hart).c.s0 256=true from HQ.out]
  rfl
 rw [hE]
 exact bodyPost_ret (v:=.tuple #[zat ((⟨x,hx,s12,1,⟨ze5 s0,s1,s2,s3,s4,s5,s6,s7,s8,s9,s10,s11,s12,s13,s14,s15⟩,held,rat⟩:Hart)),.bool true]) (za8 Tryz.results88 _ _ (W.heap.size+1) _ _ rfl (St.res _ W _ _) rfl) rfl ⟨rfl,St.below _ W _ _⟩
theorem zvG (h:Hart) (hm:¬ h.mode<1) (hq:nzV h.c.s0 256=false) (W:World):TB 88 #[zat h] W (.tuple #[zat (zdW h),.bool true]):=by
 obtain ⟨x,hx,pc,mode,⟨s0,s1,s2,s3,s4,s5,s6,s7,s8,s9,s10,s11,s12,s13,s14,s15⟩,held,rat⟩:=h
 have hq2:(bits .and .u64 s0 256 != 0)=false:=hq
 have HQ:Hid (nzV s0 256=false):=hid hq
 clear hq
 go_enter Tryz.func88,Tryz.ntmps88
 go_upto_region 1 with (fail)
 have hst:(W.alloc (zbp (⟨x,hx,pc,mode,⟨s0,s1,s2,s3,s4,s5,s6,s7,s8,s9,s10,s11,s12,s13,s14,s15⟩,held,rat⟩:Hart))).alloc zah=St 0 W (⟨x,hx,pc,mode,⟨s0,s1,s2,s3,s4,s5,s6,s7,s8,s9,s10,s11,s12,s13,s14,s15⟩,held,rat⟩:Hart) zeroC:=rfl
 rw [hst]
 clear hst
 go_wp2_with (first | (with_reducible first | refine zaa rfl rfl St.load_mode rfl ?_ | refine zaa rfl rfl St.load_s0 rfl ?_ | refine zaa rfl rfl St.load_s12 rfl ?_ | refine zam rfl rfl St.store_mode rfl rfl ?_ | refine zam rfl rfl St.store_s0 rfl rfl ?_ | refine zam rfl rfl St.store_pc rfl rfl ?_ | refine zaa rfl rfl (St.load _ _ _ _) rfl ?_ | refine zam rfl rfl (St.store _ _ _ _) rfl rfl ?_) | (go_at_call 94;(with_reducible refine (zeB _ _ _ _).mono ?_);rintro e w' ⟨rfl,rfl⟩) | fail)
 have hE:zdW (⟨x,hx,pc,mode,⟨s0,s1,s2,s3,s4,s5,s6,s7,s8,s9,s10,s11,s12,s13,s14,s15⟩,held,rat⟩:Hart)=(⟨x,hx,s12,0,⟨ze5 s0,s1,s2,s3,s4,s5,s6,s7,s8,s9,s10,s11,s12,s13,s14,s15⟩,held,rat⟩:Hart):=by
  unfold zdW
  rw [show nzV (⟨x,hx,pc,mode,⟨s0,s1,s2,s3,s4,s5,s6,s7,s8,s9,s10,s11,s12,s13,s14,s15⟩,held,rat⟩:Hart).c.s0 256=false from HQ.out]
  rfl
 rw [hE]
 exact bodyPost_ret (v:=.tuple #[zat ((⟨x,hx,s12,0,⟨ze5 s0,s1,s2,s3,s4,s5,s6,s7,s8,s9,s10,s11,s12,s13,s14,s15⟩,held,rat⟩:Hart)),.bool true]) (za8 Tryz.results88 _ _ (W.heap.size+1) _ _ rfl (St.res _ W _ _) rfl) rfl ⟨rfl,St.below _ W _ _⟩
end Go.Proofs.YtplcfdnfeclpmaaGreatDoor.Tr
