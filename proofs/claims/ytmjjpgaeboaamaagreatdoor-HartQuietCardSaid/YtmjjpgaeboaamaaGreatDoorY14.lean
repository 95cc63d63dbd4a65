/- HartQuiet,part 14. -/
import Derived.StillTailTactics
import Derived.Test.YtmjjpgaeboaamaaGreatDoorY13
set_option maxHeartbeats 4000000
set_option maxRecDepth 100000
open Go.Lib (hid)
namespace Go.Proofs.YtmjjpgaeboaamaaGreatDoor.De
open Go.RowKit Go.Deep Go.Joins
set_option maxRecDepth 100000
theorem via {f w:Nat} {W:World} {i:In} {p q r s t:Int} (h:i=⟨p,q,r,s,t⟩) (hc:TB f #[.int .u32 w] W (.agg #[.int .i64 p,.int .i64 q,.int .i64 r,.int .i64 s,.int .i64 t])):TB f #[.int .u32 w] W (.agg #[.int .i64 (i).op,.int .i64 (i).rd,.int .i64 (i).rs1,.int .i64 (i).rs2,.int .i64 (i).imm]):=by
 rw [h]
 exact hc
theorem bt {n c:Nat} (h:n=c):((n:Int)==(c:Int))=true:=by rw [beq_iff_eq];omega
theorem bf {n c:Nat} (h:¬ n=c):((n:Int)==(c:Int))=false:=by rw [beq_eq_false_iff_ne];omega
def pOwn (w:Nat):In :=
 if cutN w 12 3=1∧cutN w 26 6=0 then ⟨28,(cutN w 7 5:Nat),(cutN w 15 5:Nat),0,(cutN w 20 6:Nat)⟩
 else if cutN w 12 3=5∧cutN w 26 6=0 then ⟨29,(cutN w 7 5:Nat),(cutN w 15 5:Nat),0,(cutN w 20 6:Nat)⟩
 else if cutN w 12 3=5∧cutN w 26 6=16 then ⟨30,(cutN w 7 5:Nat),(cutN w 15 5:Nat),0,(cutN w 20 6:Nat)⟩
 else ⟨row 4 (cutN w 12 3),(cutN w 7 5:Nat),(cutN w 15 5:Nat),0,immI w⟩
theorem znA (w:Nat) (W:World) (hL:Laid W):TB 203 #[.int .u32 w] W (.agg #[.int .i64 (pOwn w).op,.int .i64 (pOwn w).rd,.int .i64 (pOwn w).rs1,.int .i64 (pOwn w).rs2,.int .i64 (pOwn w).imm]):=by
 by_cases h1:cutN w 12 3=1
 ·have h5:¬ cutN w 12 3=5:=by omega
  by_cases t0:cutN w 26 6=0
  ·exact via (by unfold pOwn;rw [if_pos ⟨h1,t0⟩]) (zkR w W (bt h1) (bt t0))
  ·exact via (by unfold pOwn;rw [if_neg (fun h=>t0 h.2),if_neg (fun h=>t0 h.2),if_neg (fun h=>h5 h.1)]) (znC w W hL (bt h1) (bf h5) (bf t0))
 ·by_cases h5:cutN w 12 3=5
  ·by_cases t0:cutN w 26 6=0
   ·exact via (by unfold pOwn;rw [if_neg (fun h=>h1 h.1),if_pos ⟨h5,t0⟩]) (zwX w W (bf h1) (bt h5) (bt t0))
   ·by_cases t1:cutN w 26 6=16
    ·exact via (by unfold pOwn;rw [if_neg (fun h=>h1 h.1),if_neg (fun h=>t0 h.2),if_pos ⟨h5,t1⟩]) (znf w W (bf h1) (bt h5) (bf t0) (bt t1))
    ·exact via (by unfold pOwn;rw [if_neg (fun h=>h1 h.1),if_neg (fun h=>t0 h.2),if_neg (fun h=>t1 h.2)]) (zra w W hL (bf h1) (bt h5) (bf t0) (bf t1))
  ·exact via (by unfold pOwn;rw [if_neg (fun h=>h1 h.1),if_neg (fun h=>h5 h.1),if_neg (fun h=>h5 h.1)]) (zsT w W hL (bf h1) (bf h5))
def zbr (w:Nat):In :=
 if cutN w 12 3=0 then ⟨41,(cutN w 7 5:Nat),(cutN w 15 5:Nat),0,immI w⟩
 else if cutN w 12 3=1∧cutN w 25 7=0 then ⟨42,(cutN w 7 5:Nat),(cutN w 15 5:Nat),0,(cutN w 20 5:Nat)⟩
 else if cutN w 12 3=5∧cutN w 25 7=0 then ⟨43,(cutN w 7 5:Nat),(cutN w 15 5:Nat),0,(cutN w 20 5:Nat)⟩
 else if cutN w 12 3=5∧cutN w 25 7=32 then ⟨44,(cutN w 7 5:Nat),(cutN w 15 5:Nat),0,(cutN w 20 5:Nat)⟩
 else ⟨0,0,0,0,0⟩
theorem zuM (w:Nat) (W:World):TB 204 #[.int .u32 w] W (.agg #[.int .i64 (zbr w).op,.int .i64 (zbr w).rd,.int .i64 (zbr w).rs1,.int .i64 (zbr w).rs2,.int .i64 (zbr w).imm]):=by
 by_cases h0:cutN w 12 3=0
 ·exact via (by unfold zbr;rw [if_pos h0]) (zwv w W (bt h0))
 by_cases h1:cutN w 12 3=1
 ·have h5:¬ cutN w 12 3=5:=by omega
  by_cases t0:cutN w 25 7=0
  ·exact via (by unfold zbr;rw [if_neg h0,if_pos ⟨h1,t0⟩]) (zrX w W (bf h0) (bt h1) (bt t0))
  ·exact via (by unfold zbr;rw [if_neg h0,if_neg (fun h=>t0 h.2),if_neg (fun h=>t0 h.2),if_neg (fun h=>h5 h.1)]) (ztD w W (bf h0) (bt h1) (bf h5) (bf t0))
 ·by_cases h5:cutN w 12 3=5
  ·by_cases t0:cutN w 25 7=0
   ·exact via (by unfold zbr;rw [if_neg h0,if_neg (fun h=>h1 h.1),if_pos ⟨h5,t0⟩]) (zmn w W (bf h0) (bf h1) (bt h5) (bt t0))
   ·by_cases t1:cutN w 25 7=32
    ·exact via (by unfold zbr;rw [if_neg h0,if_neg (fun h=>h1 h.1),if_neg (fun h=>t0 h.2),if_pos ⟨h5,t1⟩]) (zqP w W (bf h0) (bf h1) (bt h5) (bf t0) (bt t1))
    ·exact via (by unfold zbr;rw [if_neg h0,if_neg (fun h=>h1 h.1),if_neg (fun h=>t0 h.2),if_neg (fun h=>t1 h.2)]) (zpN w W (bf h0) (bf h1) (bt h5) (bf t0) (bf t1))
  ·exact via (by unfold zbr;rw [if_neg h0,if_neg (fun h=>h1 h.1),if_neg (fun h=>h5 h.1),if_neg (fun h=>h5 h.1)]) (znL w W (bf h0) (bf h1) (bf h5))
def pSys (w:Nat):In :=
 if ¬ cutN w 12 3=0 then ⟨row 11 (cutN w 12 3),(cutN w 7 5:Nat),(cutN w 15 5:Nat),0,(cutN w 20 12:Nat)⟩
 else if w=115 then ⟨52,0,0,0,0⟩
 else if w=1048691 then ⟨53,0,0,0,0⟩
 else if w=807403635 then ⟨95,0,0,0,0⟩
 else if w=270532723 then ⟨96,0,0,0,0⟩
 else if w=273678451 then ⟨97,0,0,0,0⟩
 else if cutN w 25 7=9∧cutN w 7 5=0 then ⟨98,0,(cutN w 15 5:Nat),(cutN w 20 5:Nat),0⟩
 else ⟨0,0,0,0,0⟩
theorem zj6 (w:Nat) (W:World) (hL:Laid W):TB 209 #[.int .u32 w] W (.agg #[.int .i64 (pSys w).op,.int .i64 (pSys w).rd,.int .i64 (pSys w).rs1,.int .i64 (pSys w).rs2,.int .i64 (pSys w).imm]):=by
 by_cases h0:cutN w 12 3=0
 ·have b0:(((cutN w 12 3:Nat):Int) != (0:Int))=false:=by rw [bne_eq_false_iff_eq];omega
  have h00:¬ ¬ cutN w 12 3=0:=fun h=>h h0
  by_cases e0:w=115
  ·exact via (by unfold pSys;rw [if_neg h00,if_pos e0]) (zva w W b0 (bt e0))
  by_cases e1:w=1048691
  ·exact via (by unfold pSys;rw [if_neg h00,if_neg e0,if_pos e1]) (zsW w W b0 (bf e0) (bt e1))
  by_cases e2:w=807403635
  ·exact via (by unfold pSys;rw [if_neg h00,if_neg e0,if_neg e1,if_pos e2]) (zqN w W b0 (bf e0) (bf e1) (bt e2))
  by_cases e3:w=270532723
  ·exact via (by unfold pSys;rw [if_neg h00,if_neg e0,if_neg e1,if_neg e2,if_pos e3]) (zkU w W b0 (bf e0) (bf e1) (bf e2) (bt e3))
  by_cases e4:w=273678451
  ·exact via (by unfold pSys;rw [if_neg h00,if_neg e0,if_neg e1,if_neg e2,if_neg e3,if_pos e4]) (zk4 w W b0 (bf e0) (bf e1) (bf e2) (bf e3) (bt e4))
  by_cases t9:cutN w 25 7=9
  ·by_cases d0:cutN w 7 5=0
   ·exact via (by unfold pSys;rw [if_neg h00,if_neg e0,if_neg e1,if_neg e2,if_neg e3,if_neg e4,if_pos ⟨t9,d0⟩]) (zv9 w W b0 (bf e0) (bf e1) (bf e2) (bf e3) (bf e4) (bt t9) (bt d0))
   ·exact via (by unfold pSys;rw [if_neg h00,if_neg e0,if_neg e1,if_neg e2,if_neg e3,if_neg e4,if_neg (fun h=>d0 h.2)]) (znv w W b0 (bf e0) (bf e1) (bf e2) (bf e3) (bf e4) (bt t9) (bf d0))
  ·exact via (by unfold pSys;rw [if_neg h00,if_neg e0,if_neg e1,if_neg e2,if_neg e3,if_neg e4,if_neg (fun h=>t9 h.1)]) (zlC w W b0 (bf e0) (bf e1) (bf e2) (bf e3) (bf e4) (bf t9))
 ·exact via (by unfold pSys;rw [if_pos h0]) (zuQ w W hL (by rw [bne_iff_ne];omega))
end Go.Proofs.YtmjjpgaeboaamaaGreatDoor.De
namespace Go.Proofs.YtmjjpgaeboaamaaGreatDoor.De
open Go.RowKit Go.Deep Go.Joins
set_option maxRecDepth 100000
theorem znV (w:Nat) (W:World)  (g0:(((cutN w 0 7:Nat):Int)==(55:Int))=true)  :
  TB 142 #[.int .u32 w] W (.agg #[.int .i64 1,.int .i64 (cutN w 7 5:Nat),.int .i64 0,.int .i64 0,.int .i64 (immU w)]):=by
 have l12_3:=zbR w
 have l0_7:=zcr w
 go_enter Tryz.func142,Tryz.ntmps142
 go_wp2_with (first | (go_at_call 194;(first | (with_reducible first | refine (zaP w _).mono ?_ | refine (zcn w _).mono ?_) | fail);rintro e w' ⟨rfl,rfl⟩) | (go_at_call 196;(first | (with_reducible refine (zhy w _).mono ?_) | fail);rintro e w' ⟨rfl,rfl⟩) | (go_at_call 195;(with_reducible refine (zhg w _ _ _).mono ?_);rintro e w1 ⟨rfl,hb1⟩;obtain ⟨hc1,hf1⟩:=za2 hb1) | fail)
 refine bodyPost_ret (v:=.agg #[.int .i64 1,.int .i64 (cutN w 7 5:Nat),.int .i64 0,.int .i64 0,.int .i64 (immU w)]) (by simp [results,Tryz.results142,go_sem,hc1]) rfl ?_
 exact ⟨rfl,fin5 hb1 _ _ _ _ _⟩
theorem zsv (w:Nat) (W:World)  (g0:(((cutN w 0 7:Nat):Int)==(55:Int))=false) (g1:(((cutN w 0 7:Nat):Int)==(23:Int))=true)  :
  TB 142 #[.int .u32 w] W (.agg #[.int .i64 2,.int .i64 (cutN w 7 5:Nat),.int .i64 0,.int .i64 0,.int .i64 (immU w)]):=by
 have l12_3:=zbR w
 have l0_7:=zcr w
 go_enter Tryz.func142,Tryz.ntmps142
 go_wp2_with (first | (go_at_call 194;(first | (with_reducible first | refine (zaP w _).mono ?_ | refine (zcn w _).mono ?_) | fail);rintro e w' ⟨rfl,rfl⟩) | (go_at_call 196;(first | (with_reducible refine (zhy w _).mono ?_) | fail);rintro e w' ⟨rfl,rfl⟩) | (go_at_call 195;(with_reducible refine (zhg w _ _ _).mono ?_);rintro e w1 ⟨rfl,hb1⟩;obtain ⟨hc1,hf1⟩:=za2 hb1) | fail)
 refine bodyPost_ret (v:=.agg #[.int .i64 2,.int .i64 (cutN w 7 5:Nat),.int .i64 0,.int .i64 0,.int .i64 (immU w)]) (by simp [results,Tryz.results142,go_sem,hc1]) rfl ?_
 exact ⟨rfl,fin5 hb1 _ _ _ _ _⟩
theorem zvO (w:Nat) (W:World)  (g0:(((cutN w 0 7:Nat):Int)==(55:Int))=false) (g1:(((cutN w 0 7:Nat):Int)==(23:Int))=false) (g2:(((cutN w 0 7:Nat):Int)==(111:Int))=true)  :
  TB 142 #[.int .u32 w] W (.agg #[.int .i64 3,.int .i64 (cutN w 7 5:Nat),.int .i64 0,.int .i64 0,.int .i64 (immJ w)]):=by
 have l12_3:=zbR w
 have l0_7:=zcr w
 go_enter Tryz.func142,Tryz.ntmps142
 go_wp2_with (first | (go_at_call 194;(first | (with_reducible first | refine (zaP w _).mono ?_ | refine (zcn w _).mono ?_) | fail);rintro e w' ⟨rfl,rfl⟩) | (go_at_call 197;(first | (with_reducible refine (zxc w _).mono ?_) | fail);rintro e w' ⟨rfl,rfl⟩) | (go_at_call 195;(with_reducible refine (zhg w _ _ _).mono ?_);rintro e w1 ⟨rfl,hb1⟩;obtain ⟨hc1,hf1⟩:=za2 hb1) | fail)
 refine bodyPost_ret (v:=.agg #[.int .i64 3,.int .i64 (cutN w 7 5:Nat),.int .i64 0,.int .i64 0,.int .i64 (immJ w)]) (by simp [results,Tryz.results142,go_sem,hc1]) rfl ?_
 exact ⟨rfl,fin5 hb1 _ _ _ _ _⟩
theorem zuE (w:Nat) (W:World)  (g0:(((cutN w 0 7:Nat):Int)==(55:Int))=false) (g1:(((cutN w 0 7:Nat):Int)==(23:Int))=false) (g2:(((cutN w 0 7:Nat):Int)==(111:Int))=false) (g3:(((cutN w 0 7:Nat):Int)==(103:Int))=true) (g4:(((cutN w 12 3:Nat):Int)==(0:Int))=true)  :
  TB 142 #[.int .u32 w] W (.agg #[.int .i64 4,.int .i64 (cutN w 7 5:Nat),.int .i64 (cutN w 15 5:Nat),.int .i64 0,.int .i64 (immI w)]):=by
 have l12_3:=zbR w
 have l0_7:=zcr w
 go_enter Tryz.func142,Tryz.ntmps142
 go_wp2_with (first | (go_at_call 194;(first | (with_reducible first | refine (zaP w _).mono ?_ | refine (zcn w _).mono ?_) | fail);rintro e w' ⟨rfl,rfl⟩) | (go_at_call 199;(first | (with_reducible refine (zeU w _).mono ?_) | fail);rintro e w' ⟨rfl,rfl⟩) | (go_at_call 198;(with_reducible refine (zbH w _ _ _).mono ?_);rintro e w1 ⟨rfl,hb1⟩;obtain ⟨hc1,hf1⟩:=za2 hb1) | fail)
 refine bodyPost_ret (v:=.agg #[.int .i64 4,.int .i64 (cutN w 7 5:Nat),.int .i64 (cutN w 15 5:Nat),.int .i64 0,.int .i64 (immI w)]) (by simp [results,Tryz.results142,go_sem,hc1]) rfl ?_
 exact ⟨rfl,fin5 hb1 _ _ _ _ _⟩
theorem zwo (w:Nat) (W:World)  (g0:(((cutN w 0 7:Nat):Int)==(55:Int))=false) (g1:(((cutN w 0 7:Nat):Int)==(23:Int))=false) (g2:(((cutN w 0 7:Nat):Int)==(111:Int))=false) (g3:(((cutN w 0 7:Nat):Int)==(103:Int))=true) (g4:(((cutN w 12 3:Nat):Int)==(0:Int))=false)  :
  TB 142 #[.int .u32 w] W (.agg #[.int .i64 0,.int .i64 0,.int .i64 0,.int .i64 0,.int .i64 0]):=by
 have l12_3:=zbR w
 have l0_7:=zcr w
 go_enter Tryz.func142,Tryz.ntmps142
 go_wp2_with (first | (go_at_call 194;(first | (with_reducible first | refine (zaP w _).mono ?_ | refine (zcn w _).mono ?_) | fail);rintro e w' ⟨rfl,rfl⟩) | fail)
 go_returns
 exact ⟨rfl,zaf W _⟩
theorem zqD (w:Nat) (W:World) (hL:Laid W) (g0:(((cutN w 0 7:Nat):Int)==(55:Int))=false) (g1:(((cutN w 0 7:Nat):Int)==(23:Int))=false) (g2:(((cutN w 0 7:Nat):Int)==(111:Int))=false) (g3:(((cutN w 0 7:Nat):Int)==(103:Int))=false) (g4:(((cutN w 0 7:Nat):Int)==(99:Int))=true)  :
  TB 142 #[.int .u32 w] W (.agg #[.int .i64 (row 0 (cutN w 12 3)),.int .i64 0,.int .i64 (cutN w 15 5:Nat),.int .i64 (cutN w 20 5:Nat),.int .i64 (immB w)]):=by
 have h3:=zbR w
 have hc0:=hL.2 0 _ (by omega) h3
 have i0:(0:Int)≤(cutN w 12 3:Nat):=by omega
 have i1:((cutN w 12 3:Nat):Int)<8:=by omega
 have h12:=hL.1
 clear hL
 have l0_7:=zcr w
 go_enter Tryz.func142,Tryz.ntmps142
 go_wp2_with (first | (go_at_call 194;(first | (with_reducible first | refine (zaP w _).mono ?_ | refine (zcn w _).mono ?_) | fail);rintro e w' ⟨rfl,rfl⟩) | fail)
 have HF0:=hid (zdG W)
 generalize W.alloc (.cells #[.int .i64 0,.int .i64 0,.int .i64 0,.int .i64 0,.int .i64 0] 92)=w0 at HF0 ⊢
 refine wp_region_still_tail 6 (by kernel_rfl) (by kernel_rfl) ?_
 simp only [List.take_succ_cons,List.take_zero,List.drop_succ_cons,List.drop_zero]
 have HF:=hid HF0.out.drew
 generalize { w0 with drawn:=w0.drawn+1 }=w2 at HF ⊢
 obtain ⟨c0,c1,c2,c3,c4⟩:=And.intro HF.out.c0 (And.intro HF.out.c1 (And.intro HF.out.c2 (And.intro HF.out.c3 HF.out.c4)))
 have ff:=HF.out.f
 have ll:=HF.out.lt
 have hc5:=(HF.out.b.cell (p:=⟨0,cutN w 12 3,none⟩) (by show 0<_;omega)).trans hc0
 repeat still_step
 still_call ((zlE w _).mono fun _ _ h=>⟨h.1,h.2.symm⟩)
 repeat still_step
 refine wpStill_nil ?_
 go_wp2_with (first | (go_at_call 200;(with_reducible refine (zgy w _ _ _).mono ?_);rintro e w1 ⟨rfl,hb1⟩;obtain ⟨hc1,hf1⟩:=za2 hb1) | fail)
 refine bodyPost_ret (v:=.agg #[.int .i64 (row 0 (cutN w 12 3)),.int .i64 0,.int .i64 (cutN w 15 5:Nat),.int .i64 (cutN w 20 5:Nat),.int .i64 (immB w)]) (by simp [results,Tryz.results142,go_sem,hc1,ll,c0,c1,c2,c3,c4]) rfl ?_
 exact ⟨rfl,zea HF.out hb1 _ _ _ _ _⟩
theorem ztQ (w:Nat) (W:World) (hL:Laid W) (g0:(((cutN w 0 7:Nat):Int)==(55:Int))=false) (g1:(((cutN w 0 7:Nat):Int)==(23:Int))=false) (g2:(((cutN w 0 7:Nat):Int)==(111:Int))=false) (g3:(((cutN w 0 7:Nat):Int)==(103:Int))=false) (g4:(((cutN w 0 7:Nat):Int)==(99:Int))=false) (g5:(((cutN w 0 7:Nat):Int)==(3:Int))=true)  :
  TB 142 #[.int .u32 w] W (.agg #[.int .i64 (row 1 (cutN w 12 3)),.int .i64 (cutN w 7 5:Nat),.int .i64 (cutN w 15 5:Nat),.int .i64 0,.int .i64 (immI w)]):=by
 have h3:=zbR w
 have hc0:=hL.2 1 _ (by omega) h3
 have i0:(0:Int)≤(cutN w 12 3:Nat):=by omega
 have i1:((cutN w 12 3:Nat):Int)<8:=by omega
 have h12:=hL.1
 clear hL
 have l0_7:=zcr w
 go_enter Tryz.func142,Tryz.ntmps142
 go_wp2_with (first | (go_at_call 194;(first | (with_reducible first | refine (zaP w _).mono ?_ | refine (zcn w _).mono ?_) | fail);rintro e w' ⟨rfl,rfl⟩) | fail)
 have HF0:=hid (zdG W)
 generalize W.alloc (.cells #[.int .i64 0,.int .i64 0,.int .i64 0,.int .i64 0,.int .i64 0] 92)=w0 at HF0 ⊢
 refine wp_region_still_tail 6 (by kernel_rfl) (by kernel_rfl) ?_
 simp only [List.take_succ_cons,List.take_zero,List.drop_succ_cons,List.drop_zero]
 have HF:=hid HF0.out.drew
 generalize { w0 with drawn:=w0.drawn+1 }=w2 at HF ⊢
 obtain ⟨c0,c1,c2,c3,c4⟩:=And.intro HF.out.c0 (And.intro HF.out.c1 (And.intro HF.out.c2 (And.intro HF.out.c3 HF.out.c4)))
 have ff:=HF.out.f
 have ll:=HF.out.lt
 have hc5:=(HF.out.b.cell (p:=⟨1,cutN w 12 3,none⟩) (by show 1<_;omega)).trans hc0
 repeat still_step
 still_call ((zeU w _).mono fun _ _ h=>⟨h.1,h.2.symm⟩)
 repeat still_step
 refine wpStill_nil ?_
 go_wp2_with (first | (go_at_call 198;(with_reducible refine (zbH w _ _ _).mono ?_);rintro e w1 ⟨rfl,hb1⟩;obtain ⟨hc1,hf1⟩:=za2 hb1) | fail)
 refine bodyPost_ret (v:=.agg #[.int .i64 (row 1 (cutN w 12 3)),.int .i64 (cutN w 7 5:Nat),.int .i64 (cutN w 15 5:Nat),.int .i64 0,.int .i64 (immI w)]) (by simp [results,Tryz.results142,go_sem,hc1,ll,c0,c1,c2,c3,c4]) rfl ?_
 exact ⟨rfl,zea HF.out hb1 _ _ _ _ _⟩
theorem zo9 (w:Nat) (W:World) (hL:Laid W) (g0:(((cutN w 0 7:Nat):Int)==(55:Int))=false) (g1:(((cutN w 0 7:Nat):Int)==(23:Int))=false) (g2:(((cutN w 0 7:Nat):Int)==(111:Int))=false) (g3:(((cutN w 0 7:Nat):Int)==(103:Int))=false) (g4:(((cutN w 0 7:Nat):Int)==(99:Int))=false) (g5:(((cutN w 0 7:Nat):Int)==(3:Int))=false) (g6:(((cutN w 0 7:Nat):Int)==(35:Int))=true)  :
  TB 142 #[.int .u32 w] W (.agg #[.int .i64 (row 2 (cutN w 12 3)),.int .i64 0,.int .i64 (cutN w 15 5:Nat),.int .i64 (cutN w 20 5:Nat),.int .i64 (immS w)]):=by
 have h3:=zbR w
 have hc0:=hL.2 2 _ (by omega) h3
 have i0:(0:Int)≤(cutN w 12 3:Nat):=by omega
 have i1:((cutN w 12 3:Nat):Int)<8:=by omega
 have h12:=hL.1
 clear hL
 have l0_7:=zcr w
 go_enter Tryz.func142,Tryz.ntmps142
 go_wp2_with (first | (go_at_call 194;(first | (with_reducible first | refine (zaP w _).mono ?_ | refine (zcn w _).mono ?_) | fail);rintro e w' ⟨rfl,rfl⟩) | fail)
 have HF0:=hid (zdG W)
 generalize W.alloc (.cells #[.int .i64 0,.int .i64 0,.int .i64 0,.int .i64 0,.int .i64 0] 92)=w0 at HF0 ⊢
 refine wp_region_still_tail 6 (by kernel_rfl) (by kernel_rfl) ?_
 simp only [List.take_succ_cons,List.take_zero,List.drop_succ_cons,List.drop_zero]
 have HF:=hid HF0.out.drew
 generalize { w0 with drawn:=w0.drawn+1 }=w2 at HF ⊢
 obtain ⟨c0,c1,c2,c3,c4⟩:=And.intro HF.out.c0 (And.intro HF.out.c1 (And.intro HF.out.c2 (And.intro HF.out.c3 HF.out.c4)))
 have ff:=HF.out.f
 have ll:=HF.out.lt
 have hc5:=(HF.out.b.cell (p:=⟨2,cutN w 12 3,none⟩) (by show 2<_;omega)).trans hc0
 repeat still_step
 still_call ((zsX w _).mono fun _ _ h=>⟨h.1,h.2.symm⟩)
 repeat still_step
 refine wpStill_nil ?_
 go_wp2_with (first | (go_at_call 200;(with_reducible refine (zgy w _ _ _).mono ?_);rintro e w1 ⟨rfl,hb1⟩;obtain ⟨hc1,hf1⟩:=za2 hb1) | fail)
 refine bodyPost_ret (v:=.agg #[.int .i64 (row 2 (cutN w 12 3)),.int .i64 0,.int .i64 (cutN w 15 5:Nat),.int .i64 (cutN w 20 5:Nat),.int .i64 (immS w)]) (by simp [results,Tryz.results142,go_sem,hc1,ll,c0,c1,c2,c3,c4]) rfl ?_
 exact ⟨rfl,zea HF.out hb1 _ _ _ _ _⟩
theorem zly (w:Nat) (W:World)  (g0:(((cutN w 0 7:Nat):Int)==(55:Int))=false) (g1:(((cutN w 0 7:Nat):Int)==(23:Int))=false) (g2:(((cutN w 0 7:Nat):Int)==(111:Int))=false) (g3:(((cutN w 0 7:Nat):Int)==(103:Int))=false) (g4:(((cutN w 0 7:Nat):Int)==(99:Int))=false) (g5:(((cutN w 0 7:Nat):Int)==(3:Int))=false) (g6:(((cutN w 0 7:Nat):Int)==(35:Int))=false) (g7:(((cutN w 0 7:Nat):Int)==(19:Int))=true) (hL:Laid W) :
  TB 142 #[.int .u32 w] W (.agg #[.int .i64 (pOwn w).op,.int .i64 (pOwn w).rd,.int .i64 (pOwn w).rs1,.int .i64 (pOwn w).rs2,.int .i64 (pOwn w).imm]):=by
 have HL:=hid (fun o=>hL.below (zaf W o))
 clear hL
 have l12_3:=zbR w
 have l0_7:=zcr w
 go_enter Tryz.func142,Tryz.ntmps142
 go_wp2_with (first | (go_at_call 194;(first | (with_reducible first | refine (zaP w _).mono ?_ | refine (zcn w _).mono ?_) | fail);rintro e w' ⟨rfl,rfl⟩) | (go_at_call 203;(with_reducible refine (znA w _ (HL.out _)).mono ?_);rintro e w1 ⟨rfl,hb1⟩;obtain ⟨hc1,hf1⟩:=za2 hb1) | fail)
 refine bodyPost_ret (v:=.agg #[.int .i64 (pOwn w).op,.int .i64 (pOwn w).rd,.int .i64 (pOwn w).rs1,.int .i64 (pOwn w).rs2,.int .i64 (pOwn w).imm]) (by simp [results,Tryz.results142,go_sem,hc1]) rfl ?_
 exact ⟨rfl,fin5 hb1 _ _ _ _ _⟩
theorem zvz (w:Nat) (W:World)  (g0:(((cutN w 0 7:Nat):Int)==(55:Int))=false) (g1:(((cutN w 0 7:Nat):Int)==(23:Int))=false) (g2:(((cutN w 0 7:Nat):Int)==(111:Int))=false) (g3:(((cutN w 0 7:Nat):Int)==(103:Int))=false) (g4:(((cutN w 0 7:Nat):Int)==(99:Int))=false) (g5:(((cutN w 0 7:Nat):Int)==(3:Int))=false) (g6:(((cutN w 0 7:Nat):Int)==(35:Int))=false) (g7:(((cutN w 0 7:Nat):Int)==(19:Int))=false) (g8:(((cutN w 0 7:Nat):Int)==(27:Int))=true)  :
  TB 142 #[.int .u32 w] W (.agg #[.int .i64 (zbr w).op,.int .i64 (zbr w).rd,.int .i64 (zbr w).rs1,.int .i64 (zbr w).rs2,.int .i64 (zbr w).imm]):=by
 have l12_3:=zbR w
 have l0_7:=zcr w
 go_enter Tryz.func142,Tryz.ntmps142
 go_wp2_with (first | (go_at_call 194;(first | (with_reducible first | refine (zaP w _).mono ?_ | refine (zcn w _).mono ?_) | fail);rintro e w' ⟨rfl,rfl⟩) | (go_at_call 204;(with_reducible refine (zuM w _).mono ?_);rintro e w1 ⟨rfl,hb1⟩;obtain ⟨hc1,hf1⟩:=za2 hb1) | fail)
 refine bodyPost_ret (v:=.agg #[.int .i64 (zbr w).op,.int .i64 (zbr w).rd,.int .i64 (zbr w).rs1,.int .i64 (zbr w).rs2,.int .i64 (zbr w).imm]) (by simp [results,Tryz.results142,go_sem,hc1]) rfl ?_
 exact ⟨rfl,fin5 hb1 _ _ _ _ _⟩
theorem zqY (w:Nat) (W:World)  (g0:(((cutN w 0 7:Nat):Int)==(55:Int))=false) (g1:(((cutN w 0 7:Nat):Int)==(23:Int))=false) (g2:(((cutN w 0 7:Nat):Int)==(111:Int))=false) (g3:(((cutN w 0 7:Nat):Int)==(103:Int))=false) (g4:(((cutN w 0 7:Nat):Int)==(99:Int))=false) (g5:(((cutN w 0 7:Nat):Int)==(3:Int))=false) (g6:(((cutN w 0 7:Nat):Int)==(35:Int))=false) (g7:(((cutN w 0 7:Nat):Int)==(19:Int))=false) (g8:(((cutN w 0 7:Nat):Int)==(27:Int))=false) (g9:(((cutN w 0 7:Nat):Int)==(51:Int))=true) (hL:Laid W) :
  TB 142 #[.int .u32 w] W (.agg #[.int .i64 (op33 (cutN w 12 3) (cutN w 25 7)),.int .i64 (cutN w 7 5:Nat),.int .i64 (cutN w 15 5:Nat),.int .i64 (cutN w 20 5:Nat),.int .i64 0]):=by
 have HL:=hid (fun o=>hL.below (zaf W o))
 clear hL
 have l12_3:=zbR w
 have l0_7:=zcr w
 go_enter Tryz.func142,Tryz.ntmps142
 go_wp2_with (first | (go_at_call 194;(first | (with_reducible first | refine (zaP w _).mono ?_ | refine (zcn w _).mono ?_) | fail);rintro e w' ⟨rfl,rfl⟩) | (go_at_call 206;(first | (with_reducible refine (zg9 w _ (HL.out _)).mono ?_) | fail);rintro e w' ⟨rfl,rfl⟩) | (go_at_call 205;(with_reducible refine (zcS w _ _).mono ?_);rintro e w1 ⟨rfl,hb1⟩;obtain ⟨hc1,hf1⟩:=za2 hb1) | fail)
 refine bodyPost_ret (v:=.agg #[.int .i64 (op33 (cutN w 12 3) (cutN w 25 7)),.int .i64 (cutN w 7 5:Nat),.int .i64 (cutN w 15 5:Nat),.int .i64 (cutN w 20 5:Nat),.int .i64 0]) (by simp [results,Tryz.results142,go_sem,hc1]) rfl ?_
 exact ⟨rfl,fin5 hb1 _ _ _ _ _⟩
theorem znD (w:Nat) (W:World)  (g0:(((cutN w 0 7:Nat):Int)==(55:Int))=false) (g1:(((cutN w 0 7:Nat):Int)==(23:Int))=false) (g2:(((cutN w 0 7:Nat):Int)==(111:Int))=false) (g3:(((cutN w 0 7:Nat):Int)==(103:Int))=false) (g4:(((cutN w 0 7:Nat):Int)==(99:Int))=false) (g5:(((cutN w 0 7:Nat):Int)==(3:Int))=false) (g6:(((cutN w 0 7:Nat):Int)==(35:Int))=false) (g7:(((cutN w 0 7:Nat):Int)==(19:Int))=false) (g8:(((cutN w 0 7:Nat):Int)==(27:Int))=false) (g9:(((cutN w 0 7:Nat):Int)==(51:Int))=false) (g10:(((cutN w 0 7:Nat):Int)==(59:Int))=true) (hL:Laid W) :
  TB 142 #[.int .u32 w] W (.agg #[.int .i64 (op3b (cutN w 12 3) (cutN w 25 7)),.int .i64 (cutN w 7 5:Nat),.int .i64 (cutN w 15 5:Nat),.int .i64 (cutN w 20 5:Nat),.int .i64 0]):=by
 have HL:=hid (fun o=>hL.below (zaf W o))
 clear hL
 have l12_3:=zbR w
 have l0_7:=zcr w
 go_enter Tryz.func142,Tryz.ntmps142
 go_wp2_with (first | (go_at_call 194;(first | (with_reducible first | refine (zaP w _).mono ?_ | refine (zcn w _).mono ?_) | fail);rintro e w' ⟨rfl,rfl⟩) | (go_at_call 207;(first | (with_reducible refine (zni w _ (HL.out _)).mono ?_) | fail);rintro e w' ⟨rfl,rfl⟩) | (go_at_call 205;(with_reducible refine (zcS w _ _).mono ?_);rintro e w1 ⟨rfl,hb1⟩;obtain ⟨hc1,hf1⟩:=za2 hb1) | fail)
 refine bodyPost_ret (v:=.agg #[.int .i64 (op3b (cutN w 12 3) (cutN w 25 7)),.int .i64 (cutN w 7 5:Nat),.int .i64 (cutN w 15 5:Nat),.int .i64 (cutN w 20 5:Nat),.int .i64 0]) (by simp [results,Tryz.results142,go_sem,hc1]) rfl ?_
 exact ⟨rfl,fin5 hb1 _ _ _ _ _⟩
theorem zt3 (w:Nat) (W:World)  (g0:(((cutN w 0 7:Nat):Int)==(55:Int))=false) (g1:(((cutN w 0 7:Nat):Int)==(23:Int))=false) (g2:(((cutN w 0 7:Nat):Int)==(111:Int))=false) (g3:(((cutN w 0 7:Nat):Int)==(103:Int))=false) (g4:(((cutN w 0 7:Nat):Int)==(99:Int))=false) (g5:(((cutN w 0 7:Nat):Int)==(3:Int))=false) (g6:(((cutN w 0 7:Nat):Int)==(35:Int))=false) (g7:(((cutN w 0 7:Nat):Int)==(19:Int))=false) (g8:(((cutN w 0 7:Nat):Int)==(27:Int))=false) (g9:(((cutN w 0 7:Nat):Int)==(51:Int))=false) (g10:(((cutN w 0 7:Nat):Int)==(59:Int))=false) (g11:(((cutN w 0 7:Nat):Int)==(15:Int))=true) (hL:Laid W) :
  TB 142 #[.int .u32 w] W (.agg #[.int .i64 (row 3 (cutN w 12 3)),.int .i64 0,.int .i64 0,.int .i64 0,.int .i64 0]):=by
 have h12:=hL.1
 have hc0:=fun o=>(hL.below (zaf W o)).2 3 _ (by omega) (zbR w)
 clear hL
 have l12_3:=zbR w
 have l0_7:=zcr w
 go_enter Tryz.func142,Tryz.ntmps142
 go_wp2_with (first | (go_at_call 194;(first | (with_reducible first | refine (zaP w _).mono ?_ | refine (zcn w _).mono ?_) | fail);rintro e w' ⟨rfl,rfl⟩) | fail)
 go_returns
 exact ⟨rfl,zaf W _⟩
theorem zuG (w:Nat) (W:World)  (g0:(((cutN w 0 7:Nat):Int)==(55:Int))=false) (g1:(((cutN w 0 7:Nat):Int)==(23:Int))=false) (g2:(((cutN w 0 7:Nat):Int)==(111:Int))=false) (g3:(((cutN w 0 7:Nat):Int)==(103:Int))=false) (g4:(((cutN w 0 7:Nat):Int)==(99:Int))=false) (g5:(((cutN w 0 7:Nat):Int)==(3:Int))=false) (g6:(((cutN w 0 7:Nat):Int)==(35:Int))=false) (g7:(((cutN w 0 7:Nat):Int)==(19:Int))=false) (g8:(((cutN w 0 7:Nat):Int)==(27:Int))=false) (g9:(((cutN w 0 7:Nat):Int)==(51:Int))=false) (g10:(((cutN w 0 7:Nat):Int)==(59:Int))=false) (g11:(((cutN w 0 7:Nat):Int)==(15:Int))=false) (g12:(((cutN w 0 7:Nat):Int)==(47:Int))=true)  :
  TB 142 #[.int .u32 w] W (.agg #[.int .i64 (za1 w).op,.int .i64 (za1 w).rd,.int .i64 (za1 w).rs1,.int .i64 (za1 w).rs2,.int .i64 (za1 w).imm]):=by
 have l12_3:=zbR w
 have l0_7:=zcr w
 go_enter Tryz.func142,Tryz.ntmps142
 go_wp2_with (first | (go_at_call 194;(first | (with_reducible first | refine (zaP w _).mono ?_ | refine (zcn w _).mono ?_) | fail);rintro e w' ⟨rfl,rfl⟩) | (go_at_call 208;(with_reducible refine (zsd w _).mono ?_);rintro e w1 ⟨rfl,hb1⟩;obtain ⟨hc1,hf1⟩:=za2 hb1) | fail)
 refine bodyPost_ret (v:=.agg #[.int .i64 (za1 w).op,.int .i64 (za1 w).rd,.int .i64 (za1 w).rs1,.int .i64 (za1 w).rs2,.int .i64 (za1 w).imm]) (by simp [results,Tryz.results142,go_sem,hc1]) rfl ?_
 exact ⟨rfl,fin5 hb1 _ _ _ _ _⟩
theorem ztt (w:Nat) (W:World)  (g0:(((cutN w 0 7:Nat):Int)==(55:Int))=false) (g1:(((cutN w 0 7:Nat):Int)==(23:Int))=false) (g2:(((cutN w 0 7:Nat):Int)==(111:Int))=false) (g3:(((cutN w 0 7:Nat):Int)==(103:Int))=false) (g4:(((cutN w 0 7:Nat):Int)==(99:Int))=false) (g5:(((cutN w 0 7:Nat):Int)==(3:Int))=false) (g6:(((cutN w 0 7:Nat):Int)==(35:Int))=false) (g7:(((cutN w 0 7:Nat):Int)==(19:Int))=false) (g8:(((cutN w 0 7:Nat):Int)==(27:Int))=false) (g9:(((cutN w 0 7:Nat):Int)==(51:Int))=false) (g10:(((cutN w 0 7:Nat):Int)==(59:Int))=false) (g11:(((cutN w 0 7:Nat):Int)==(15:Int))=false) (g12:(((cutN w 0 7:Nat):Int)==(47:Int))=false) (g13:(((cutN w 0 7:Nat):Int)==(115:Int))=true) (hL:Laid W) :
  TB 142 #[.int .u32 w] W (.agg #[.int .i64 (pSys w).op,.int .i64 (pSys w).rd,.int .i64 (pSys w).rs1,.int .i64 (pSys w).rs2,.int .i64 (pSys w).imm]):=by
 have HL:=hid (fun o=>hL.below (zaf W o))
 clear hL
 have l12_3:=zbR w
 have l0_7:=zcr w
 go_enter Tryz.func142,Tryz.ntmps142
 go_wp2_with (first | (go_at_call 194;(first | (with_reducible first | refine (zaP w _).mono ?_ | refine (zcn w _).mono ?_) | fail);rintro e w' ⟨rfl,rfl⟩) | (go_at_call 209;(with_reducible refine (zj6 w _ (HL.out _)).mono ?_);rintro e w1 ⟨rfl,hb1⟩;obtain ⟨hc1,hf1⟩:=za2 hb1) | fail)
 refine bodyPost_ret (v:=.agg #[.int .i64 (pSys w).op,.int .i64 (pSys w).rd,.int .i64 (pSys w).rs1,.int .i64 (pSys w).rs2,.int .i64 (pSys w).imm]) (by simp [results,Tryz.results142,go_sem,hc1]) rfl ?_
 exact ⟨rfl,fin5 hb1 _ _ _ _ _⟩
theorem znc (w:Nat) (W:World)  (g0:(((cutN w 0 7:Nat):Int)==(55:Int))=false) (g1:(((cutN w 0 7:Nat):Int)==(23:Int))=false) (g2:(((cutN w 0 7:Nat):Int)==(111:Int))=false) (g3:(((cutN w 0 7:Nat):Int)==(103:Int))=false) (g4:(((cutN w 0 7:Nat):Int)==(99:Int))=false) (g5:(((cutN w 0 7:Nat):Int)==(3:Int))=false) (g6:(((cutN w 0 7:Nat):Int)==(35:Int))=false) (g7:(((cutN w 0 7:Nat):Int)==(19:Int))=false) (g8:(((cutN w 0 7:Nat):Int)==(27:Int))=false) (g9:(((cutN w 0 7:Nat):Int)==(51:Int))=false) (g10:(((cutN w 0 7:Nat):Int)==(59:Int))=false) (g11:(((cutN w 0 7:Nat):Int)==(15:Int))=false) (g12:(((cutN w 0 7:Nat):Int)==(47:Int))=false) (g13:(((cutN w 0 7:Nat):Int)==(115:Int))=false)  :
  TB 142 #[.int .u32 w] W (.agg #[.int .i64 0,.int .i64 0,.int .i64 0,.int .i64 0,.int .i64 0]):=by
 have l12_3:=zbR w
 have l0_7:=zcr w
 go_enter Tryz.func142,Tryz.ntmps142
 go_wp2_with (first | (go_at_call 194;(first | (with_reducible first | refine (zaP w _).mono ?_ | refine (zcn w _).mono ?_) | fail);rintro e w' ⟨rfl,rfl⟩) | fail)
 go_returns
 exact ⟨rfl,zaf W _⟩
end Go.Proofs.YtmjjpgaeboaamaaGreatDoor.De
