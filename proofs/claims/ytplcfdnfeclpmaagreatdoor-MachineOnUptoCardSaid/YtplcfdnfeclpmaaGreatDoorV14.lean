/- MachineOn, part 14. -/
import Derived.StillTailTactics
import Derived.Test.YtplcfdnfeclpmaaGreatDoorV13
set_option maxHeartbeats 4000000
set_option maxRecDepth 100000
open Go.Lib (hid)
open Go Go.RowKit Go.Deep Go.Joins Go.Proofs.Tryz
namespace Go.Proofs.YtplcfdnfeclpmaaGreatDoor.De
theorem via {f w:Nat} {W:World} {i:In} {p q r s t:Int} (h:i=⟨p,q,r,s,t⟩) (hc:TB f #[.int .u32 w] W (.agg #[.int .i64 p,.int .i64 q,.int .i64 r,.int .i64 s,.int .i64 t])):TB f #[.int .u32 w] W (.agg #[.int .i64 (i).op,.int .i64 (i).rd,.int .i64 (i).rs1,.int .i64 (i).rs2,.int .i64 (i).imm]):=by
 rw [h];exact hc
theorem bt {n c:Nat} (h:n=c):((n:Int)==(c:Int))=true:=by rw [beq_iff_eq];omega
theorem bf {n c:Nat} (h:¬ n=c):((n:Int)==(c:Int))=false:=by rw [beq_eq_false_iff_ne];omega
def pOwn (w:Nat):In :=
 if cutN w 12 3=1∧cutN w 26 6=0 then ⟨28,(cutN w 7 5:Nat),(cutN w 15 5:Nat),0,(cutN w 20 6:Nat)⟩
 else if cutN w 12 3=5∧cutN w 26 6=0 then ⟨29,(cutN w 7 5:Nat),(cutN w 15 5:Nat),0,(cutN w 20 6:Nat)⟩
 else if cutN w 12 3=5∧cutN w 26 6=16 then ⟨30,(cutN w 7 5:Nat),(cutN w 15 5:Nat),0,(cutN w 20 6:Nat)⟩
 else ⟨row 4 (cutN w 12 3),(cutN w 7 5:Nat),(cutN w 15 5:Nat),0,immI w⟩
theorem zmB (w:Nat) (W:World) (hL:Laid W):TB 130 #[.int .u32 w] W (.agg #[.int .i64 (pOwn w).op,.int .i64 (pOwn w).rd,.int .i64 (pOwn w).rs1,.int .i64 (pOwn w).rs2,.int .i64 (pOwn w).imm]):=by
 by_cases h1:cutN w 12 3=1
 ·have h5:¬ cutN w 12 3=5:=by omega
  by_cases t0:cutN w 26 6=0
  ·exact via (by unfold pOwn;rw [if_pos ⟨h1,t0⟩]) (zxP w W (bt h1) (bt t0))
  ·exact via (by unfold pOwn;rw [if_neg (fun h=>t0 h.2),if_neg (fun h=>t0 h.2),if_neg (fun h=>h5 h.1)]) (zuY w W hL (bt h1) (bf h5) (bf t0))
 ·by_cases h5:cutN w 12 3=5
  ·by_cases t0:cutN w 26 6=0
   ·exact via (by unfold pOwn;rw [if_neg (fun h=>h1 h.1),if_pos ⟨h5,t0⟩]) (zpN w W (bf h1) (bt h5) (bt t0))
   ·by_cases t1:cutN w 26 6=16
    ·exact via (by unfold pOwn;rw [if_neg (fun h=>h1 h.1),if_neg (fun h=>t0 h.2),if_pos ⟨h5,t1⟩]) (ztC w W (bf h1) (bt h5) (bf t0) (bt t1))
    ·exact via (by unfold pOwn;rw [if_neg (fun h=>h1 h.1),if_neg (fun h=>t0 h.2),if_neg (fun h=>t1 h.2)]) (zzY w W hL (bf h1) (bt h5) (bf t0) (bf t1))
  ·exact via (by unfold pOwn;rw [if_neg (fun h=>h1 h.1),if_neg (fun h=>h5 h.1),if_neg (fun h=>h5 h.1)]) (zvI w W hL (bf h1) (bf h5))
def zbt (w:Nat):In :=
 if cutN w 12 3=0 then ⟨41,(cutN w 7 5:Nat),(cutN w 15 5:Nat),0,immI w⟩
 else if cutN w 12 3=1∧cutN w 25 7=0 then ⟨42,(cutN w 7 5:Nat),(cutN w 15 5:Nat),0,(cutN w 20 5:Nat)⟩
 else if cutN w 12 3=5∧cutN w 25 7=0 then ⟨43,(cutN w 7 5:Nat),(cutN w 15 5:Nat),0,(cutN w 20 5:Nat)⟩
 else if cutN w 12 3=5∧cutN w 25 7=32 then ⟨44,(cutN w 7 5:Nat),(cutN w 15 5:Nat),0,(cutN w 20 5:Nat)⟩
 else ⟨0,0,0,0,0⟩
theorem zvh (w:Nat) (W:World):TB 131 #[.int .u32 w] W (.agg #[.int .i64 (zbt w).op,.int .i64 (zbt w).rd,.int .i64 (zbt w).rs1,.int .i64 (zbt w).rs2,.int .i64 (zbt w).imm]):=by
 by_cases h0:cutN w 12 3=0
 ·exact via (by unfold zbt;rw [if_pos h0]) (zos w W (bt h0))
 by_cases h1:cutN w 12 3=1
 ·have h5:¬ cutN w 12 3=5:=by omega
  by_cases t0:cutN w 25 7=0
  ·exact via (by unfold zbt;rw [if_neg h0,if_pos ⟨h1,t0⟩]) (zn1 w W (bf h0) (bt h1) (bt t0))
  ·exact via (by unfold zbt;rw [if_neg h0,if_neg (fun h=>t0 h.2),if_neg (fun h=>t0 h.2),if_neg (fun h=>h5 h.1)]) (zmT w W (bf h0) (bt h1) (bf h5) (bf t0))
 ·by_cases h5:cutN w 12 3=5
  ·by_cases t0:cutN w 25 7=0
   ·exact via (by unfold zbt;rw [if_neg h0,if_neg (fun h=>h1 h.1),if_pos ⟨h5,t0⟩]) (zpf w W (bf h0) (bf h1) (bt h5) (bt t0))
   ·by_cases t1:cutN w 25 7=32
    ·exact via (by unfold zbt;rw [if_neg h0,if_neg (fun h=>h1 h.1),if_neg (fun h=>t0 h.2),if_pos ⟨h5,t1⟩]) (zto w W (bf h0) (bf h1) (bt h5) (bf t0) (bt t1))
    ·exact via (by unfold zbt;rw [if_neg h0,if_neg (fun h=>h1 h.1),if_neg (fun h=>t0 h.2),if_neg (fun h=>t1 h.2)]) (zx7 w W (bf h0) (bf h1) (bt h5) (bf t0) (bf t1))
  ·exact via (by unfold zbt;rw [if_neg h0,if_neg (fun h=>h1 h.1),if_neg (fun h=>h5 h.1),if_neg (fun h=>h5 h.1)]) (zlN w W (bf h0) (bf h1) (bf h5))
def pSys (w:Nat):In :=
 if ¬ cutN w 12 3=0 then ⟨row 11 (cutN w 12 3),(cutN w 7 5:Nat),(cutN w 15 5:Nat),0,(cutN w 20 12:Nat)⟩
 else if w=115 then ⟨52,0,0,0,0⟩
 else if w=1048691 then ⟨53,0,0,0,0⟩
 else if w=807403635 then ⟨95,0,0,0,0⟩
 else if w=270532723 then ⟨96,0,0,0,0⟩
 else if w=273678451 then ⟨97,0,0,0,0⟩
 else if cutN w 25 7=9∧cutN w 7 5=0 then ⟨98,0,(cutN w 15 5:Nat),(cutN w 20 5:Nat),0⟩
 else ⟨0,0,0,0,0⟩
theorem zsC (w:Nat) (W:World) (hL:Laid W):TB 136 #[.int .u32 w] W (.agg #[.int .i64 (pSys w).op,.int .i64 (pSys w).rd,.int .i64 (pSys w).rs1,.int .i64 (pSys w).rs2,.int .i64 (pSys w).imm]):=by
 by_cases h0:cutN w 12 3=0
 ·have b0:(((cutN w 12 3:Nat):Int) != (0:Int))=false:=by rw [bne_eq_false_iff_eq];omega
  have h00:¬ ¬ cutN w 12 3=0:=fun h=>h h0
  by_cases e0:w=115
  ·exact via (by unfold pSys;rw [if_neg h00,if_pos e0]) (zrQ w W b0 (bt e0))
  by_cases e1:w=1048691
  ·exact via (by unfold pSys;rw [if_neg h00,if_neg e0,if_pos e1]) (zuQ w W b0 (bf e0) (bt e1))
  by_cases e2:w=807403635
  ·exact via (by unfold pSys;rw [if_neg h00,if_neg e0,if_neg e1,if_pos e2]) (zsy w W b0 (bf e0) (bf e1) (bt e2))
  by_cases e3:w=270532723
  ·exact via (by unfold pSys;rw [if_neg h00,if_neg e0,if_neg e1,if_neg e2,if_pos e3]) (znx w W b0 (bf e0) (bf e1) (bf e2) (bt e3))
  by_cases e4:w=273678451
  ·exact via (by unfold pSys;rw [if_neg h00,if_neg e0,if_neg e1,if_neg e2,if_neg e3,if_pos e4]) (zAf w W b0 (bf e0) (bf e1) (bf e2) (bf e3) (bt e4))
  by_cases t9:cutN w 25 7=9
  ·by_cases d0:cutN w 7 5=0
   ·exact via (by unfold pSys;rw [if_neg h00,if_neg e0,if_neg e1,if_neg e2,if_neg e3,if_neg e4,if_pos ⟨t9,d0⟩]) (zsV w W b0 (bf e0) (bf e1) (bf e2) (bf e3) (bf e4) (bt t9) (bt d0))
   ·exact via (by unfold pSys;rw [if_neg h00,if_neg e0,if_neg e1,if_neg e2,if_neg e3,if_neg e4,if_neg (fun h=>d0 h.2)]) (zod w W b0 (bf e0) (bf e1) (bf e2) (bf e3) (bf e4) (bt t9) (bf d0))
  ·exact via (by unfold pSys;rw [if_neg h00,if_neg e0,if_neg e1,if_neg e2,if_neg e3,if_neg e4,if_neg (fun h=>t9 h.1)]) (ztc w W b0 (bf e0) (bf e1) (bf e2) (bf e3) (bf e4) (bf t9))
 ·exact via (by unfold pSys;rw [if_pos h0]) (zyy w W hL (by rw [bne_iff_ne];omega))
end Go.Proofs.YtplcfdnfeclpmaaGreatDoor.De
namespace Go.Proofs.YtplcfdnfeclpmaaGreatDoor.De
theorem zty (w:Nat) (W:World)  (g0:(((cutN w 0 7:Nat):Int)==(55:Int))=true)  :
  TB 99 #[.int .u32 w] W (.agg #[.int .i64 1,.int .i64 (cutN w 7 5:Nat),.int .i64 0,.int .i64 0,.int .i64 (immU w)]):=by
 have l12_3:=zb1 w;have l0_7:=zcM w;go_enter func99,ntmps99;go_wp2_with (first | (go_at_call 121;(first | (with_reducible first | refine (zaR w _).tq ?_ | refine (zcH w _).tq ?_))) | (go_at_call 123;(first | (with_reducible refine (zjP w _).tq ?_))) | (go_at_call 122;(with_reducible refine (zic w _ _ _).mono ?_);rintro e w1 ⟨rfl,hb1⟩;obtain ⟨hc1,hf1⟩:=za9 hb1));refine bodyPost_ret (v:=.agg #[.int .i64 1,.int .i64 (cutN w 7 5:Nat),.int .i64 0,.int .i64 0,.int .i64 (immU w)]) (by simp [results,results99,go_sem,hc1]) rfl ?_
 exact ⟨rfl,fin5 hb1 _ _ _ _ _⟩
theorem zmc (w:Nat) (W:World)  (g0:(((cutN w 0 7:Nat):Int)==(55:Int))=false) (g1:(((cutN w 0 7:Nat):Int)==(23:Int))=true)  :
  TB 99 #[.int .u32 w] W (.agg #[.int .i64 2,.int .i64 (cutN w 7 5:Nat),.int .i64 0,.int .i64 0,.int .i64 (immU w)]):=by
 have l12_3:=zb1 w;have l0_7:=zcM w;go_enter func99,ntmps99;go_wp2_with (first | (go_at_call 121;(first | (with_reducible first | refine (zaR w _).tq ?_ | refine (zcH w _).tq ?_))) | (go_at_call 123;(first | (with_reducible refine (zjP w _).tq ?_))) | (go_at_call 122;(with_reducible refine (zic w _ _ _).mono ?_);rintro e w1 ⟨rfl,hb1⟩;obtain ⟨hc1,hf1⟩:=za9 hb1));refine bodyPost_ret (v:=.agg #[.int .i64 2,.int .i64 (cutN w 7 5:Nat),.int .i64 0,.int .i64 0,.int .i64 (immU w)]) (by simp [results,results99,go_sem,hc1]) rfl ?_
 exact ⟨rfl,fin5 hb1 _ _ _ _ _⟩
theorem zqo (w:Nat) (W:World)  (g0:(((cutN w 0 7:Nat):Int)==(55:Int))=false) (g1:(((cutN w 0 7:Nat):Int)==(23:Int))=false) (g2:(((cutN w 0 7:Nat):Int)==(111:Int))=true)  :
  TB 99 #[.int .u32 w] W (.agg #[.int .i64 3,.int .i64 (cutN w 7 5:Nat),.int .i64 0,.int .i64 0,.int .i64 (immJ w)]):=by
 have l12_3:=zb1 w;have l0_7:=zcM w;go_enter func99,ntmps99;go_wp2_with (first | (go_at_call 121;(first | (with_reducible first | refine (zaR w _).tq ?_ | refine (zcH w _).tq ?_))) | (go_at_call 124;(first | (with_reducible refine (zmM w _).tq ?_))) | (go_at_call 122;(with_reducible refine (zic w _ _ _).mono ?_);rintro e w1 ⟨rfl,hb1⟩;obtain ⟨hc1,hf1⟩:=za9 hb1));refine bodyPost_ret (v:=.agg #[.int .i64 3,.int .i64 (cutN w 7 5:Nat),.int .i64 0,.int .i64 0,.int .i64 (immJ w)]) (by simp [results,results99,go_sem,hc1]) rfl ?_
 exact ⟨rfl,fin5 hb1 _ _ _ _ _⟩
theorem zoe (w:Nat) (W:World)  (g0:(((cutN w 0 7:Nat):Int)==(55:Int))=false) (g1:(((cutN w 0 7:Nat):Int)==(23:Int))=false) (g2:(((cutN w 0 7:Nat):Int)==(111:Int))=false) (g3:(((cutN w 0 7:Nat):Int)==(103:Int))=true) (g4:(((cutN w 12 3:Nat):Int)==(0:Int))=true)  :
  TB 99 #[.int .u32 w] W (.agg #[.int .i64 4,.int .i64 (cutN w 7 5:Nat),.int .i64 (cutN w 15 5:Nat),.int .i64 0,.int .i64 (immI w)]):=by
 have l12_3:=zb1 w;have l0_7:=zcM w;go_enter func99,ntmps99;go_wp2_with (first | (go_at_call 121;(first | (with_reducible first | refine (zaR w _).tq ?_ | refine (zcH w _).tq ?_))) | (go_at_call 126;(first | (with_reducible refine (zff w _).tq ?_))) | (go_at_call 125;(with_reducible refine (zbT w _ _ _).mono ?_);rintro e w1 ⟨rfl,hb1⟩;obtain ⟨hc1,hf1⟩:=za9 hb1));refine bodyPost_ret (v:=.agg #[.int .i64 4,.int .i64 (cutN w 7 5:Nat),.int .i64 (cutN w 15 5:Nat),.int .i64 0,.int .i64 (immI w)]) (by simp [results,results99,go_sem,hc1]) rfl ?_
 exact ⟨rfl,fin5 hb1 _ _ _ _ _⟩
theorem zxT (w:Nat) (W:World)  (g0:(((cutN w 0 7:Nat):Int)==(55:Int))=false) (g1:(((cutN w 0 7:Nat):Int)==(23:Int))=false) (g2:(((cutN w 0 7:Nat):Int)==(111:Int))=false) (g3:(((cutN w 0 7:Nat):Int)==(103:Int))=true) (g4:(((cutN w 12 3:Nat):Int)==(0:Int))=false)  :
  TB 99 #[.int .u32 w] W (.agg #[.int .i64 0,.int .i64 0,.int .i64 0,.int .i64 0,.int .i64 0]):=by
 have l12_3:=zb1 w;have l0_7:=zcM w;go_enter func99,ntmps99;go_wp2_with (go_at_call 121;(first | (with_reducible first | refine (zaR w _).tq ?_ | refine (zcH w _).tq ?_)))
 go_returns
 exact ⟨rfl,zag W _⟩
theorem zoX (w:Nat) (W:World) (hL:Laid W) (g0:(((cutN w 0 7:Nat):Int)==(55:Int))=false) (g1:(((cutN w 0 7:Nat):Int)==(23:Int))=false) (g2:(((cutN w 0 7:Nat):Int)==(111:Int))=false) (g3:(((cutN w 0 7:Nat):Int)==(103:Int))=false) (g4:(((cutN w 0 7:Nat):Int)==(99:Int))=true)  :
  TB 99 #[.int .u32 w] W (.agg #[.int .i64 (row 0 (cutN w 12 3)),.int .i64 0,.int .i64 (cutN w 15 5:Nat),.int .i64 (cutN w 20 5:Nat),.int .i64 (immB w)]):=by
 have h3:=zb1 w;have hc0:=hL.2 0 _ (by omega) h3;have i0:(0:Int)≤(cutN w 12 3:Nat):=by omega
 have i1:((cutN w 12 3:Nat):Int)<8:=by omega
 have h12:=hL.1;clear hL;have l0_7:=zcM w;go_enter func99,ntmps99;go_wp2_with (go_at_call 121;(first | (with_reducible first | refine (zaR w _).tq ?_ | refine (zcH w _).tq ?_)));have HF0:=hid (zd7 W);generalize W.alloc (.cells #[.int .i64 0,.int .i64 0,.int .i64 0,.int .i64 0,.int .i64 0] 80)=w0 at HF0 ⊢;refine wp_region_still_tail 6 (by kernel_rfl) (by kernel_rfl) ?_
 simp only [List.take_succ_cons,List.take_zero,List.drop_succ_cons,List.drop_zero];have HF:=hid HF0.out.drew;generalize { w0 with drawn:=w0.drawn+1 }=w2 at HF ⊢;obtain ⟨c0,c1,c2,c3,c4⟩:=And.intro HF.out.c0 (And.intro HF.out.c1 (And.intro HF.out.c2 (And.intro HF.out.c3 HF.out.c4)));have ff:=HF.out.f;have ll:=HF.out.lt;have hc5:=(HF.out.b.cell (p:=⟨0,cutN w 12 3,none⟩) (by show 0<_;omega)).trans hc0
 repeat still_step
 still_call ((zpL w _).mono fun _ _ h=>⟨h.1,h.2.symm⟩)
 repeat still_step
 refine wpStill_nil ?_
 go_wp2_with (go_at_call 127;(with_reducible refine (zhv w _ _ _).mono ?_);rintro e w1 ⟨rfl,hb1⟩;obtain ⟨hc1,hf1⟩:=za9 hb1);refine bodyPost_ret (v:=.agg #[.int .i64 (row 0 (cutN w 12 3)),.int .i64 0,.int .i64 (cutN w 15 5:Nat),.int .i64 (cutN w 20 5:Nat),.int .i64 (immB w)]) (by simp [results,results99,go_sem,hc1,ll,c0,c1,c2,c3,c4]) rfl ?_
 exact ⟨rfl,zeQ HF.out hb1 _ _ _ _ _⟩
theorem zwS (w:Nat) (W:World) (hL:Laid W) (g0:(((cutN w 0 7:Nat):Int)==(55:Int))=false) (g1:(((cutN w 0 7:Nat):Int)==(23:Int))=false) (g2:(((cutN w 0 7:Nat):Int)==(111:Int))=false) (g3:(((cutN w 0 7:Nat):Int)==(103:Int))=false) (g4:(((cutN w 0 7:Nat):Int)==(99:Int))=false) (g5:(((cutN w 0 7:Nat):Int)==(3:Int))=true)  :
  TB 99 #[.int .u32 w] W (.agg #[.int .i64 (row 1 (cutN w 12 3)),.int .i64 (cutN w 7 5:Nat),.int .i64 (cutN w 15 5:Nat),.int .i64 0,.int .i64 (immI w)]):=by
 have h3:=zb1 w;have hc0:=hL.2 1 _ (by omega) h3;have i0:(0:Int)≤(cutN w 12 3:Nat):=by omega
 have i1:((cutN w 12 3:Nat):Int)<8:=by omega
 have h12:=hL.1;clear hL;have l0_7:=zcM w;go_enter func99,ntmps99;go_wp2_with (go_at_call 121;(first | (with_reducible first | refine (zaR w _).tq ?_ | refine (zcH w _).tq ?_)));have HF0:=hid (zd7 W);generalize W.alloc (.cells #[.int .i64 0,.int .i64 0,.int .i64 0,.int .i64 0,.int .i64 0] 80)=w0 at HF0 ⊢;refine wp_region_still_tail 6 (by kernel_rfl) (by kernel_rfl) ?_
 simp only [List.take_succ_cons,List.take_zero,List.drop_succ_cons,List.drop_zero];have HF:=hid HF0.out.drew;generalize { w0 with drawn:=w0.drawn+1 }=w2 at HF ⊢;obtain ⟨c0,c1,c2,c3,c4⟩:=And.intro HF.out.c0 (And.intro HF.out.c1 (And.intro HF.out.c2 (And.intro HF.out.c3 HF.out.c4)));have ff:=HF.out.f;have ll:=HF.out.lt;have hc5:=(HF.out.b.cell (p:=⟨1,cutN w 12 3,none⟩) (by show 1<_;omega)).trans hc0
 repeat still_step
 still_call ((zff w _).mono fun _ _ h=>⟨h.1,h.2.symm⟩)
 repeat still_step
 refine wpStill_nil ?_
 go_wp2_with (go_at_call 125;(with_reducible refine (zbT w _ _ _).mono ?_);rintro e w1 ⟨rfl,hb1⟩;obtain ⟨hc1,hf1⟩:=za9 hb1);refine bodyPost_ret (v:=.agg #[.int .i64 (row 1 (cutN w 12 3)),.int .i64 (cutN w 7 5:Nat),.int .i64 (cutN w 15 5:Nat),.int .i64 0,.int .i64 (immI w)]) (by simp [results,results99,go_sem,hc1,ll,c0,c1,c2,c3,c4]) rfl ?_
 exact ⟨rfl,zeQ HF.out hb1 _ _ _ _ _⟩
theorem zsI (w:Nat) (W:World) (hL:Laid W) (g0:(((cutN w 0 7:Nat):Int)==(55:Int))=false) (g1:(((cutN w 0 7:Nat):Int)==(23:Int))=false) (g2:(((cutN w 0 7:Nat):Int)==(111:Int))=false) (g3:(((cutN w 0 7:Nat):Int)==(103:Int))=false) (g4:(((cutN w 0 7:Nat):Int)==(99:Int))=false) (g5:(((cutN w 0 7:Nat):Int)==(3:Int))=false) (g6:(((cutN w 0 7:Nat):Int)==(35:Int))=true)  :
  TB 99 #[.int .u32 w] W (.agg #[.int .i64 (row 2 (cutN w 12 3)),.int .i64 0,.int .i64 (cutN w 15 5:Nat),.int .i64 (cutN w 20 5:Nat),.int .i64 (immS w)]):=by
 have h3:=zb1 w;have hc0:=hL.2 2 _ (by omega) h3;have i0:(0:Int)≤(cutN w 12 3:Nat):=by omega
 have i1:((cutN w 12 3:Nat):Int)<8:=by omega
 have h12:=hL.1;clear hL;have l0_7:=zcM w;go_enter func99,ntmps99;go_wp2_with (go_at_call 121;(first | (with_reducible first | refine (zaR w _).tq ?_ | refine (zcH w _).tq ?_)));have HF0:=hid (zd7 W);generalize W.alloc (.cells #[.int .i64 0,.int .i64 0,.int .i64 0,.int .i64 0,.int .i64 0] 80)=w0 at HF0 ⊢;refine wp_region_still_tail 6 (by kernel_rfl) (by kernel_rfl) ?_
 simp only [List.take_succ_cons,List.take_zero,List.drop_succ_cons,List.drop_zero];have HF:=hid HF0.out.drew;generalize { w0 with drawn:=w0.drawn+1 }=w2 at HF ⊢;obtain ⟨c0,c1,c2,c3,c4⟩:=And.intro HF.out.c0 (And.intro HF.out.c1 (And.intro HF.out.c2 (And.intro HF.out.c3 HF.out.c4)));have ff:=HF.out.f;have ll:=HF.out.lt;have hc5:=(HF.out.b.cell (p:=⟨2,cutN w 12 3,none⟩) (by show 2<_;omega)).trans hc0
 repeat still_step
 still_call ((zr4 w _).mono fun _ _ h=>⟨h.1,h.2.symm⟩)
 repeat still_step
 refine wpStill_nil ?_
 go_wp2_with (go_at_call 127;(with_reducible refine (zhv w _ _ _).mono ?_);rintro e w1 ⟨rfl,hb1⟩;obtain ⟨hc1,hf1⟩:=za9 hb1);refine bodyPost_ret (v:=.agg #[.int .i64 (row 2 (cutN w 12 3)),.int .i64 0,.int .i64 (cutN w 15 5:Nat),.int .i64 (cutN w 20 5:Nat),.int .i64 (immS w)]) (by simp [results,results99,go_sem,hc1,ll,c0,c1,c2,c3,c4]) rfl ?_
 exact ⟨rfl,zeQ HF.out hb1 _ _ _ _ _⟩
theorem zmJ (w:Nat) (W:World)  (g0:(((cutN w 0 7:Nat):Int)==(55:Int))=false) (g1:(((cutN w 0 7:Nat):Int)==(23:Int))=false) (g2:(((cutN w 0 7:Nat):Int)==(111:Int))=false) (g3:(((cutN w 0 7:Nat):Int)==(103:Int))=false) (g4:(((cutN w 0 7:Nat):Int)==(99:Int))=false) (g5:(((cutN w 0 7:Nat):Int)==(3:Int))=false) (g6:(((cutN w 0 7:Nat):Int)==(35:Int))=false) (g7:(((cutN w 0 7:Nat):Int)==(19:Int))=true) (hL:Laid W) :
  TB 99 #[.int .u32 w] W (.agg #[.int .i64 (pOwn w).op,.int .i64 (pOwn w).rd,.int .i64 (pOwn w).rs1,.int .i64 (pOwn w).rs2,.int .i64 (pOwn w).imm]):=by
 have HL:=hid (fun o=>hL.below (zag W o));clear hL;have l12_3:=zb1 w;have l0_7:=zcM w;go_enter func99,ntmps99;go_wp2_with (first | (go_at_call 121;(first | (with_reducible first | refine (zaR w _).tq ?_ | refine (zcH w _).tq ?_))) | (go_at_call 130;(with_reducible refine (zmB w _ (HL.out _)).mono ?_);rintro e w1 ⟨rfl,hb1⟩;obtain ⟨hc1,hf1⟩:=za9 hb1));refine bodyPost_ret (v:=.agg #[.int .i64 (pOwn w).op,.int .i64 (pOwn w).rd,.int .i64 (pOwn w).rs1,.int .i64 (pOwn w).rs2,.int .i64 (pOwn w).imm]) (by simp [results,results99,go_sem,hc1]) rfl ?_
 exact ⟨rfl,fin5 hb1 _ _ _ _ _⟩
theorem zAO (w:Nat) (W:World)  (g0:(((cutN w 0 7:Nat):Int)==(55:Int))=false) (g1:(((cutN w 0 7:Nat):Int)==(23:Int))=false) (g2:(((cutN w 0 7:Nat):Int)==(111:Int))=false) (g3:(((cutN w 0 7:Nat):Int)==(103:Int))=false) (g4:(((cutN w 0 7:Nat):Int)==(99:Int))=false) (g5:(((cutN w 0 7:Nat):Int)==(3:Int))=false) (g6:(((cutN w 0 7:Nat):Int)==(35:Int))=false) (g7:(((cutN w 0 7:Nat):Int)==(19:Int))=false) (g8:(((cutN w 0 7:Nat):Int)==(27:Int))=true)  :
  TB 99 #[.int .u32 w] W (.agg #[.int .i64 (zbt w).op,.int .i64 (zbt w).rd,.int .i64 (zbt w).rs1,.int .i64 (zbt w).rs2,.int .i64 (zbt w).imm]):=by
 have l12_3:=zb1 w;have l0_7:=zcM w;go_enter func99,ntmps99;go_wp2_with (first | (go_at_call 121;(first | (with_reducible first | refine (zaR w _).tq ?_ | refine (zcH w _).tq ?_))) | (go_at_call 131;(with_reducible refine (zvh w _).mono ?_);rintro e w1 ⟨rfl,hb1⟩;obtain ⟨hc1,hf1⟩:=za9 hb1));refine bodyPost_ret (v:=.agg #[.int .i64 (zbt w).op,.int .i64 (zbt w).rd,.int .i64 (zbt w).rs1,.int .i64 (zbt w).rs2,.int .i64 (zbt w).imm]) (by simp [results,results99,go_sem,hc1]) rfl ?_
 exact ⟨rfl,fin5 hb1 _ _ _ _ _⟩
theorem zo6 (w:Nat) (W:World)  (g0:(((cutN w 0 7:Nat):Int)==(55:Int))=false) (g1:(((cutN w 0 7:Nat):Int)==(23:Int))=false) (g2:(((cutN w 0 7:Nat):Int)==(111:Int))=false) (g3:(((cutN w 0 7:Nat):Int)==(103:Int))=false) (g4:(((cutN w 0 7:Nat):Int)==(99:Int))=false) (g5:(((cutN w 0 7:Nat):Int)==(3:Int))=false) (g6:(((cutN w 0 7:Nat):Int)==(35:Int))=false) (g7:(((cutN w 0 7:Nat):Int)==(19:Int))=false) (g8:(((cutN w 0 7:Nat):Int)==(27:Int))=false) (g9:(((cutN w 0 7:Nat):Int)==(51:Int))=true) (hL:Laid W) :
  TB 99 #[.int .u32 w] W (.agg #[.int .i64 (op33 (cutN w 12 3) (cutN w 25 7)),.int .i64 (cutN w 7 5:Nat),.int .i64 (cutN w 15 5:Nat),.int .i64 (cutN w 20 5:Nat),.int .i64 0]):=by
 have HL:=hid (fun o=>hL.below (zag W o));clear hL;have l12_3:=zb1 w;have l0_7:=zcM w;go_enter func99,ntmps99;go_wp2_with (first | (go_at_call 121;(first | (with_reducible first | refine (zaR w _).tq ?_ | refine (zcH w _).tq ?_))) | (go_at_call 133;(first | (with_reducible refine (zhs w _ (HL.out _)).tq ?_))) | (go_at_call 132;(with_reducible refine (zc5 w _ _).mono ?_);rintro e w1 ⟨rfl,hb1⟩;obtain ⟨hc1,hf1⟩:=za9 hb1));refine bodyPost_ret (v:=.agg #[.int .i64 (op33 (cutN w 12 3) (cutN w 25 7)),.int .i64 (cutN w 7 5:Nat),.int .i64 (cutN w 15 5:Nat),.int .i64 (cutN w 20 5:Nat),.int .i64 0]) (by simp [results,results99,go_sem,hc1]) rfl ?_
 exact ⟨rfl,fin5 hb1 _ _ _ _ _⟩
theorem zxq (w:Nat) (W:World)  (g0:(((cutN w 0 7:Nat):Int)==(55:Int))=false) (g1:(((cutN w 0 7:Nat):Int)==(23:Int))=false) (g2:(((cutN w 0 7:Nat):Int)==(111:Int))=false) (g3:(((cutN w 0 7:Nat):Int)==(103:Int))=false) (g4:(((cutN w 0 7:Nat):Int)==(99:Int))=false) (g5:(((cutN w 0 7:Nat):Int)==(3:Int))=false) (g6:(((cutN w 0 7:Nat):Int)==(35:Int))=false) (g7:(((cutN w 0 7:Nat):Int)==(19:Int))=false) (g8:(((cutN w 0 7:Nat):Int)==(27:Int))=false) (g9:(((cutN w 0 7:Nat):Int)==(51:Int))=false) (g10:(((cutN w 0 7:Nat):Int)==(59:Int))=true) (hL:Laid W) :
  TB 99 #[.int .u32 w] W (.agg #[.int .i64 (op3b (cutN w 12 3) (cutN w 25 7)),.int .i64 (cutN w 7 5:Nat),.int .i64 (cutN w 15 5:Nat),.int .i64 (cutN w 20 5:Nat),.int .i64 0]):=by
 have HL:=hid (fun o=>hL.below (zag W o));clear hL;have l12_3:=zb1 w;have l0_7:=zcM w;go_enter func99,ntmps99;go_wp2_with (first | (go_at_call 121;(first | (with_reducible first | refine (zaR w _).tq ?_ | refine (zcH w _).tq ?_))) | (go_at_call 134;(first | (with_reducible refine (zAt w _ (HL.out _)).tq ?_))) | (go_at_call 132;(with_reducible refine (zc5 w _ _).mono ?_);rintro e w1 ⟨rfl,hb1⟩;obtain ⟨hc1,hf1⟩:=za9 hb1));refine bodyPost_ret (v:=.agg #[.int .i64 (op3b (cutN w 12 3) (cutN w 25 7)),.int .i64 (cutN w 7 5:Nat),.int .i64 (cutN w 15 5:Nat),.int .i64 (cutN w 20 5:Nat),.int .i64 0]) (by simp [results,results99,go_sem,hc1]) rfl ?_
 exact ⟨rfl,fin5 hb1 _ _ _ _ _⟩
theorem zs3 (w:Nat) (W:World)  (g0:(((cutN w 0 7:Nat):Int)==(55:Int))=false) (g1:(((cutN w 0 7:Nat):Int)==(23:Int))=false) (g2:(((cutN w 0 7:Nat):Int)==(111:Int))=false) (g3:(((cutN w 0 7:Nat):Int)==(103:Int))=false) (g4:(((cutN w 0 7:Nat):Int)==(99:Int))=false) (g5:(((cutN w 0 7:Nat):Int)==(3:Int))=false) (g6:(((cutN w 0 7:Nat):Int)==(35:Int))=false) (g7:(((cutN w 0 7:Nat):Int)==(19:Int))=false) (g8:(((cutN w 0 7:Nat):Int)==(27:Int))=false) (g9:(((cutN w 0 7:Nat):Int)==(51:Int))=false) (g10:(((cutN w 0 7:Nat):Int)==(59:Int))=false) (g11:(((cutN w 0 7:Nat):Int)==(15:Int))=true) (hL:Laid W) :
  TB 99 #[.int .u32 w] W (.agg #[.int .i64 (row 3 (cutN w 12 3)),.int .i64 0,.int .i64 0,.int .i64 0,.int .i64 0]):=by
 have h12:=hL.1;have hc0:=fun o=>(hL.below (zag W o)).2 3 _ (by omega) (zb1 w)
 clear hL;have l12_3:=zb1 w;have l0_7:=zcM w;go_enter func99,ntmps99;go_wp2_with (go_at_call 121;(first | (with_reducible first | refine (zaR w _).tq ?_ | refine (zcH w _).tq ?_)))
 go_returns
 exact ⟨rfl,zag W _⟩
theorem zvp (w:Nat) (W:World)  (g0:(((cutN w 0 7:Nat):Int)==(55:Int))=false) (g1:(((cutN w 0 7:Nat):Int)==(23:Int))=false) (g2:(((cutN w 0 7:Nat):Int)==(111:Int))=false) (g3:(((cutN w 0 7:Nat):Int)==(103:Int))=false) (g4:(((cutN w 0 7:Nat):Int)==(99:Int))=false) (g5:(((cutN w 0 7:Nat):Int)==(3:Int))=false) (g6:(((cutN w 0 7:Nat):Int)==(35:Int))=false) (g7:(((cutN w 0 7:Nat):Int)==(19:Int))=false) (g8:(((cutN w 0 7:Nat):Int)==(27:Int))=false) (g9:(((cutN w 0 7:Nat):Int)==(51:Int))=false) (g10:(((cutN w 0 7:Nat):Int)==(59:Int))=false) (g11:(((cutN w 0 7:Nat):Int)==(15:Int))=false) (g12:(((cutN w 0 7:Nat):Int)==(47:Int))=true)  :
  TB 99 #[.int .u32 w] W (.agg #[.int .i64 (za5 w).op,.int .i64 (za5 w).rd,.int .i64 (za5 w).rs1,.int .i64 (za5 w).rs2,.int .i64 (za5 w).imm]):=by
 have l12_3:=zb1 w;have l0_7:=zcM w;go_enter func99,ntmps99;go_wp2_with (first | (go_at_call 121;(first | (with_reducible first | refine (zaR w _).tq ?_ | refine (zcH w _).tq ?_))) | (go_at_call 135;(with_reducible refine (zvT w _).mono ?_);rintro e w1 ⟨rfl,hb1⟩;obtain ⟨hc1,hf1⟩:=za9 hb1));refine bodyPost_ret (v:=.agg #[.int .i64 (za5 w).op,.int .i64 (za5 w).rd,.int .i64 (za5 w).rs1,.int .i64 (za5 w).rs2,.int .i64 (za5 w).imm]) (by simp [results,results99,go_sem,hc1]) rfl ?_
 exact ⟨rfl,fin5 hb1 _ _ _ _ _⟩
theorem zqi (w:Nat) (W:World)  (g0:(((cutN w 0 7:Nat):Int)==(55:Int))=false) (g1:(((cutN w 0 7:Nat):Int)==(23:Int))=false) (g2:(((cutN w 0 7:Nat):Int)==(111:Int))=false) (g3:(((cutN w 0 7:Nat):Int)==(103:Int))=false) (g4:(((cutN w 0 7:Nat):Int)==(99:Int))=false) (g5:(((cutN w 0 7:Nat):Int)==(3:Int))=false) (g6:(((cutN w 0 7:Nat):Int)==(35:Int))=false) (g7:(((cutN w 0 7:Nat):Int)==(19:Int))=false) (g8:(((cutN w 0 7:Nat):Int)==(27:Int))=false) (g9:(((cutN w 0 7:Nat):Int)==(51:Int))=false) (g10:(((cutN w 0 7:Nat):Int)==(59:Int))=false) (g11:(((cutN w 0 7:Nat):Int)==(15:Int))=false) (g12:(((cutN w 0 7:Nat):Int)==(47:Int))=false) (g13:(((cutN w 0 7:Nat):Int)==(115:Int))=true) (hL:Laid W) :
  TB 99 #[.int .u32 w] W (.agg #[.int .i64 (pSys w).op,.int .i64 (pSys w).rd,.int .i64 (pSys w).rs1,.int .i64 (pSys w).rs2,.int .i64 (pSys w).imm]):=by
 have HL:=hid (fun o=>hL.below (zag W o));clear hL;have l12_3:=zb1 w;have l0_7:=zcM w;go_enter func99,ntmps99;go_wp2_with (first | (go_at_call 121;(first | (with_reducible first | refine (zaR w _).tq ?_ | refine (zcH w _).tq ?_))) | (go_at_call 136;(with_reducible refine (zsC w _ (HL.out _)).mono ?_);rintro e w1 ⟨rfl,hb1⟩;obtain ⟨hc1,hf1⟩:=za9 hb1));refine bodyPost_ret (v:=.agg #[.int .i64 (pSys w).op,.int .i64 (pSys w).rd,.int .i64 (pSys w).rs1,.int .i64 (pSys w).rs2,.int .i64 (pSys w).imm]) (by simp [results,results99,go_sem,hc1]) rfl ?_
 exact ⟨rfl,fin5 hb1 _ _ _ _ _⟩
theorem zAb (w:Nat) (W:World)  (g0:(((cutN w 0 7:Nat):Int)==(55:Int))=false) (g1:(((cutN w 0 7:Nat):Int)==(23:Int))=false) (g2:(((cutN w 0 7:Nat):Int)==(111:Int))=false) (g3:(((cutN w 0 7:Nat):Int)==(103:Int))=false) (g4:(((cutN w 0 7:Nat):Int)==(99:Int))=false) (g5:(((cutN w 0 7:Nat):Int)==(3:Int))=false) (g6:(((cutN w 0 7:Nat):Int)==(35:Int))=false) (g7:(((cutN w 0 7:Nat):Int)==(19:Int))=false) (g8:(((cutN w 0 7:Nat):Int)==(27:Int))=false) (g9:(((cutN w 0 7:Nat):Int)==(51:Int))=false) (g10:(((cutN w 0 7:Nat):Int)==(59:Int))=false) (g11:(((cutN w 0 7:Nat):Int)==(15:Int))=false) (g12:(((cutN w 0 7:Nat):Int)==(47:Int))=false) (g13:(((cutN w 0 7:Nat):Int)==(115:Int))=false)  :
  TB 99 #[.int .u32 w] W (.agg #[.int .i64 0,.int .i64 0,.int .i64 0,.int .i64 0,.int .i64 0]):=by
 have l12_3:=zb1 w;have l0_7:=zcM w;go_enter func99,ntmps99;go_wp2_with (go_at_call 121;(first | (with_reducible first | refine (zaR w _).tq ?_ | refine (zcH w _).tq ?_)))
 go_returns
 exact ⟨rfl,zag W _⟩
end Go.Proofs.YtplcfdnfeclpmaaGreatDoor.De
