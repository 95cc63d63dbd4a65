/- MachineOn, part 15. -/
import Derived.Test.YtplcfdnfeclpmaaGreatDoorV14
set_option maxHeartbeats 4000000
set_option maxRecDepth 100000
open Go.Lib (hid)
open Go Go.RowKit Go.Deep Go.Joins Go.Proofs.Tryz
namespace Go.Proofs.YtplcfdnfeclpmaaGreatDoor.De
def pIns (w:Nat):In :=
 if cutN w 0 7=55 then ⟨1,(cutN w 7 5:Nat),0,0,immU w⟩
 else if cutN w 0 7=23 then ⟨2,(cutN w 7 5:Nat),0,0,immU w⟩
 else if cutN w 0 7=111 then ⟨3,(cutN w 7 5:Nat),0,0,immJ w⟩
 else if cutN w 0 7=103 then (if cutN w 12 3=0 then ⟨4,(cutN w 7 5:Nat),(cutN w 15 5:Nat),0,immI w⟩ else ⟨0,0,0,0,0⟩)
 else if cutN w 0 7=99 then ⟨row 0 (cutN w 12 3),0,(cutN w 15 5:Nat),(cutN w 20 5:Nat),immB w⟩
 else if cutN w 0 7=3 then ⟨row 1 (cutN w 12 3),(cutN w 7 5:Nat),(cutN w 15 5:Nat),0,immI w⟩
 else if cutN w 0 7=35 then ⟨row 2 (cutN w 12 3),0,(cutN w 15 5:Nat),(cutN w 20 5:Nat),immS w⟩
 else if cutN w 0 7=19 then pOwn w
 else if cutN w 0 7=27 then zbt w
 else if cutN w 0 7=51 then ⟨op33 (cutN w 12 3) (cutN w 25 7),(cutN w 7 5:Nat),(cutN w 15 5:Nat),(cutN w 20 5:Nat),0⟩
 else if cutN w 0 7=59 then ⟨op3b (cutN w 12 3) (cutN w 25 7),(cutN w 7 5:Nat),(cutN w 15 5:Nat),(cutN w 20 5:Nat),0⟩
 else if cutN w 0 7=15 then ⟨row 3 (cutN w 12 3),0,0,0,0⟩
 else if cutN w 0 7=47 then za5 w
 else if cutN w 0 7=115 then pSys w
 else ⟨0,0,0,0,0⟩
theorem znW {w:Nat} (e:cutN w 0 7=55):pIns w=⟨1,(cutN w 7 5:Nat),0,0,immU w⟩:=by
 unfold pIns;rw [if_pos e]
theorem zl7 {w:Nat} (e:cutN w 0 7=23):pIns w=⟨2,(cutN w 7 5:Nat),0,0,immU w⟩:=by
 unfold pIns;rw [if_neg (by omega),if_pos e]
theorem zAu {w:Nat} (e:cutN w 0 7=111):pIns w=⟨3,(cutN w 7 5:Nat),0,0,immJ w⟩:=by
 unfold pIns;rw [if_neg (by omega),if_neg (by omega),if_pos e]
theorem zls {w:Nat} (e:cutN w 0 7=103):pIns w=(if cutN w 12 3=0 then ⟨4,(cutN w 7 5:Nat),(cutN w 15 5:Nat),0,immI w⟩ else ⟨0,0,0,0,0⟩):=by
 unfold pIns;rw [if_neg (by omega),if_neg (by omega),if_neg (by omega),if_pos e]
theorem zrx {w:Nat} (e:cutN w 0 7=99):pIns w=⟨row 0 (cutN w 12 3),0,(cutN w 15 5:Nat),(cutN w 20 5:Nat),immB w⟩:=by
 unfold pIns;rw [if_neg (by omega),if_neg (by omega),if_neg (by omega),if_neg (by omega),if_pos e]
theorem zqQ {w:Nat} (e:cutN w 0 7=3):pIns w=⟨row 1 (cutN w 12 3),(cutN w 7 5:Nat),(cutN w 15 5:Nat),0,immI w⟩:=by
 unfold pIns;rw [if_neg (by omega),if_neg (by omega),if_neg (by omega),if_neg (by omega),if_neg (by omega),if_pos e]
theorem zoc {w:Nat} (e:cutN w 0 7=35):pIns w=⟨row 2 (cutN w 12 3),0,(cutN w 15 5:Nat),(cutN w 20 5:Nat),immS w⟩:=by
 unfold pIns;rw [if_neg (by omega),if_neg (by omega),if_neg (by omega),if_neg (by omega),if_neg (by omega),if_neg (by omega),if_pos e]
theorem zmo {w:Nat} (e:cutN w 0 7=19):pIns w=pOwn w:=by
 unfold pIns;rw [if_neg (by omega),if_neg (by omega),if_neg (by omega),if_neg (by omega),if_neg (by omega),if_neg (by omega),if_neg (by omega),if_pos e]
theorem zwc {w:Nat} (e:cutN w 0 7=27):pIns w=zbt w:=by
 unfold pIns;rw [if_neg (by omega),if_neg (by omega),if_neg (by omega),if_neg (by omega),if_neg (by omega),if_neg (by omega),if_neg (by omega),if_neg (by omega),if_pos e]
theorem zzP {w:Nat} (e:cutN w 0 7=51):pIns w=⟨op33 (cutN w 12 3) (cutN w 25 7),(cutN w 7 5:Nat),(cutN w 15 5:Nat),(cutN w 20 5:Nat),0⟩:=by
 unfold pIns;rw [if_neg (by omega),if_neg (by omega),if_neg (by omega),if_neg (by omega),if_neg (by omega),if_neg (by omega),if_neg (by omega),if_neg (by omega),if_neg (by omega),if_pos e]
theorem zrp {w:Nat} (e:cutN w 0 7=59):pIns w=⟨op3b (cutN w 12 3) (cutN w 25 7),(cutN w 7 5:Nat),(cutN w 15 5:Nat),(cutN w 20 5:Nat),0⟩:=by
 unfold pIns;rw [if_neg (by omega),if_neg (by omega),if_neg (by omega),if_neg (by omega),if_neg (by omega),if_neg (by omega),if_neg (by omega),if_neg (by omega),if_neg (by omega),if_neg (by omega),if_pos e]
theorem znZ {w:Nat} (e:cutN w 0 7=15):pIns w=⟨row 3 (cutN w 12 3),0,0,0,0⟩:=by
 unfold pIns;rw [if_neg (by omega),if_neg (by omega),if_neg (by omega),if_neg (by omega),if_neg (by omega),if_neg (by omega),if_neg (by omega),if_neg (by omega),if_neg (by omega),if_neg (by omega),if_neg (by omega),if_pos e]
theorem zou {w:Nat} (e:cutN w 0 7=47):pIns w=za5 w:=by
 unfold pIns;rw [if_neg (by omega),if_neg (by omega),if_neg (by omega),if_neg (by omega),if_neg (by omega),if_neg (by omega),if_neg (by omega),if_neg (by omega),if_neg (by omega),if_neg (by omega),if_neg (by omega),if_neg (by omega),if_pos e]
theorem zsp {w:Nat} (e:cutN w 0 7=115):pIns w=pSys w:=by
 unfold pIns;rw [if_neg (by omega),if_neg (by omega),if_neg (by omega),if_neg (by omega),if_neg (by omega),if_neg (by omega),if_neg (by omega),if_neg (by omega),if_neg (by omega),if_neg (by omega),if_neg (by omega),if_neg (by omega),if_neg (by omega),if_pos e]
theorem znn {w:Nat} (n55:¬ cutN w 0 7=55) (n23:¬ cutN w 0 7=23) (n111:¬ cutN w 0 7=111) (n103:¬ cutN w 0 7=103) (n99:¬ cutN w 0 7=99) (n3:¬ cutN w 0 7=3) (n35:¬ cutN w 0 7=35) (n19:¬ cutN w 0 7=19) (n27:¬ cutN w 0 7=27) (n51:¬ cutN w 0 7=51) (n59:¬ cutN w 0 7=59) (n15:¬ cutN w 0 7=15) (n47:¬ cutN w 0 7=47) (n115:¬ cutN w 0 7=115):pIns w=⟨0,0,0,0,0⟩:=by
 unfold pIns;rw [if_neg n55,if_neg n23,if_neg n111,if_neg n103,if_neg n99,if_neg n3,if_neg n35,if_neg n19,if_neg n27,if_neg n51,if_neg n59,if_neg n15,if_neg n47,if_neg n115]
theorem zoS (w:Nat) (W:World) (hL:Laid W):TB 99 #[.int .u32 w] W (.agg #[.int .i64 (pIns w).op,.int .i64 (pIns w).rd,.int .i64 (pIns w).rs1,.int .i64 (pIns w).rs2,.int .i64 (pIns w).imm]):=by
 by_cases e:cutN w 0 7=55
 ·exact via (znW e) (zty w W  (bt e))
 have n55:=e;clear e
 by_cases e:cutN w 0 7=23
 ·exact via (zl7 e) (zmc w W (bf n55) (bt e))
 have n23:=e;clear e
 by_cases e:cutN w 0 7=111
 ·exact via (zAu e) (zqo w W (bf n55) (bf n23) (bt e))
 have n111:=e;clear e
 by_cases e:cutN w 0 7=103
 ·by_cases f:cutN w 12 3=0
  ·exact via (by rw [zls e,if_pos f]) (zoe w W (bf n55) (bf n23) (bf n111) (bt e) (bt f))
  ·exact via (by rw [zls e,if_neg f]) (zxT w W (bf n55) (bf n23) (bf n111) (bt e) (bf f))
 have n103:=e;clear e
 by_cases e:cutN w 0 7=99
 ·exact via (zrx e) (zoX w W hL (bf n55) (bf n23) (bf n111) (bf n103) (bt e))
 have n99:=e;clear e
 by_cases e:cutN w 0 7=3
 ·exact via (zqQ e) (zwS w W hL (bf n55) (bf n23) (bf n111) (bf n103) (bf n99) (bt e))
 have n3:=e;clear e
 by_cases e:cutN w 0 7=35
 ·exact via (zoc e) (zsI w W hL (bf n55) (bf n23) (bf n111) (bf n103) (bf n99) (bf n3) (bt e))
 have n35:=e;clear e
 by_cases e:cutN w 0 7=19
 ·exact via (zmo e) (zmJ w W (bf n55) (bf n23) (bf n111) (bf n103) (bf n99) (bf n3) (bf n35) (bt e) hL)
 have n19:=e;clear e
 by_cases e:cutN w 0 7=27
 ·exact via (zwc e) (zAO w W (bf n55) (bf n23) (bf n111) (bf n103) (bf n99) (bf n3) (bf n35) (bf n19) (bt e))
 have n27:=e;clear e
 by_cases e:cutN w 0 7=51
 ·exact via (zzP e) (zo6 w W (bf n55) (bf n23) (bf n111) (bf n103) (bf n99) (bf n3) (bf n35) (bf n19) (bf n27) (bt e) hL)
 have n51:=e;clear e
 by_cases e:cutN w 0 7=59
 ·exact via (zrp e) (zxq w W (bf n55) (bf n23) (bf n111) (bf n103) (bf n99) (bf n3) (bf n35) (bf n19) (bf n27) (bf n51) (bt e) hL)
 have n59:=e;clear e
 by_cases e:cutN w 0 7=15
 ·exact via (znZ e) (zs3 w W (bf n55) (bf n23) (bf n111) (bf n103) (bf n99) (bf n3) (bf n35) (bf n19) (bf n27) (bf n51) (bf n59) (bt e) hL)
 have n15:=e;clear e
 by_cases e:cutN w 0 7=47
 ·exact via (zou e) (zvp w W (bf n55) (bf n23) (bf n111) (bf n103) (bf n99) (bf n3) (bf n35) (bf n19) (bf n27) (bf n51) (bf n59) (bf n15) (bt e))
 have n47:=e;clear e
 by_cases e:cutN w 0 7=115
 ·exact via (zsp e) (zqi w W (bf n55) (bf n23) (bf n111) (bf n103) (bf n99) (bf n3) (bf n35) (bf n19) (bf n27) (bf n51) (bf n59) (bf n15) (bf n47) (bt e) hL)
 have n115:=e;clear e;exact via (znn n55 n23 n111 n103 n99 n3 n35 n19 n27 n51 n59 n15 n47 n115) (zAb w W (bf n55) (bf n23) (bf n111) (bf n103) (bf n99) (bf n3) (bf n35) (bf n19) (bf n27) (bf n51) (bf n59) (bf n15) (bf n47) (bf n115))
theorem zeh.after {W w0 w1:World} (h:zeh W w0) (hb:Below w0.heap.size w0 w1):zeh W w1 :=
 ⟨h.b.trans (hb.mono (Nat.le_of_lt h.lt)),Nat.lt_of_lt_of_le h.lt hb.size,(hb.cell h.lt).trans h.c0,(hb.cell h.lt).trans h.c1,(hb.cell h.lt).trans h.c2,(hb.cell h.lt).trans h.c3,(hb.cell h.lt).trans h.c4,fun i=>(hb.frozen h.lt).trans (h.f i)⟩
theorem fin6 {W w1:World} (h:zeh W w1) (a b c d e:Value) :
  Below W.heap.size W (((((w1.setCell ⟨W.heap.size,0,none⟩ a).setCell ⟨W.heap.size,1,none⟩ b).setCell ⟨W.heap.size,2,none⟩ c).setCell ⟨W.heap.size,3,none⟩ d).setCell ⟨W.heap.size,4,none⟩ e) :=
 ((((h.b.setCell (Nat.le_refl _) _).setCell (Nat.le_refl _) _).setCell (Nat.le_refl _) _).setCell (Nat.le_refl _) _).setCell (Nat.le_refl _) _
theorem ztE (w:Nat) (W:World) (q r s t:Int) (H:Hid (∀ (o:Obj) (W':World),W'=W.alloc o→Calls Tryz.prog 99 #[.int .u32 w] W' fun e W2=>e=.returned (.agg #[.int .i64 0,.int .i64 q,.int .i64 r,.int .i64 s,.int .i64 t])∧Below W'.heap.size W' W2)):TB 76 #[.int .u32 w] W (.tuple #[.agg #[.int .i64 0,.int .i64 0,.int .i64 0,.int .i64 0,.int .i64 0],.int .i64 60]):=by
 go_enter func76,ntmps76;go_wp2_with (go_at_call 99;(with_reducible refine (H.out _ _ rfl).mono ?_);rintro e w1 ⟨rfl,hb1⟩;have FR:=hid ((zd7 W).after hb1);have k0:=FR.out.c0;have k1:=FR.out.c1;have k2:=FR.out.c2;have k3:=FR.out.c3;have k4:=FR.out.c4;have kf:=FR.out.f;have hz:=FR.out.lt;have HB:=hid hb1;clear hb1);refine bodyPost_ret (v:=.tuple #[.agg #[.int .i64 0,.int .i64 0,.int .i64 0,.int .i64 0,.int .i64 0],.int .i64 60]) (by simp [results,results76,go_sem,k0,k1,k2,k3,k4,hz]) rfl ?_
 exact ⟨rfl,(fin6 FR.out _ _ _ _ _).alloc (fin6 FR.out _ _ _ _ _).size _⟩
theorem zzG (w:Nat) (W:World) (p q r s t:Int) (hp:(p==0)=false) (H:Hid (∀ (o:Obj) (W':World),W'=W.alloc o→Calls Tryz.prog 99 #[.int .u32 w] W' fun e W2=>e=.returned (.agg #[.int .i64 p,.int .i64 q,.int .i64 r,.int .i64 s,.int .i64 t])∧Below W'.heap.size W' W2)):TB 76 #[.int .u32 w] W (.tuple #[.agg #[.int .i64 p,.int .i64 q,.int .i64 r,.int .i64 s,.int .i64 t],.int .i64 0]):=by
 go_enter func76,ntmps76;go_wp2_with (go_at_call 99;(with_reducible refine (H.out _ _ rfl).mono ?_);rintro e w1 ⟨rfl,hb1⟩;have FR:=hid ((zd7 W).after hb1);have k0:=FR.out.c0;have k1:=FR.out.c1;have k2:=FR.out.c2;have k3:=FR.out.c3;have k4:=FR.out.c4;have kf:=FR.out.f;have hz:=FR.out.lt;have HB:=hid hb1;clear hb1);refine bodyPost_ret (v:=.tuple #[.agg #[.int .i64 p,.int .i64 q,.int .i64 r,.int .i64 s,.int .i64 t],.int .i64 0]) (by simp [results,results76,go_sem,k0,k1,k2,k3,k4,hz]) rfl ?_
 exact ⟨rfl,(fin6 FR.out _ _ _ _ _).alloc (fin6 FR.out _ _ _ _ _).size _⟩
def wI (w:Nat):In:=if (pIns w).op=0 then ⟨0,0,0,0,0⟩ else pIns w
def wE (w:Nat):Int:=if (pIns w).op=0 then 60 else 0
theorem zcl (w:Nat) (W:World) (hL:Laid W):TB 76 #[.int .u32 w] W (.tuple #[.agg #[.int .i64 (wI w).op,.int .i64 (wI w).rd,.int .i64 (wI w).rs1,.int .i64 (wI w).rs2,.int .i64 (wI w).imm],.int .i64 (wE w)]):=by
 have H:=fun (o:Obj) (W':World) (e:W'=W.alloc o)=>zoS w W' (e ▸ hL.below (zag W o))
 unfold wI wE
 by_cases h:(pIns w).op=0
 ·rw [if_pos h,if_pos h]
  rw [h] at H;exact ztE w W _ _ _ _ (hid H)
 ·rw [if_neg h,if_neg h]
  exact zzG w W _ _ _ _ _ (by rw [beq_eq_false_iff_ne];exact h) (hid H)
end Go.Proofs.YtplcfdnfeclpmaaGreatDoor.De
