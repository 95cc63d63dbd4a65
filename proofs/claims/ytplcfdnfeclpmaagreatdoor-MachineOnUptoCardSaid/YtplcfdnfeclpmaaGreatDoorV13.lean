/- MachineOn, part 13. -/
import Derived.StillTailTactics
import Derived.Test.YtplcfdnfeclpmaaGreatDoorV12
set_option maxHeartbeats 4000000
set_option maxRecDepth 100000
open Go.Lib (hid)
open Go Go.RowKit Go.Deep Go.Joins Go.Proofs.Tryz
namespace Go.Proofs.YtplcfdnfeclpmaaGreatDoor.De
theorem za9 {W w1:World} (hb:Below W.heap.size W w1):(∀ b o,b<W.heap.size→w1.cell? ⟨b,o,none⟩=W.cell? ⟨b,o,none⟩)∧(∀ b o,b<W.heap.size→w1.frozen? ⟨b,o,none⟩=W.frozen? ⟨b,o,none⟩) :=
 ⟨fun b o h=>hb.cell (p:=⟨b,o,none⟩) h,fun b o h=>hb.frozen (p:=⟨b,o,none⟩) h⟩
theorem fin5 {W w1:World} {o:Obj} (hb:Below (W.alloc o).heap.size (W.alloc o) w1) (a b c d e:Value) :
  Below W.heap.size W (((((w1.setCell ⟨W.heap.size,0,none⟩ a).setCell ⟨W.heap.size,1,none⟩ b).setCell ⟨W.heap.size,2,none⟩ c).setCell ⟨W.heap.size,3,none⟩ d).setCell ⟨W.heap.size,4,none⟩ e) :=
 ((((((zag W o).trans (hb.mono (by simp))).setCell (Nat.le_refl _) _).setCell (Nat.le_refl _) _).setCell (Nat.le_refl _) _).setCell (Nat.le_refl _) _).setCell (Nat.le_refl _) _
structure In where
 op:Int
 rd:Int
 rs1:Int
 rs2:Int
 imm:Int
def In.zero:In:=⟨0,0,0,0,0⟩
def opA (f3 c:Nat):Int:=if f3=2 then aW c else if f3=3 then aD c else 0
def za5 (w:Nat):In :=
 if opA (cutN w 12 3) (cutN w 27 5)=73∨opA (cutN w 12 3) (cutN w 27 5)=84 then
  if cutN w 20 5=0 then ⟨opA (cutN w 12 3) (cutN w 27 5),(cutN w 7 5:Nat),(cutN w 15 5:Nat),0,0⟩ else In.zero
 else ⟨opA (cutN w 12 3) (cutN w 27 5),(cutN w 7 5:Nat),(cutN w 15 5:Nat),(cutN w 20 5:Nat),0⟩
theorem zmt (w:Nat) (W:World) (Y:Int) (H:Hid (∀ W,TW 194 #[.int .u32 (cutN w 27 5:Nat)] W (.tuple #[.int .i64 73,.int .i64 Y]))) (h:cutN w 12 3=2) (z:cutN w 20 5=0) :
  TB 135 #[.int .u32 w] W (.agg #[.int .i64 73,.int .i64 (cutN w 7 5:Nat),.int .i64 (cutN w 15 5:Nat),.int .i64 0,.int .i64 0]):=by
 go_enter func135,ntmps135;go_wp2_with (first | (go_at_call 121;(first | (with_reducible first | refine (zaR w _).tq ?_ | refine (zdw w _).tq ?_ | refine (zco w _).tq ?_))) | (go_at_call 194;with_reducible refine (H.out _).tq ?_) | ((first | (go_at_call 132;with_reducible refine (zc5 w _ _).mono ?_) | (go_at_call 125;with_reducible refine (zbT w _ _ _).mono ?_));rintro e w1 ⟨rfl,hb1⟩;obtain ⟨hc1,hf1⟩:=za9 hb1));refine bodyPost_ret (v:=.agg #[.int .i64 73,.int .i64 (cutN w 7 5:Nat),.int .i64 (cutN w 15 5:Nat),.int .i64 0,.int .i64 0]) (by simp [results,results135,go_sem,hc1]) rfl ?_
 exact ⟨rfl,fin5 hb1 _ _ _ _ _⟩
theorem zmu (w:Nat) (W:World) (Y:Int) (H:Hid (∀ W,TW 194 #[.int .u32 (cutN w 27 5:Nat)] W (.tuple #[.int .i64 73,.int .i64 Y]))) (h:cutN w 12 3=2) (z:((cutN w 20 5:Nat) != (0:Int))=true) :
  TB 135 #[.int .u32 w] W (.agg #[.int .i64 0,.int .i64 0,.int .i64 0,.int .i64 0,.int .i64 0]):=by
 go_enter func135,ntmps135;go_wp2_with (first | (go_at_call 121;(first | (with_reducible first | refine (zaR w _).tq ?_ | refine (zdw w _).tq ?_ | refine (zco w _).tq ?_))) | (go_at_call 194;with_reducible refine (H.out _).tq ?_) | ((first | (go_at_call 132;with_reducible refine (zc5 w _ _).mono ?_) | (go_at_call 125;with_reducible refine (zbT w _ _ _).mono ?_));rintro e w1 ⟨rfl,hb1⟩;obtain ⟨hc1,hf1⟩:=za9 hb1))
 go_returns
 exact ⟨rfl,zag W _⟩
theorem zAq (w:Nat) (W:World) (Y:Int) (H:Hid (∀ W,TW 194 #[.int .u32 (cutN w 27 5:Nat)] W (.tuple #[.int .i64 84,.int .i64 Y]))) (h:cutN w 12 3=2) (z:cutN w 20 5=0) :
  TB 135 #[.int .u32 w] W (.agg #[.int .i64 84,.int .i64 (cutN w 7 5:Nat),.int .i64 (cutN w 15 5:Nat),.int .i64 0,.int .i64 0]):=by
 go_enter func135,ntmps135;go_wp2_with (first | (go_at_call 121;(first | (with_reducible first | refine (zaR w _).tq ?_ | refine (zdw w _).tq ?_ | refine (zco w _).tq ?_))) | (go_at_call 194;with_reducible refine (H.out _).tq ?_) | ((first | (go_at_call 132;with_reducible refine (zc5 w _ _).mono ?_) | (go_at_call 125;with_reducible refine (zbT w _ _ _).mono ?_));rintro e w1 ⟨rfl,hb1⟩;obtain ⟨hc1,hf1⟩:=za9 hb1));refine bodyPost_ret (v:=.agg #[.int .i64 84,.int .i64 (cutN w 7 5:Nat),.int .i64 (cutN w 15 5:Nat),.int .i64 0,.int .i64 0]) (by simp [results,results135,go_sem,hc1]) rfl ?_
 exact ⟨rfl,fin5 hb1 _ _ _ _ _⟩
theorem zpb (w:Nat) (W:World) (Y:Int) (H:Hid (∀ W,TW 194 #[.int .u32 (cutN w 27 5:Nat)] W (.tuple #[.int .i64 84,.int .i64 Y]))) (h:cutN w 12 3=2) (z:((cutN w 20 5:Nat) != (0:Int))=true) :
  TB 135 #[.int .u32 w] W (.agg #[.int .i64 0,.int .i64 0,.int .i64 0,.int .i64 0,.int .i64 0]):=by
 go_enter func135,ntmps135;go_wp2_with (first | (go_at_call 121;(first | (with_reducible first | refine (zaR w _).tq ?_ | refine (zdw w _).tq ?_ | refine (zco w _).tq ?_))) | (go_at_call 194;with_reducible refine (H.out _).tq ?_) | ((first | (go_at_call 132;with_reducible refine (zc5 w _ _).mono ?_) | (go_at_call 125;with_reducible refine (zbT w _ _ _).mono ?_));rintro e w1 ⟨rfl,hb1⟩;obtain ⟨hc1,hf1⟩:=za9 hb1))
 go_returns
 exact ⟨rfl,zag W _⟩
theorem zoi (w:Nat) (W:World) (A Y:Int) (H:Hid (∀ W,TW 194 #[.int .u32 (cutN w 27 5:Nat)] W (.tuple #[.int .i64 A,.int .i64 Y]))) (h:cutN w 12 3=2) (g1:(A != 73)=true) (g2:(A != 84)=true) :
  TB 135 #[.int .u32 w] W (.agg #[.int .i64 A,.int .i64 (cutN w 7 5:Nat),.int .i64 (cutN w 15 5:Nat),.int .i64 (cutN w 20 5:Nat),.int .i64 0]):=by
 go_enter func135,ntmps135;go_wp2_with (first | (go_at_call 121;(first | (with_reducible first | refine (zaR w _).tq ?_ | refine (zdw w _).tq ?_ | refine (zco w _).tq ?_))) | (go_at_call 194;with_reducible refine (H.out _).tq ?_) | ((first | (go_at_call 132;with_reducible refine (zc5 w _ _).mono ?_) | (go_at_call 125;with_reducible refine (zbT w _ _ _).mono ?_));rintro e w1 ⟨rfl,hb1⟩;obtain ⟨hc1,hf1⟩:=za9 hb1));refine bodyPost_ret (v:=.agg #[.int .i64 A,.int .i64 (cutN w 7 5:Nat),.int .i64 (cutN w 15 5:Nat),.int .i64 (cutN w 20 5:Nat),.int .i64 0]) (by simp [results,results135,go_sem,hc1]) rfl ?_
 exact ⟨rfl,fin5 hb1 _ _ _ _ _⟩
theorem zme (w:Nat) (W:World) (X:Int) (H:Hid (∀ W,TW 194 #[.int .u32 (cutN w 27 5:Nat)] W (.tuple #[.int .i64 X,.int .i64 73]))) (h:cutN w 12 3=3) (z:cutN w 20 5=0) :
  TB 135 #[.int .u32 w] W (.agg #[.int .i64 73,.int .i64 (cutN w 7 5:Nat),.int .i64 (cutN w 15 5:Nat),.int .i64 0,.int .i64 0]):=by
 go_enter func135,ntmps135;go_wp2_with (first | (go_at_call 121;(first | (with_reducible first | refine (zaR w _).tq ?_ | refine (zdw w _).tq ?_ | refine (zco w _).tq ?_))) | (go_at_call 194;with_reducible refine (H.out _).tq ?_) | ((first | (go_at_call 132;with_reducible refine (zc5 w _ _).mono ?_) | (go_at_call 125;with_reducible refine (zbT w _ _ _).mono ?_));rintro e w1 ⟨rfl,hb1⟩;obtain ⟨hc1,hf1⟩:=za9 hb1));refine bodyPost_ret (v:=.agg #[.int .i64 73,.int .i64 (cutN w 7 5:Nat),.int .i64 (cutN w 15 5:Nat),.int .i64 0,.int .i64 0]) (by simp [results,results135,go_sem,hc1]) rfl ?_
 exact ⟨rfl,fin5 hb1 _ _ _ _ _⟩
theorem zwE (w:Nat) (W:World) (X:Int) (H:Hid (∀ W,TW 194 #[.int .u32 (cutN w 27 5:Nat)] W (.tuple #[.int .i64 X,.int .i64 73]))) (h:cutN w 12 3=3) (z:((cutN w 20 5:Nat) != (0:Int))=true) :
  TB 135 #[.int .u32 w] W (.agg #[.int .i64 0,.int .i64 0,.int .i64 0,.int .i64 0,.int .i64 0]):=by
 go_enter func135,ntmps135;go_wp2_with (first | (go_at_call 121;(first | (with_reducible first | refine (zaR w _).tq ?_ | refine (zdw w _).tq ?_ | refine (zco w _).tq ?_))) | (go_at_call 194;with_reducible refine (H.out _).tq ?_) | ((first | (go_at_call 132;with_reducible refine (zc5 w _ _).mono ?_) | (go_at_call 125;with_reducible refine (zbT w _ _ _).mono ?_));rintro e w1 ⟨rfl,hb1⟩;obtain ⟨hc1,hf1⟩:=za9 hb1))
 go_returns
 exact ⟨rfl,zag W _⟩
theorem zzj (w:Nat) (W:World) (X:Int) (H:Hid (∀ W,TW 194 #[.int .u32 (cutN w 27 5:Nat)] W (.tuple #[.int .i64 X,.int .i64 84]))) (h:cutN w 12 3=3) (z:cutN w 20 5=0) :
  TB 135 #[.int .u32 w] W (.agg #[.int .i64 84,.int .i64 (cutN w 7 5:Nat),.int .i64 (cutN w 15 5:Nat),.int .i64 0,.int .i64 0]):=by
 go_enter func135,ntmps135;go_wp2_with (first | (go_at_call 121;(first | (with_reducible first | refine (zaR w _).tq ?_ | refine (zdw w _).tq ?_ | refine (zco w _).tq ?_))) | (go_at_call 194;with_reducible refine (H.out _).tq ?_) | ((first | (go_at_call 132;with_reducible refine (zc5 w _ _).mono ?_) | (go_at_call 125;with_reducible refine (zbT w _ _ _).mono ?_));rintro e w1 ⟨rfl,hb1⟩;obtain ⟨hc1,hf1⟩:=za9 hb1));refine bodyPost_ret (v:=.agg #[.int .i64 84,.int .i64 (cutN w 7 5:Nat),.int .i64 (cutN w 15 5:Nat),.int .i64 0,.int .i64 0]) (by simp [results,results135,go_sem,hc1]) rfl ?_
 exact ⟨rfl,fin5 hb1 _ _ _ _ _⟩
theorem zAk (w:Nat) (W:World) (X:Int) (H:Hid (∀ W,TW 194 #[.int .u32 (cutN w 27 5:Nat)] W (.tuple #[.int .i64 X,.int .i64 84]))) (h:cutN w 12 3=3) (z:((cutN w 20 5:Nat) != (0:Int))=true) :
  TB 135 #[.int .u32 w] W (.agg #[.int .i64 0,.int .i64 0,.int .i64 0,.int .i64 0,.int .i64 0]):=by
 go_enter func135,ntmps135;go_wp2_with (first | (go_at_call 121;(first | (with_reducible first | refine (zaR w _).tq ?_ | refine (zdw w _).tq ?_ | refine (zco w _).tq ?_))) | (go_at_call 194;with_reducible refine (H.out _).tq ?_) | ((first | (go_at_call 132;with_reducible refine (zc5 w _ _).mono ?_) | (go_at_call 125;with_reducible refine (zbT w _ _ _).mono ?_));rintro e w1 ⟨rfl,hb1⟩;obtain ⟨hc1,hf1⟩:=za9 hb1))
 go_returns
 exact ⟨rfl,zag W _⟩
theorem zmg (w:Nat) (W:World) (A X:Int) (H:Hid (∀ W,TW 194 #[.int .u32 (cutN w 27 5:Nat)] W (.tuple #[.int .i64 X,.int .i64 A]))) (h:cutN w 12 3=3) (g1:(A != 73)=true) (g2:(A != 84)=true) :
  TB 135 #[.int .u32 w] W (.agg #[.int .i64 A,.int .i64 (cutN w 7 5:Nat),.int .i64 (cutN w 15 5:Nat),.int .i64 (cutN w 20 5:Nat),.int .i64 0]):=by
 go_enter func135,ntmps135;go_wp2_with (first | (go_at_call 121;(first | (with_reducible first | refine (zaR w _).tq ?_ | refine (zdw w _).tq ?_ | refine (zco w _).tq ?_))) | (go_at_call 194;with_reducible refine (H.out _).tq ?_) | ((first | (go_at_call 132;with_reducible refine (zc5 w _ _).mono ?_) | (go_at_call 125;with_reducible refine (zbT w _ _ _).mono ?_));rintro e w1 ⟨rfl,hb1⟩;obtain ⟨hc1,hf1⟩:=za9 hb1));refine bodyPost_ret (v:=.agg #[.int .i64 A,.int .i64 (cutN w 7 5:Nat),.int .i64 (cutN w 15 5:Nat),.int .i64 (cutN w 20 5:Nat),.int .i64 0]) (by simp [results,results135,go_sem,hc1]) rfl ?_
 exact ⟨rfl,fin5 hb1 _ _ _ _ _⟩
theorem zyv (w:Nat) (W:World) (X Y:Int) (H:Hid (∀ W,TW 194 #[.int .u32 (cutN w 27 5:Nat)] W (.tuple #[.int .i64 X,.int .i64 Y]))) (h2:((cutN w 12 3:Nat)==(2:Int))=false) (h3:((cutN w 12 3:Nat)==(3:Int))=false) :
  TB 135 #[.int .u32 w] W (.agg #[.int .i64 0,.int .i64 (cutN w 7 5:Nat),.int .i64 (cutN w 15 5:Nat),.int .i64 (cutN w 20 5:Nat),.int .i64 0]):=by
 go_enter func135,ntmps135;go_wp2_with (first | (go_at_call 121;(first | (with_reducible first | refine (zaR w _).tq ?_ | refine (zdw w _).tq ?_ | refine (zco w _).tq ?_))) | (go_at_call 194;with_reducible refine (H.out _).tq ?_) | ((first | (go_at_call 132;with_reducible refine (zc5 w _ _).mono ?_) | (go_at_call 125;with_reducible refine (zbT w _ _ _).mono ?_));rintro e w1 ⟨rfl,hb1⟩;obtain ⟨hc1,hf1⟩:=za9 hb1));refine bodyPost_ret (v:=.agg #[.int .i64 0,.int .i64 (cutN w 7 5:Nat),.int .i64 (cutN w 15 5:Nat),.int .i64 (cutN w 20 5:Nat),.int .i64 0]) (by simp [results,results135,go_sem,hc1]) rfl ?_
 exact ⟨rfl,fin5 hb1 _ _ _ _ _⟩
theorem zvT (w:Nat) (W:World) :
  TB 135 #[.int .u32 w] W (.agg #[.int .i64 (za5 w).op,.int .i64 (za5 w).rd,.int .i64 (za5 w).rs1,.int .i64 (za5 w).rs2,.int .i64 (za5 w).imm]):=by
 have H:=fun W':World=>zl8 (cutN w 27 5) W'
 have key:∀ A:Int,opA (cutN w 12 3) (cutN w 27 5)=A→(∀ a b c d e:Int,za5 w=⟨a,b,c,d,e⟩→Calls Tryz.prog 135 #[.int .u32 w] W (fun e' W'=>e'=.returned (.agg #[.int .i64 a,.int .i64 b,.int .i64 c,.int .i64 d,.int .i64 e])∧Below W.heap.size W W')→TB 135 #[.int .u32 w] W (.agg #[.int .i64 (za5 w).op,.int .i64 (za5 w).rd,.int .i64 (za5 w).rs1,.int .i64 (za5 w).rs2,.int .i64 (za5 w).imm])):=by
  intro A _ a b c d e he h;rw [he];exact h
 by_cases h2:cutN w 12 3=2
 ·have e:opA (cutN w 12 3) (cutN w 27 5)=aW (cutN w 27 5):=by unfold opA;rw [if_pos h2]
  by_cases h73:aW (cutN w 27 5)=73
  ·rw [h73] at H
   by_cases z:cutN w 20 5=0
   ·exact key _ rfl _ _ _ _ _ (by unfold za5;rw [e,h73,if_pos (Or.inl rfl),if_pos z]) (zmt w W _ (hid H) h2 z)
   ·exact key _ rfl _ _ _ _ _ (by unfold za5;rw [e,h73,if_pos (Or.inl rfl),if_neg z];rfl) (zmu w W _ (hid H) h2 (by rw [bne_iff_ne];omega))
  ·by_cases h84:aW (cutN w 27 5)=84
   ·rw [h84] at H
    by_cases z:cutN w 20 5=0
    ·exact key _ rfl _ _ _ _ _ (by unfold za5;rw [e,h84,if_pos (Or.inr rfl),if_pos z]) (zAq w W _ (hid H) h2 z)
    ·exact key _ rfl _ _ _ _ _ (by unfold za5;rw [e,h84,if_pos (Or.inr rfl),if_neg z];rfl) (zpb w W _ (hid H) h2 (by rw [bne_iff_ne];omega))
   ·exact key _ rfl _ _ _ _ _ (by unfold za5;rw [e,if_neg (by omega)]) (zoi w W _ _ (hid H) h2 (by rw [bne_iff_ne];omega) (by rw [bne_iff_ne];omega))
 ·by_cases h3:cutN w 12 3=3
  ·have e:opA (cutN w 12 3) (cutN w 27 5)=aD (cutN w 27 5):=by unfold opA;rw [if_neg h2,if_pos h3]
   by_cases h73:aD (cutN w 27 5)=73
   ·rw [h73] at H
    by_cases z:cutN w 20 5=0
    ·exact key _ rfl _ _ _ _ _ (by unfold za5;rw [e,h73,if_pos (Or.inl rfl),if_pos z]) (zme w W _ (hid H) h3 z)
    ·exact key _ rfl _ _ _ _ _ (by unfold za5;rw [e,h73,if_pos (Or.inl rfl),if_neg z];rfl) (zwE w W _ (hid H) h3 (by rw [bne_iff_ne];omega))
   ·by_cases h84:aD (cutN w 27 5)=84
    ·rw [h84] at H
     by_cases z:cutN w 20 5=0
     ·exact key _ rfl _ _ _ _ _ (by unfold za5;rw [e,h84,if_pos (Or.inr rfl),if_pos z]) (zzj w W _ (hid H) h3 z)
     ·exact key _ rfl _ _ _ _ _ (by unfold za5;rw [e,h84,if_pos (Or.inr rfl),if_neg z];rfl) (zAk w W _ (hid H) h3 (by rw [bne_iff_ne];omega))
    ·exact key _ rfl _ _ _ _ _ (by unfold za5;rw [e,if_neg (by omega)]) (zmg w W _ _ (hid H) h3 (by rw [bne_iff_ne];omega) (by rw [bne_iff_ne];omega))
  ·have e:opA (cutN w 12 3) (cutN w 27 5)=0:=by unfold opA;rw [if_neg h2,if_neg h3]
   exact key _ rfl _ _ _ _ _ (by unfold za5;rw [e,if_neg (by omega)]) (zyv w W _ _ (hid H) (by rw [beq_eq_false_iff_ne];omega) (by rw [beq_eq_false_iff_ne];omega))
end Go.Proofs.YtplcfdnfeclpmaaGreatDoor.De
namespace Go.Proofs.YtplcfdnfeclpmaaGreatDoor.De
structure zeh (W w2:World):Prop where
 b:Below W.heap.size W w2
 lt:W.heap.size<w2.heap.size
 c0:w2.cell? ⟨W.heap.size,0,none⟩=some (.int .i64 0)
 c1:w2.cell? ⟨W.heap.size,1,none⟩=some (.int .i64 0)
 c2:w2.cell? ⟨W.heap.size,2,none⟩=some (.int .i64 0)
 c3:w2.cell? ⟨W.heap.size,3,none⟩=some (.int .i64 0)
 c4:w2.cell? ⟨W.heap.size,4,none⟩=some (.int .i64 0)
 f:∀ i,w2.frozen? ⟨W.heap.size,i,none⟩=false
theorem zd7 (W:World):zeh W (W.alloc (.cells #[.int .i64 0,.int .i64 0,.int .i64 0,.int .i64 0,.int .i64 0] 80)):=by
 refine ⟨zag W _,by simp,?_,?_,?_,?_,?_,?_⟩
 all_goals first | (intro i;simp;done) | (simp;done)
theorem zeh.drew {W w0:World} (h:zeh W w0):zeh W { w0 with drawn:=w0.drawn+1 }:=⟨h.b.drew,h.lt,h.c0,h.c1,h.c2,h.c3,h.c4,h.f⟩
theorem zeQ {W w2 w1:World} (h:zeh W w2) (hb:Below w2.heap.size w2 w1) (a b c d e:Value) :
  Below W.heap.size W (((((w1.setCell ⟨W.heap.size,0,none⟩ a).setCell ⟨W.heap.size,1,none⟩ b).setCell ⟨W.heap.size,2,none⟩ c).setCell ⟨W.heap.size,3,none⟩ d).setCell ⟨W.heap.size,4,none⟩ e) :=
 (((((h.b.trans (hb.mono (Nat.le_of_lt h.lt))).setCell (Nat.le_refl _) _).setCell (Nat.le_refl _) _).setCell (Nat.le_refl _) _).setCell (Nat.le_refl _) _).setCell (Nat.le_refl _) _
theorem zxP (w:Nat) (W:World)  (g0:(((cutN w 12 3:Nat):Int)==(1:Int))=true) (g1:(((cutN w 26 6:Nat):Int)==(0:Int))=true) :
  TB 130 #[.int .u32 w] W (.agg #[.int .i64 28,.int .i64 (cutN w 7 5:Nat),.int .i64 (cutN w 15 5:Nat),.int .i64 0,.int .i64 (cutN w 20 6:Nat)]):=by
 have l20_6:=zfg w;go_enter func130,ntmps130;go_wp2_with (first | (go_at_call 121;(first | (with_reducible first | refine (zaR w _).tq ?_ | refine (zeW w _).tq ?_ | refine (zeX w _).tq ?_))) | (go_at_call 125;(with_reducible refine (zbT w _ _ _).mono ?_);rintro e w1 ⟨rfl,hb1⟩;obtain ⟨hc1,hf1⟩:=za9 hb1));refine bodyPost_ret (v:=.agg #[.int .i64 28,.int .i64 (cutN w 7 5:Nat),.int .i64 (cutN w 15 5:Nat),.int .i64 0,.int .i64 (cutN w 20 6:Nat)]) (by simp [results,results130,go_sem,hc1]) rfl ?_
 exact ⟨rfl,fin5 hb1 _ _ _ _ _⟩
theorem zpN (w:Nat) (W:World)  (g0:(((cutN w 12 3:Nat):Int)==(1:Int))=false) (g1:(((cutN w 12 3:Nat):Int)==(5:Int))=true) (g2:(((cutN w 26 6:Nat):Int)==(0:Int))=true) :
  TB 130 #[.int .u32 w] W (.agg #[.int .i64 29,.int .i64 (cutN w 7 5:Nat),.int .i64 (cutN w 15 5:Nat),.int .i64 0,.int .i64 (cutN w 20 6:Nat)]):=by
 have l20_6:=zfg w;go_enter func130,ntmps130;go_wp2_with (first | (go_at_call 121;(first | (with_reducible first | refine (zaR w _).tq ?_ | refine (zeW w _).tq ?_ | refine (zeX w _).tq ?_))) | (go_at_call 125;(with_reducible refine (zbT w _ _ _).mono ?_);rintro e w1 ⟨rfl,hb1⟩;obtain ⟨hc1,hf1⟩:=za9 hb1));refine bodyPost_ret (v:=.agg #[.int .i64 29,.int .i64 (cutN w 7 5:Nat),.int .i64 (cutN w 15 5:Nat),.int .i64 0,.int .i64 (cutN w 20 6:Nat)]) (by simp [results,results130,go_sem,hc1]) rfl ?_
 exact ⟨rfl,fin5 hb1 _ _ _ _ _⟩
theorem ztC (w:Nat) (W:World)  (g0:(((cutN w 12 3:Nat):Int)==(1:Int))=false) (g1:(((cutN w 12 3:Nat):Int)==(5:Int))=true) (g2:(((cutN w 26 6:Nat):Int)==(0:Int))=false) (g3:(((cutN w 26 6:Nat):Int)==(16:Int))=true) :
  TB 130 #[.int .u32 w] W (.agg #[.int .i64 30,.int .i64 (cutN w 7 5:Nat),.int .i64 (cutN w 15 5:Nat),.int .i64 0,.int .i64 (cutN w 20 6:Nat)]):=by
 have l20_6:=zfg w;go_enter func130,ntmps130;go_wp2_with (first | (go_at_call 121;(first | (with_reducible first | refine (zaR w _).tq ?_ | refine (zeW w _).tq ?_ | refine (zeX w _).tq ?_))) | (go_at_call 125;(with_reducible refine (zbT w _ _ _).mono ?_);rintro e w1 ⟨rfl,hb1⟩;obtain ⟨hc1,hf1⟩:=za9 hb1));refine bodyPost_ret (v:=.agg #[.int .i64 30,.int .i64 (cutN w 7 5:Nat),.int .i64 (cutN w 15 5:Nat),.int .i64 0,.int .i64 (cutN w 20 6:Nat)]) (by simp [results,results130,go_sem,hc1]) rfl ?_
 exact ⟨rfl,fin5 hb1 _ _ _ _ _⟩
theorem zuY (w:Nat) (W:World) (hL:Laid W) (g0:(((cutN w 12 3:Nat):Int)==(1:Int))=true) (g1:(((cutN w 12 3:Nat):Int)==(5:Int))=false) (g2:(((cutN w 26 6:Nat):Int)==(0:Int))=false) :
  TB 130 #[.int .u32 w] W (.agg #[.int .i64 (row 4 (cutN w 12 3)),.int .i64 (cutN w 7 5:Nat),.int .i64 (cutN w 15 5:Nat),.int .i64 0,.int .i64 (immI w)]):=by
 have h3:=zb1 w;have hc0:=hL.2 4 _ (by omega) h3;have i0:(0:Int)≤(cutN w 12 3:Nat):=by omega
 have i1:((cutN w 12 3:Nat):Int)<8:=by omega
 have h12:=hL.1;clear hL;have l20_6:=zfg w;go_enter func130,ntmps130;go_wp2_with (go_at_call 121;(first | (with_reducible first | refine (zaR w _).tq ?_ | refine (zeW w _).tq ?_ | refine (zeX w _).tq ?_)));have HF0:=hid (zd7 W);generalize W.alloc (.cells #[.int .i64 0,.int .i64 0,.int .i64 0,.int .i64 0,.int .i64 0] 80)=w0 at HF0 ⊢;refine wp_region_still_tail 6 (by kernel_rfl) (by kernel_rfl) ?_
 simp only [List.take_succ_cons,List.take_zero,List.drop_succ_cons,List.drop_zero];have HF:=hid HF0.out.drew;generalize { w0 with drawn:=w0.drawn+1 }=w2 at HF ⊢;obtain ⟨c0,c1,c2,c3,c4⟩:=And.intro HF.out.c0 (And.intro HF.out.c1 (And.intro HF.out.c2 (And.intro HF.out.c3 HF.out.c4)));have ff:=HF.out.f;have ll:=HF.out.lt;have hc5:=(HF.out.b.cell (p:=⟨4,cutN w 12 3,none⟩) (by show 4<_;omega)).trans hc0
 repeat still_step
 still_call ((zff w _).mono fun _ _ h=>⟨h.1,h.2.symm⟩)
 repeat still_step
 refine wpStill_nil ?_
 go_wp2_with (go_at_call 125;(with_reducible refine (zbT w _ _ _).mono ?_);rintro e w1 ⟨rfl,hb1⟩;obtain ⟨hc1,hf1⟩:=za9 hb1);refine bodyPost_ret (v:=.agg #[.int .i64 (row 4 (cutN w 12 3)),.int .i64 (cutN w 7 5:Nat),.int .i64 (cutN w 15 5:Nat),.int .i64 0,.int .i64 (immI w)]) (by simp [results,results130,go_sem,hc1,ll,c0,c1,c2,c3,c4]) rfl ?_
 exact ⟨rfl,zeQ HF.out hb1 _ _ _ _ _⟩
theorem zzY (w:Nat) (W:World) (hL:Laid W) (g0:(((cutN w 12 3:Nat):Int)==(1:Int))=false) (g1:(((cutN w 12 3:Nat):Int)==(5:Int))=true) (g2:(((cutN w 26 6:Nat):Int)==(0:Int))=false) (g3:(((cutN w 26 6:Nat):Int)==(16:Int))=false) :
  TB 130 #[.int .u32 w] W (.agg #[.int .i64 (row 4 (cutN w 12 3)),.int .i64 (cutN w 7 5:Nat),.int .i64 (cutN w 15 5:Nat),.int .i64 0,.int .i64 (immI w)]):=by
 have h3:=zb1 w;have hc0:=hL.2 4 _ (by omega) h3;have i0:(0:Int)≤(cutN w 12 3:Nat):=by omega
 have i1:((cutN w 12 3:Nat):Int)<8:=by omega
 have h12:=hL.1;clear hL;have l20_6:=zfg w;go_enter func130,ntmps130;go_wp2_with (go_at_call 121;(first | (with_reducible first | refine (zaR w _).tq ?_ | refine (zeW w _).tq ?_ | refine (zeX w _).tq ?_)));have HF0:=hid (zd7 W);generalize W.alloc (.cells #[.int .i64 0,.int .i64 0,.int .i64 0,.int .i64 0,.int .i64 0] 80)=w0 at HF0 ⊢;refine wp_region_still_tail 6 (by kernel_rfl) (by kernel_rfl) ?_
 simp only [List.take_succ_cons,List.take_zero,List.drop_succ_cons,List.drop_zero];have HF:=hid HF0.out.drew;generalize { w0 with drawn:=w0.drawn+1 }=w2 at HF ⊢;obtain ⟨c0,c1,c2,c3,c4⟩:=And.intro HF.out.c0 (And.intro HF.out.c1 (And.intro HF.out.c2 (And.intro HF.out.c3 HF.out.c4)));have ff:=HF.out.f;have ll:=HF.out.lt;have hc5:=(HF.out.b.cell (p:=⟨4,cutN w 12 3,none⟩) (by show 4<_;omega)).trans hc0
 repeat still_step
 still_call ((zff w _).mono fun _ _ h=>⟨h.1,h.2.symm⟩)
 repeat still_step
 refine wpStill_nil ?_
 go_wp2_with (go_at_call 125;(with_reducible refine (zbT w _ _ _).mono ?_);rintro e w1 ⟨rfl,hb1⟩;obtain ⟨hc1,hf1⟩:=za9 hb1);refine bodyPost_ret (v:=.agg #[.int .i64 (row 4 (cutN w 12 3)),.int .i64 (cutN w 7 5:Nat),.int .i64 (cutN w 15 5:Nat),.int .i64 0,.int .i64 (immI w)]) (by simp [results,results130,go_sem,hc1,ll,c0,c1,c2,c3,c4]) rfl ?_
 exact ⟨rfl,zeQ HF.out hb1 _ _ _ _ _⟩
theorem zvI (w:Nat) (W:World) (hL:Laid W) (g0:(((cutN w 12 3:Nat):Int)==(1:Int))=false) (g1:(((cutN w 12 3:Nat):Int)==(5:Int))=false) :
  TB 130 #[.int .u32 w] W (.agg #[.int .i64 (row 4 (cutN w 12 3)),.int .i64 (cutN w 7 5:Nat),.int .i64 (cutN w 15 5:Nat),.int .i64 0,.int .i64 (immI w)]):=by
 have h3:=zb1 w;have hc0:=hL.2 4 _ (by omega) h3;have i0:(0:Int)≤(cutN w 12 3:Nat):=by omega
 have i1:((cutN w 12 3:Nat):Int)<8:=by omega
 have h12:=hL.1;clear hL;have l20_6:=zfg w;go_enter func130,ntmps130;go_wp2_with (go_at_call 121;(first | (with_reducible first | refine (zaR w _).tq ?_ | refine (zeW w _).tq ?_ | refine (zeX w _).tq ?_)));have HF0:=hid (zd7 W);generalize W.alloc (.cells #[.int .i64 0,.int .i64 0,.int .i64 0,.int .i64 0,.int .i64 0] 80)=w0 at HF0 ⊢;refine wp_region_still_tail 6 (by kernel_rfl) (by kernel_rfl) ?_
 simp only [List.take_succ_cons,List.take_zero,List.drop_succ_cons,List.drop_zero];have HF:=hid HF0.out.drew;generalize { w0 with drawn:=w0.drawn+1 }=w2 at HF ⊢;obtain ⟨c0,c1,c2,c3,c4⟩:=And.intro HF.out.c0 (And.intro HF.out.c1 (And.intro HF.out.c2 (And.intro HF.out.c3 HF.out.c4)));have ff:=HF.out.f;have ll:=HF.out.lt;have hc5:=(HF.out.b.cell (p:=⟨4,cutN w 12 3,none⟩) (by show 4<_;omega)).trans hc0
 repeat still_step
 still_call ((zff w _).mono fun _ _ h=>⟨h.1,h.2.symm⟩)
 repeat still_step
 refine wpStill_nil ?_
 go_wp2_with (go_at_call 125;(with_reducible refine (zbT w _ _ _).mono ?_);rintro e w1 ⟨rfl,hb1⟩;obtain ⟨hc1,hf1⟩:=za9 hb1);refine bodyPost_ret (v:=.agg #[.int .i64 (row 4 (cutN w 12 3)),.int .i64 (cutN w 7 5:Nat),.int .i64 (cutN w 15 5:Nat),.int .i64 0,.int .i64 (immI w)]) (by simp [results,results130,go_sem,hc1,ll,c0,c1,c2,c3,c4]) rfl ?_
 exact ⟨rfl,zeQ HF.out hb1 _ _ _ _ _⟩
theorem zos (w:Nat) (W:World)  (g0:(((cutN w 12 3:Nat):Int)==(0:Int))=true) :
  TB 131 #[.int .u32 w] W (.agg #[.int .i64 41,.int .i64 (cutN w 7 5:Nat),.int .i64 (cutN w 15 5:Nat),.int .i64 0,.int .i64 (immI w)]):=by
 have l20_5:=zew w;go_enter func131,ntmps131;go_wp2_with (first | (go_at_call 121;(first | (with_reducible first | refine (zaR w _).tq ?_ | refine (zcp w _).tq ?_ | refine (zco w _).tq ?_))) | (go_at_call 126;(first | (with_reducible refine (zff w _).tq ?_))) | (go_at_call 125;(with_reducible refine (zbT w _ _ _).mono ?_);rintro e w1 ⟨rfl,hb1⟩;obtain ⟨hc1,hf1⟩:=za9 hb1));refine bodyPost_ret (v:=.agg #[.int .i64 41,.int .i64 (cutN w 7 5:Nat),.int .i64 (cutN w 15 5:Nat),.int .i64 0,.int .i64 (immI w)]) (by simp [results,results131,go_sem,hc1]) rfl ?_
 exact ⟨rfl,fin5 hb1 _ _ _ _ _⟩
theorem zn1 (w:Nat) (W:World)  (g0:(((cutN w 12 3:Nat):Int)==(0:Int))=false) (g1:(((cutN w 12 3:Nat):Int)==(1:Int))=true) (g2:(((cutN w 25 7:Nat):Int)==(0:Int))=true) :
  TB 131 #[.int .u32 w] W (.agg #[.int .i64 42,.int .i64 (cutN w 7 5:Nat),.int .i64 (cutN w 15 5:Nat),.int .i64 0,.int .i64 (cutN w 20 5:Nat)]):=by
 have l20_5:=zew w;go_enter func131,ntmps131;go_wp2_with (first | (go_at_call 121;(first | (with_reducible first | refine (zaR w _).tq ?_ | refine (zcp w _).tq ?_ | refine (zco w _).tq ?_))) | (go_at_call 125;(with_reducible refine (zbT w _ _ _).mono ?_);rintro e w1 ⟨rfl,hb1⟩;obtain ⟨hc1,hf1⟩:=za9 hb1));refine bodyPost_ret (v:=.agg #[.int .i64 42,.int .i64 (cutN w 7 5:Nat),.int .i64 (cutN w 15 5:Nat),.int .i64 0,.int .i64 (cutN w 20 5:Nat)]) (by simp [results,results131,go_sem,hc1]) rfl ?_
 exact ⟨rfl,fin5 hb1 _ _ _ _ _⟩
theorem zpf (w:Nat) (W:World)  (g0:(((cutN w 12 3:Nat):Int)==(0:Int))=false) (g1:(((cutN w 12 3:Nat):Int)==(1:Int))=false) (g2:(((cutN w 12 3:Nat):Int)==(5:Int))=true) (g3:(((cutN w 25 7:Nat):Int)==(0:Int))=true) :
  TB 131 #[.int .u32 w] W (.agg #[.int .i64 43,.int .i64 (cutN w 7 5:Nat),.int .i64 (cutN w 15 5:Nat),.int .i64 0,.int .i64 (cutN w 20 5:Nat)]):=by
 have l20_5:=zew w;go_enter func131,ntmps131;go_wp2_with (first | (go_at_call 121;(first | (with_reducible first | refine (zaR w _).tq ?_ | refine (zcp w _).tq ?_ | refine (zco w _).tq ?_))) | (go_at_call 125;(with_reducible refine (zbT w _ _ _).mono ?_);rintro e w1 ⟨rfl,hb1⟩;obtain ⟨hc1,hf1⟩:=za9 hb1));refine bodyPost_ret (v:=.agg #[.int .i64 43,.int .i64 (cutN w 7 5:Nat),.int .i64 (cutN w 15 5:Nat),.int .i64 0,.int .i64 (cutN w 20 5:Nat)]) (by simp [results,results131,go_sem,hc1]) rfl ?_
 exact ⟨rfl,fin5 hb1 _ _ _ _ _⟩
theorem zto (w:Nat) (W:World)  (g0:(((cutN w 12 3:Nat):Int)==(0:Int))=false) (g1:(((cutN w 12 3:Nat):Int)==(1:Int))=false) (g2:(((cutN w 12 3:Nat):Int)==(5:Int))=true) (g3:(((cutN w 25 7:Nat):Int)==(0:Int))=false) (g4:(((cutN w 25 7:Nat):Int)==(32:Int))=true) :
  TB 131 #[.int .u32 w] W (.agg #[.int .i64 44,.int .i64 (cutN w 7 5:Nat),.int .i64 (cutN w 15 5:Nat),.int .i64 0,.int .i64 (cutN w 20 5:Nat)]):=by
 have l20_5:=zew w;go_enter func131,ntmps131;go_wp2_with (first | (go_at_call 121;(first | (with_reducible first | refine (zaR w _).tq ?_ | refine (zcp w _).tq ?_ | refine (zco w _).tq ?_))) | (go_at_call 125;(with_reducible refine (zbT w _ _ _).mono ?_);rintro e w1 ⟨rfl,hb1⟩;obtain ⟨hc1,hf1⟩:=za9 hb1));refine bodyPost_ret (v:=.agg #[.int .i64 44,.int .i64 (cutN w 7 5:Nat),.int .i64 (cutN w 15 5:Nat),.int .i64 0,.int .i64 (cutN w 20 5:Nat)]) (by simp [results,results131,go_sem,hc1]) rfl ?_
 exact ⟨rfl,fin5 hb1 _ _ _ _ _⟩
theorem zmT (w:Nat) (W:World)  (g0:(((cutN w 12 3:Nat):Int)==(0:Int))=false) (g1:(((cutN w 12 3:Nat):Int)==(1:Int))=true) (g2:(((cutN w 12 3:Nat):Int)==(5:Int))=false) (g3:(((cutN w 25 7:Nat):Int)==(0:Int))=false) :
  TB 131 #[.int .u32 w] W (.agg #[.int .i64 0,.int .i64 0,.int .i64 0,.int .i64 0,.int .i64 0]):=by
 have l20_5:=zew w;go_enter func131,ntmps131;go_wp2_with (go_at_call 121;(first | (with_reducible first | refine (zaR w _).tq ?_ | refine (zcp w _).tq ?_ | refine (zco w _).tq ?_)))
 go_returns
 exact ⟨rfl,zag W _⟩
theorem zx7 (w:Nat) (W:World)  (g0:(((cutN w 12 3:Nat):Int)==(0:Int))=false) (g1:(((cutN w 12 3:Nat):Int)==(1:Int))=false) (g2:(((cutN w 12 3:Nat):Int)==(5:Int))=true) (g3:(((cutN w 25 7:Nat):Int)==(0:Int))=false) (g4:(((cutN w 25 7:Nat):Int)==(32:Int))=false) :
  TB 131 #[.int .u32 w] W (.agg #[.int .i64 0,.int .i64 0,.int .i64 0,.int .i64 0,.int .i64 0]):=by
 have l20_5:=zew w;go_enter func131,ntmps131;go_wp2_with (go_at_call 121;(first | (with_reducible first | refine (zaR w _).tq ?_ | refine (zcp w _).tq ?_ | refine (zco w _).tq ?_)))
 go_returns
 exact ⟨rfl,zag W _⟩
theorem zlN (w:Nat) (W:World)  (g0:(((cutN w 12 3:Nat):Int)==(0:Int))=false) (g1:(((cutN w 12 3:Nat):Int)==(1:Int))=false) (g2:(((cutN w 12 3:Nat):Int)==(5:Int))=false) :
  TB 131 #[.int .u32 w] W (.agg #[.int .i64 0,.int .i64 0,.int .i64 0,.int .i64 0,.int .i64 0]):=by
 have l20_5:=zew w;go_enter func131,ntmps131;go_wp2_with (go_at_call 121;(first | (with_reducible first | refine (zaR w _).tq ?_ | refine (zcp w _).tq ?_ | refine (zco w _).tq ?_)))
 go_returns
 exact ⟨rfl,zag W _⟩
theorem zrQ (w:Nat) (W:World)  (g0:(((cutN w 12 3:Nat):Int) != (0:Int))=false) (g1:(((w:Nat):Int)==(115:Int))=true) :
  TB 136 #[.int .u32 w] W (.agg #[.int .i64 52,.int .i64 0,.int .i64 0,.int .i64 0,.int .i64 0]):=by
 go_enter func136,ntmps136;go_wp2_with (go_at_call 121;(first | (with_reducible first | refine (zaR w _).tq ?_ | refine (zdH w _).tq ?_ | refine (zcp w _).tq ?_)))
 go_returns
 exact ⟨rfl,zag W _⟩
theorem zuQ (w:Nat) (W:World)  (g0:(((cutN w 12 3:Nat):Int) != (0:Int))=false) (g1:(((w:Nat):Int)==(115:Int))=false) (g2:(((w:Nat):Int)==(1048691:Int))=true) :
  TB 136 #[.int .u32 w] W (.agg #[.int .i64 53,.int .i64 0,.int .i64 0,.int .i64 0,.int .i64 0]):=by
 go_enter func136,ntmps136;go_wp2_with (go_at_call 121;(first | (with_reducible first | refine (zaR w _).tq ?_ | refine (zdH w _).tq ?_ | refine (zcp w _).tq ?_)))
 go_returns
 exact ⟨rfl,zag W _⟩
theorem zsy (w:Nat) (W:World)  (g0:(((cutN w 12 3:Nat):Int) != (0:Int))=false) (g1:(((w:Nat):Int)==(115:Int))=false) (g2:(((w:Nat):Int)==(1048691:Int))=false) (g3:(((w:Nat):Int)==(807403635:Int))=true) :
  TB 136 #[.int .u32 w] W (.agg #[.int .i64 95,.int .i64 0,.int .i64 0,.int .i64 0,.int .i64 0]):=by
 go_enter func136,ntmps136;go_wp2_with (go_at_call 121;(first | (with_reducible first | refine (zaR w _).tq ?_ | refine (zdH w _).tq ?_ | refine (zcp w _).tq ?_)))
 go_returns
 exact ⟨rfl,zag W _⟩
theorem znx (w:Nat) (W:World)  (g0:(((cutN w 12 3:Nat):Int) != (0:Int))=false) (g1:(((w:Nat):Int)==(115:Int))=false) (g2:(((w:Nat):Int)==(1048691:Int))=false) (g3:(((w:Nat):Int)==(807403635:Int))=false) (g4:(((w:Nat):Int)==(270532723:Int))=true) :
  TB 136 #[.int .u32 w] W (.agg #[.int .i64 96,.int .i64 0,.int .i64 0,.int .i64 0,.int .i64 0]):=by
 go_enter func136,ntmps136;go_wp2_with (go_at_call 121;(first | (with_reducible first | refine (zaR w _).tq ?_ | refine (zdH w _).tq ?_ | refine (zcp w _).tq ?_)))
 go_returns
 exact ⟨rfl,zag W _⟩
theorem zAf (w:Nat) (W:World)  (g0:(((cutN w 12 3:Nat):Int) != (0:Int))=false) (g1:(((w:Nat):Int)==(115:Int))=false) (g2:(((w:Nat):Int)==(1048691:Int))=false) (g3:(((w:Nat):Int)==(807403635:Int))=false) (g4:(((w:Nat):Int)==(270532723:Int))=false) (g5:(((w:Nat):Int)==(273678451:Int))=true) :
  TB 136 #[.int .u32 w] W (.agg #[.int .i64 97,.int .i64 0,.int .i64 0,.int .i64 0,.int .i64 0]):=by
 go_enter func136,ntmps136;go_wp2_with (go_at_call 121;(first | (with_reducible first | refine (zaR w _).tq ?_ | refine (zdH w _).tq ?_ | refine (zcp w _).tq ?_)))
 go_returns
 exact ⟨rfl,zag W _⟩
theorem zsV (w:Nat) (W:World)  (g0:(((cutN w 12 3:Nat):Int) != (0:Int))=false) (g1:(((w:Nat):Int)==(115:Int))=false) (g2:(((w:Nat):Int)==(1048691:Int))=false) (g3:(((w:Nat):Int)==(807403635:Int))=false) (g4:(((w:Nat):Int)==(270532723:Int))=false) (g5:(((w:Nat):Int)==(273678451:Int))=false) (g6:(((cutN w 25 7:Nat):Int)==(9:Int))=true) (g7:(((cutN w 7 5:Nat):Int)==(0:Int))=true) :
  TB 136 #[.int .u32 w] W (.agg #[.int .i64 98,.int .i64 0,.int .i64 (cutN w 15 5:Nat),.int .i64 (cutN w 20 5:Nat),.int .i64 0]):=by
 go_enter func136,ntmps136;go_wp2_with (first | (go_at_call 121;(first | (with_reducible first | refine (zaR w _).tq ?_ | refine (zdH w _).tq ?_ | refine (zcp w _).tq ?_))) | (go_at_call 190;(first | (with_reducible refine (zft w _).tq ?_))) | (go_at_call 127;(with_reducible refine (zhv w _ _ _).mono ?_);rintro e w1 ⟨rfl,hb1⟩;obtain ⟨hc1,hf1⟩:=za9 hb1));refine bodyPost_ret (v:=.agg #[.int .i64 98,.int .i64 0,.int .i64 (cutN w 15 5:Nat),.int .i64 (cutN w 20 5:Nat),.int .i64 0]) (by simp [results,results136,go_sem,hc1]) rfl ?_
 exact ⟨rfl,fin5 hb1 _ _ _ _ _⟩
theorem ztc (w:Nat) (W:World)  (g0:(((cutN w 12 3:Nat):Int) != (0:Int))=false) (g1:(((w:Nat):Int)==(115:Int))=false) (g2:(((w:Nat):Int)==(1048691:Int))=false) (g3:(((w:Nat):Int)==(807403635:Int))=false) (g4:(((w:Nat):Int)==(270532723:Int))=false) (g5:(((w:Nat):Int)==(273678451:Int))=false) (g6:(((cutN w 25 7:Nat):Int)==(9:Int))=false) :
  TB 136 #[.int .u32 w] W (.agg #[.int .i64 0,.int .i64 0,.int .i64 0,.int .i64 0,.int .i64 0]):=by
 go_enter func136,ntmps136;go_wp2_with (first | (go_at_call 121;(first | (with_reducible first | refine (zaR w _).tq ?_ | refine (zdH w _).tq ?_ | refine (zcp w _).tq ?_))) | (go_at_call 190;(first | (with_reducible refine (zft w _).tq ?_))))
 go_returns
 exact ⟨rfl,zag W _⟩
theorem zod (w:Nat) (W:World)  (g0:(((cutN w 12 3:Nat):Int) != (0:Int))=false) (g1:(((w:Nat):Int)==(115:Int))=false) (g2:(((w:Nat):Int)==(1048691:Int))=false) (g3:(((w:Nat):Int)==(807403635:Int))=false) (g4:(((w:Nat):Int)==(270532723:Int))=false) (g5:(((w:Nat):Int)==(273678451:Int))=false) (g6:(((cutN w 25 7:Nat):Int)==(9:Int))=true) (g7:(((cutN w 7 5:Nat):Int)==(0:Int))=false) :
  TB 136 #[.int .u32 w] W (.agg #[.int .i64 0,.int .i64 0,.int .i64 0,.int .i64 0,.int .i64 0]):=by
 go_enter func136,ntmps136;go_wp2_with (first | (go_at_call 121;(first | (with_reducible first | refine (zaR w _).tq ?_ | refine (zdH w _).tq ?_ | refine (zcp w _).tq ?_))) | (go_at_call 190;(first | (with_reducible refine (zft w _).tq ?_))))
 go_returns
 exact ⟨rfl,zag W _⟩
theorem zyy (w:Nat) (W:World) (hL:Laid W) (g0:(((cutN w 12 3:Nat):Int) != (0:Int))=true) :
  TB 136 #[.int .u32 w] W (.agg #[.int .i64 (row 11 (cutN w 12 3)),.int .i64 (cutN w 7 5:Nat),.int .i64 (cutN w 15 5:Nat),.int .i64 0,.int .i64 (cutN w 20 12:Nat)]):=by
 have h3:=zb1 w;have hc0:=hL.2 11 _ (by omega) h3;have i0:(0:Int)≤(cutN w 12 3:Nat):=by omega
 have i1:((cutN w 12 3:Nat):Int)<8:=by omega
 have h12:=hL.1;clear hL;have l20_12:=ziB w;go_enter func136,ntmps136;go_wp2_with (go_at_call 121;(first | (with_reducible first | refine (zaR w _).tq ?_ | refine (zdH w _).tq ?_ | refine (zcp w _).tq ?_)));have HF0:=hid (zd7 W);generalize W.alloc (.cells #[.int .i64 0,.int .i64 0,.int .i64 0,.int .i64 0,.int .i64 0] 80)=w0 at HF0 ⊢;refine wp_region_still_tail 7 (by kernel_rfl) (by kernel_rfl) ?_
 simp only [List.take_succ_cons,List.take_zero,List.drop_succ_cons,List.drop_zero];have HF:=hid HF0.out.drew;generalize { w0 with drawn:=w0.drawn+1 }=w2 at HF ⊢;obtain ⟨c0,c1,c2,c3,c4⟩:=And.intro HF.out.c0 (And.intro HF.out.c1 (And.intro HF.out.c2 (And.intro HF.out.c3 HF.out.c4)));have ff:=HF.out.f;have ll:=HF.out.lt;have hc5:=(HF.out.b.cell (p:=⟨11,cutN w 12 3,none⟩) (by show 11<_;omega)).trans hc0
 repeat still_step
 still_call ((zdH w _).mono fun _ _ h=>⟨h.1,h.2.symm⟩)
 repeat still_step
 refine wpStill_nil ?_
 go_wp2_with (go_at_call 125;(with_reducible refine (zbT w _ _ _).mono ?_);rintro e w1 ⟨rfl,hb1⟩;obtain ⟨hc1,hf1⟩:=za9 hb1);refine bodyPost_ret (v:=.agg #[.int .i64 (row 11 (cutN w 12 3)),.int .i64 (cutN w 7 5:Nat),.int .i64 (cutN w 15 5:Nat),.int .i64 0,.int .i64 (cutN w 20 12:Nat)]) (by simp [results,results136,go_sem,hc1,ll,c0,c1,c2,c3,c4]) rfl ?_
 exact ⟨rfl,zeQ HF.out hb1 _ _ _ _ _⟩
end Go.Proofs.YtplcfdnfeclpmaaGreatDoor.De
