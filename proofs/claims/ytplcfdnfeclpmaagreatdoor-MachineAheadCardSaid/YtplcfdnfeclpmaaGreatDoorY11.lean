/- MachineAhead,part 11. -/
import Derived.Test.YtplcfdnfeclpmaaGreatDoorY10
set_option maxHeartbeats 4000000
set_option maxRecDepth 100000
open Go.Lib (hid)
namespace Go.Proofs.YtplcfdnfeclpmaaGreatDoor.Br
open Go.RowKit Go.Deep Go.Joins
set_option maxRecDepth 100000
def zbN (h:Nat):Nat:=(bif Nat.beq (cutN h 13 3) 0 then (bif Nat.beq (zcz h) 0 then 0 else (zaz (zcz h) 2 0 (zau h) 19)) else (bif Nat.beq (cutN h 13 3) 2 then (zaz (zcQ h) (zad h) 2 (zau h) 3) else (bif Nat.beq (cutN h 13 3) 3 then (zaz (zcL h) (zad h) 3 (zau h) 3) else (bif Nat.beq (cutN h 13 3) 6 then (zce (zcQ h) (zau h) (zad h) 2 35) else (bif Nat.beq (cutN h 13 3) 7 then (zce (zcL h) (zau h) (zad h) 3 35) else 0)))))
theorem zuy (h:Nat) (W:World) (h0:(cutN h 13 3)=0) (h1:(zcz h)=0):TW 118 #[.int .u32 (h:Nat)] W (.int .u32 0):=by
 have c2:∀ W,TW 117 #[.int .u32 h,.int .u64 15,.int .u64 13] W (.int .u32 0):=fun W=>by
  have h:=zap h 15 13 W (by omega) (by omega)
  rw [h0] at h
  exact h
 have p1:(((zcz h):Int)==0)=true:=by rw [beq_iff_eq];rw [h1];rfl
 have q1:(((zcz h):Int) != 0)=false:=by rw [bne,p1];rfl
 go_enter Tryz.func118,Tryz.ntmps118
 go_wp2_with (first | ((first | (go_at_call 168;with_reducible refine (zbK h _).mono ?_) | (go_at_call 169;with_reducible refine (zch h _).mono ?_) | (go_at_call 117;with_reducible refine (c2 _).mono ?_) | (go_at_call 170;with_reducible refine (zhP h _).mono ?_));rintro e w' ⟨rfl,rfl⟩) | fail)
 go_ret
 exact ⟨rfl,rfl⟩
theorem zr1 (h:Nat) (W:World) (h0:(cutN h 13 3)=0) (h1:(zcz h)≠0):TW 118 #[.int .u32 (h:Nat)] W (.int .u32 (zaz (zcz h) 2 0 (zau h) 19)):=by
 have c2:∀ W,TW 117 #[.int .u32 h,.int .u64 15,.int .u64 13] W (.int .u32 0):=fun W=>by
  have h:=zap h 15 13 W (by omega) (by omega)
  rw [h0] at h
  exact h
 have c4:∀ W,TW 171 #[.int .u32 (zcz h),.int .u32 2,.int .u32 0,.int .u32 (zau h),.int .u32 19] W (.int .u32 (zaz (zcz h) 2 0 (zau h) 19)):=fun W=>zcD (zcz h) 2 0 (zau h) 19 W
 have p1:(((zcz h):Int)==0)=false:=by rw [beq_eq_false_iff_ne];omega
 have q1:(((zcz h):Int) != 0)=true:=by rw [bne,p1];rfl
 go_enter Tryz.func118,Tryz.ntmps118
 go_wp2_with (first | ((first | (go_at_call 168;with_reducible refine (zbK h _).mono ?_) | (go_at_call 169;with_reducible refine (zch h _).mono ?_) | (go_at_call 117;with_reducible refine (c2 _).mono ?_) | (go_at_call 170;with_reducible refine (zhP h _).mono ?_) | (go_at_call 171;with_reducible refine (c4 _).mono ?_));rintro e w' ⟨rfl,rfl⟩) | fail)
 go_ret
 refine ⟨zal ?_,rfl⟩
 first | rfl | (simp only [nats];rfl)
theorem zuW (h:Nat) (W:World) (h0:(cutN h 13 3)=1):TW 118 #[.int .u32 (h:Nat)] W (.int .u32 0):=by
 have c2:∀ W,TW 117 #[.int .u32 h,.int .u64 15,.int .u64 13] W (.int .u32 1):=fun W=>by
  have h:=zap h 15 13 W (by omega) (by omega)
  rw [h0] at h
  exact h
 go_enter Tryz.func118,Tryz.ntmps118
 go_wp2_with (first | ((first | (go_at_call 168;with_reducible refine (zbK h _).mono ?_) | (go_at_call 169;with_reducible refine (zch h _).mono ?_) | (go_at_call 117;with_reducible refine (c2 _).mono ?_));rintro e w' ⟨rfl,rfl⟩) | fail)
 go_ret
 exact ⟨rfl,rfl⟩
theorem zmZ (h:Nat) (W:World) (h0:(cutN h 13 3)=2):TW 118 #[.int .u32 (h:Nat)] W (.int .u32 (zaz (zcQ h) (zad h) 2 (zau h) 3)):=by
 have c2:∀ W,TW 117 #[.int .u32 h,.int .u64 15,.int .u64 13] W (.int .u32 2):=fun W=>by
  have h:=zap h 15 13 W (by omega) (by omega)
  rw [h0] at h
  exact h
 have c4:∀ W,TW 171 #[.int .u32 (zcQ h),.int .u32 (zad h),.int .u32 2,.int .u32 (zau h),.int .u32 3] W (.int .u32 (zaz (zcQ h) (zad h) 2 (zau h) 3)):=fun W=>zcD (zcQ h) (zad h) 2 (zau h) 3 W
 go_enter Tryz.func118,Tryz.ntmps118
 go_wp2_with (first | ((first | (go_at_call 168;with_reducible refine (zbK h _).mono ?_) | (go_at_call 169;with_reducible refine (zch h _).mono ?_) | (go_at_call 117;with_reducible refine (c2 _).mono ?_) | (go_at_call 172;with_reducible refine (ziQ h _).mono ?_) | (go_at_call 171;with_reducible refine (c4 _).mono ?_));rintro e w' ⟨rfl,rfl⟩) | fail)
 go_ret
 refine ⟨zal ?_,rfl⟩
 first | rfl | (simp only [nats];rfl)
theorem zs8 (h:Nat) (W:World) (h0:(cutN h 13 3)=3):TW 118 #[.int .u32 (h:Nat)] W (.int .u32 (zaz (zcL h) (zad h) 3 (zau h) 3)):=by
 have c2:∀ W,TW 117 #[.int .u32 h,.int .u64 15,.int .u64 13] W (.int .u32 3):=fun W=>by
  have h:=zap h 15 13 W (by omega) (by omega)
  rw [h0] at h
  exact h
 have c4:∀ W,TW 171 #[.int .u32 (zcL h),.int .u32 (zad h),.int .u32 3,.int .u32 (zau h),.int .u32 3] W (.int .u32 (zaz (zcL h) (zad h) 3 (zau h) 3)):=fun W=>zcD (zcL h) (zad h) 3 (zau h) 3 W
 go_enter Tryz.func118,Tryz.ntmps118
 go_wp2_with (first | ((first | (go_at_call 168;with_reducible refine (zbK h _).mono ?_) | (go_at_call 169;with_reducible refine (zch h _).mono ?_) | (go_at_call 117;with_reducible refine (c2 _).mono ?_) | (go_at_call 173;with_reducible refine (zhK h _).mono ?_) | (go_at_call 171;with_reducible refine (c4 _).mono ?_));rintro e w' ⟨rfl,rfl⟩) | fail)
 go_ret
 refine ⟨zal ?_,rfl⟩
 first | rfl | (simp only [nats];rfl)
theorem zpQ (h:Nat) (W:World) (h0:(cutN h 13 3)=4):TW 118 #[.int .u32 (h:Nat)] W (.int .u32 0):=by
 have c2:∀ W,TW 117 #[.int .u32 h,.int .u64 15,.int .u64 13] W (.int .u32 4):=fun W=>by
  have h:=zap h 15 13 W (by omega) (by omega)
  rw [h0] at h
  exact h
 go_enter Tryz.func118,Tryz.ntmps118
 go_wp2_with (first | ((first | (go_at_call 168;with_reducible refine (zbK h _).mono ?_) | (go_at_call 169;with_reducible refine (zch h _).mono ?_) | (go_at_call 117;with_reducible refine (c2 _).mono ?_));rintro e w' ⟨rfl,rfl⟩) | fail)
 go_ret
 exact ⟨rfl,rfl⟩
theorem zxU (h:Nat) (W:World) (h0:(cutN h 13 3)=5):TW 118 #[.int .u32 (h:Nat)] W (.int .u32 0):=by
 have c2:∀ W,TW 117 #[.int .u32 h,.int .u64 15,.int .u64 13] W (.int .u32 5):=fun W=>by
  have h:=zap h 15 13 W (by omega) (by omega)
  rw [h0] at h
  exact h
 go_enter Tryz.func118,Tryz.ntmps118
 go_wp2_with (first | ((first | (go_at_call 168;with_reducible refine (zbK h _).mono ?_) | (go_at_call 169;with_reducible refine (zch h _).mono ?_) | (go_at_call 117;with_reducible refine (c2 _).mono ?_));rintro e w' ⟨rfl,rfl⟩) | fail)
 go_ret
 exact ⟨rfl,rfl⟩
theorem zlI (h:Nat) (W:World) (h0:(cutN h 13 3)=6):TW 118 #[.int .u32 (h:Nat)] W (.int .u32 (zce (zcQ h) (zau h) (zad h) 2 35)):=by
 have c2:∀ W,TW 117 #[.int .u32 h,.int .u64 15,.int .u64 13] W (.int .u32 6):=fun W=>by
  have h:=zap h 15 13 W (by omega) (by omega)
  rw [h0] at h
  exact h
 have c4:∀ W,TW 174 #[.int .u32 (zcQ h),.int .u32 (zau h),.int .u32 (zad h),.int .u32 2,.int .u32 35] W (.int .u32 (zce (zcQ h) (zau h) (zad h) 2 35)):=fun W=>zfH (zcQ h) (zau h) (zad h) 2 35 W
 go_enter Tryz.func118,Tryz.ntmps118
 go_wp2_with (first | ((first | (go_at_call 168;with_reducible refine (zbK h _).mono ?_) | (go_at_call 169;with_reducible refine (zch h _).mono ?_) | (go_at_call 117;with_reducible refine (c2 _).mono ?_) | (go_at_call 172;with_reducible refine (ziQ h _).mono ?_) | (go_at_call 174;with_reducible refine (c4 _).mono ?_));rintro e w' ⟨rfl,rfl⟩) | fail)
 go_ret
 refine ⟨zal ?_,rfl⟩
 first | rfl | (simp only [nats];rfl)
theorem zrN (h:Nat) (W:World) (h0:(cutN h 13 3)=7):TW 118 #[.int .u32 (h:Nat)] W (.int .u32 (zce (zcL h) (zau h) (zad h) 3 35)):=by
 have c2:∀ W,TW 117 #[.int .u32 h,.int .u64 15,.int .u64 13] W (.int .u32 7):=fun W=>by
  have h:=zap h 15 13 W (by omega) (by omega)
  rw [h0] at h
  exact h
 have c4:∀ W,TW 174 #[.int .u32 (zcL h),.int .u32 (zau h),.int .u32 (zad h),.int .u32 3,.int .u32 35] W (.int .u32 (zce (zcL h) (zau h) (zad h) 3 35)):=fun W=>zfH (zcL h) (zau h) (zad h) 3 35 W
 go_enter Tryz.func118,Tryz.ntmps118
 go_wp2_with (first | ((first | (go_at_call 168;with_reducible refine (zbK h _).mono ?_) | (go_at_call 169;with_reducible refine (zch h _).mono ?_) | (go_at_call 117;with_reducible refine (c2 _).mono ?_) | (go_at_call 173;with_reducible refine (zhK h _).mono ?_) | (go_at_call 174;with_reducible refine (c4 _).mono ?_));rintro e w' ⟨rfl,rfl⟩) | fail)
 go_ret
 refine ⟨zal ?_,rfl⟩
 first | rfl | (simp only [nats];rfl)
theorem zsi (h:Nat) (W:World):TW 118 #[.int .u32 (h:Nat)] W (.int .u32 ((zbN h:Nat):Int)):=by
 have l0:=zbd h 13 3
 have b0:(cutN h 13 3)=0∨(cutN h 13 3)=1∨(cutN h 13 3)=2∨(cutN h 13 3)=3∨(cutN h 13 3)=4∨(cutN h 13 3)=5∨(cutN h 13 3)=6∨(cutN h 13 3)=7:=by omega
 rcases b0 with h0 | h0 | h0 | h0 | h0 | h0 | h0 | h0
 ·by_cases h1:(zcz h)=0
  ·rw [show zbN h=0 from by unfold zbN;rw [beqT h0,cond_true,beqT h1,cond_true]]
   exact zuy h W h0 h1
  ·rw [show zbN h=(zaz (zcz h) 2 0 (zau h) 19) from by unfold zbN;rw [beqT h0,cond_true,beqF h1,cond_false]]
   exact zr1 h W h0 h1
 ·rw [show zbN h=0 from by unfold zbN;rw [beqF (show (cutN h 13 3)≠0 by omega),cond_false,beqF (show (cutN h 13 3)≠2 by omega),cond_false,beqF (show (cutN h 13 3)≠3 by omega),cond_false,beqF (show (cutN h 13 3)≠6 by omega),cond_false,beqF (show (cutN h 13 3)≠7 by omega),cond_false]]
  exact zuW h W h0
 ·rw [show zbN h=(zaz (zcQ h) (zad h) 2 (zau h) 3) from by unfold zbN;rw [beqF (show (cutN h 13 3)≠0 by omega),cond_false,beqT h0,cond_true]]
  exact zmZ h W h0
 ·rw [show zbN h=(zaz (zcL h) (zad h) 3 (zau h) 3) from by unfold zbN;rw [beqF (show (cutN h 13 3)≠0 by omega),cond_false,beqF (show (cutN h 13 3)≠2 by omega),cond_false,beqT h0,cond_true]]
  exact zs8 h W h0
 ·rw [show zbN h=0 from by unfold zbN;rw [beqF (show (cutN h 13 3)≠0 by omega),cond_false,beqF (show (cutN h 13 3)≠2 by omega),cond_false,beqF (show (cutN h 13 3)≠3 by omega),cond_false,beqF (show (cutN h 13 3)≠6 by omega),cond_false,beqF (show (cutN h 13 3)≠7 by omega),cond_false]]
  exact zpQ h W h0
 ·rw [show zbN h=0 from by unfold zbN;rw [beqF (show (cutN h 13 3)≠0 by omega),cond_false,beqF (show (cutN h 13 3)≠2 by omega),cond_false,beqF (show (cutN h 13 3)≠3 by omega),cond_false,beqF (show (cutN h 13 3)≠6 by omega),cond_false,beqF (show (cutN h 13 3)≠7 by omega),cond_false]]
  exact zxU h W h0
 ·rw [show zbN h=(zce (zcQ h) (zau h) (zad h) 2 35) from by unfold zbN;rw [beqF (show (cutN h 13 3)≠0 by omega),cond_false,beqF (show (cutN h 13 3)≠2 by omega),cond_false,beqF (show (cutN h 13 3)≠3 by omega),cond_false,beqT h0,cond_true]]
  exact zlI h W h0
 ·rw [show zbN h=(zce (zcL h) (zau h) (zad h) 3 35) from by unfold zbN;rw [beqF (show (cutN h 13 3)≠0 by omega),cond_false,beqF (show (cutN h 13 3)≠2 by omega),cond_false,beqF (show (cutN h 13 3)≠3 by omega),cond_false,beqF (show (cutN h 13 3)≠6 by omega),cond_false,beqT h0,cond_true]]
  exact zrN h W h0
def zdp (h:Nat):Nat:=(bif Nat.beq (zaW h) 0 then 0 else (bif Nat.beq (zae h) 2 then (zaz (zeg h) 2 0 2 19) else (zf1 (zaW h) (zae h))))
theorem zvm (h:Nat) (W:World) (h0:(zaW h)=0):TW 177 #[.int .u32 (h:Nat)] W (.int .u32 0):=by
 have p0:(((zaW h):Int)==0)=true:=by rw [beq_iff_eq];rw [h0];rfl
 have q0:(((zaW h):Int) != 0)=false:=by rw [bne,p0];rfl
 go_enter Tryz.func177,Tryz.ntmps177
 go_wp2_with (first | ((first | (go_at_call 176;with_reducible refine (zcR h _).mono ?_) | (go_at_call 175;with_reducible refine (zbi h _).mono ?_));rintro e w' ⟨rfl,rfl⟩) | fail)
 go_ret
 exact ⟨rfl,rfl⟩
theorem zx2 (h:Nat) (W:World) (h0:(zaW h)≠0) (h1:(zae h)=2):TW 177 #[.int .u32 (h:Nat)] W (.int .u32 (zaz (zeg h) 2 0 2 19)):=by
 have c3:∀ W,TW 171 #[.int .u32 (zeg h),.int .u32 2,.int .u32 0,.int .u32 2,.int .u32 19] W (.int .u32 (zaz (zeg h) 2 0 2 19)):=fun W=>zcD (zeg h) 2 0 2 19 W
 have p0:(((zaW h):Int)==0)=false:=by rw [beq_eq_false_iff_ne];omega
 have q0:(((zaW h):Int) != 0)=true:=by rw [bne,p0];rfl
 have p1:(((zae h):Int)==2)=true:=by rw [beq_iff_eq];rw [h1];rfl
 have q1:(((zae h):Int) != 2)=false:=by rw [bne,p1];rfl
 go_enter Tryz.func177,Tryz.ntmps177
 go_wp2_with (first | ((first | (go_at_call 176;with_reducible refine (zcR h _).mono ?_) | (go_at_call 175;with_reducible refine (zbi h _).mono ?_) | (go_at_call 215;with_reducible refine (zkP h _).mono ?_) | (go_at_call 171;with_reducible refine (c3 _).mono ?_));rintro e w' ⟨rfl,rfl⟩) | fail)
 go_ret
 refine ⟨zal ?_,rfl⟩
 first | rfl | (simp only [nats];rfl)
theorem zmP (h:Nat) (W:World) (h0:(zaW h)≠0) (h1:(zae h)≠2):TW 177 #[.int .u32 (h:Nat)] W (.int .u32 (zf1 (zaW h) (zae h))):=by
 have p0:(((zaW h):Int)==0)=false:=by rw [beq_eq_false_iff_ne];omega
 have q0:(((zaW h):Int) != 0)=true:=by rw [bne,p0];rfl
 have p1:(((zae h):Int)==2)=false:=by rw [beq_eq_false_iff_ne];omega
 have q1:(((zae h):Int) != 2)=true:=by rw [bne,p1];rfl
 go_enter Tryz.func177,Tryz.ntmps177
 go_wp2_with (first | ((first | (go_at_call 176;with_reducible refine (zcR h _).mono ?_) | (go_at_call 175;with_reducible refine (zbi h _).mono ?_) | (go_at_call 216;with_reducible refine (zvw (zaW h) (zae h) _).mono ?_));rintro e w' ⟨rfl,rfl⟩) | fail)
 go_ret
 refine ⟨zal ?_,rfl⟩
 first | rfl | (simp only [nats];rfl)
theorem zln (h:Nat) (W:World):TW 177 #[.int .u32 (h:Nat)] W (.int .u32 ((zdp h:Nat):Int)):=by
 by_cases h0:(zaW h)=0
 ·rw [show zdp h=0 from by unfold zdp;rw [beqT h0,cond_true]]
  exact zvm h W h0
 ·by_cases h1:(zae h)=2
  ·rw [show zdp h=(zaz (zeg h) 2 0 2 19) from by unfold zdp;rw [beqF h0,cond_false,beqT h1,cond_true]]
   exact zx2 h W h0 h1
  ·rw [show zdp h=(zf1 (zaW h) (zae h)) from by unfold zdp;rw [beqF h0,cond_false,beqF h1,cond_false]]
   exact zmP h W h0 h1
def zb1 (h:Nat):Nat:=(bif Nat.beq (cutN h 12 1) 0 then (bif Nat.beq (cutN h 5 2) 0 then (zba 32 (zau h) (zad h) 0 (zad h) 51) else (bif Nat.beq (cutN h 5 2) 1 then (zba 0 (zau h) (zad h) 4 (zad h) 51) else (bif Nat.beq (cutN h 5 2) 2 then (zba 0 (zau h) (zad h) 6 (zad h) 51) else (bif Nat.beq (cutN h 5 2) 3 then (zba 0 (zau h) (zad h) 7 (zad h) 51) else 0)))) else (bif Nat.beq (cutN h 12 1) 1 then (bif Nat.beq (cutN h 5 2) 0 then (zba 32 (zau h) (zad h) 0 (zad h) 59) else (bif Nat.beq (cutN h 5 2) 1 then (zba 0 (zau h) (zad h) 0 (zad h) 59) else 0)) else 0))
theorem zq2 (h:Nat) (W:World) (h0:(cutN h 12 1)=0) (h1:(cutN h 5 2)=0):TW 217 #[.int .u32 (h:Nat)] W (.int .u32 (zba 32 (zau h) (zad h) 0 (zad h) 51)):=by
 have c2:∀ W,TW 117 #[.int .u32 h,.int .u64 12,.int .u64 12] W (.int .u32 0):=fun W=>by
  have h:=zap h 12 12 W (by omega) (by omega)
  rw [h0] at h
  exact h
 have c3:∀ W,TW 117 #[.int .u32 h,.int .u64 6,.int .u64 5] W (.int .u32 0):=fun W=>by
  have h:=zap h 6 5 W (by omega) (by omega)
  rw [h1] at h
  exact h
 have c4:∀ W,TW 218 #[.int .u32 32,.int .u32 (zau h),.int .u32 (zad h),.int .u32 0,.int .u32 (zad h),.int .u32 51] W (.int .u32 (zba 32 (zau h) (zad h) 0 (zad h) 51)):=fun W=>zd2 32 (zau h) (zad h) 0 (zad h) 51 W
 go_enter Tryz.func217,Tryz.ntmps217
 go_wp2_with (first | ((first | (go_at_call 168;with_reducible refine (zbK h _).mono ?_) | (go_at_call 169;with_reducible refine (zch h _).mono ?_) | (go_at_call 117;with_reducible refine (c2 _).mono ?_) | (go_at_call 117;with_reducible refine (c3 _).mono ?_) | (go_at_call 218;with_reducible refine (c4 _).mono ?_));rintro e w' ⟨rfl,rfl⟩) | fail)
 go_ret
 refine ⟨zal ?_,rfl⟩
 first | rfl | (simp only [nats];rfl)
theorem ztc (h:Nat) (W:World) (h0:(cutN h 12 1)=0) (h1:(cutN h 5 2)=1):TW 217 #[.int .u32 (h:Nat)] W (.int .u32 (zba 0 (zau h) (zad h) 4 (zad h) 51)):=by
 have c2:∀ W,TW 117 #[.int .u32 h,.int .u64 12,.int .u64 12] W (.int .u32 0):=fun W=>by
  have h:=zap h 12 12 W (by omega) (by omega)
  rw [h0] at h
  exact h
 have c3:∀ W,TW 117 #[.int .u32 h,.int .u64 6,.int .u64 5] W (.int .u32 1):=fun W=>by
  have h:=zap h 6 5 W (by omega) (by omega)
  rw [h1] at h
  exact h
 have c4:∀ W,TW 218 #[.int .u32 0,.int .u32 (zau h),.int .u32 (zad h),.int .u32 4,.int .u32 (zad h),.int .u32 51] W (.int .u32 (zba 0 (zau h) (zad h) 4 (zad h) 51)):=fun W=>zd2 0 (zau h) (zad h) 4 (zad h) 51 W
 go_enter Tryz.func217,Tryz.ntmps217
 go_wp2_with (first | ((first | (go_at_call 168;with_reducible refine (zbK h _).mono ?_) | (go_at_call 169;with_reducible refine (zch h _).mono ?_) | (go_at_call 117;with_reducible refine (c2 _).mono ?_) | (go_at_call 117;with_reducible refine (c3 _).mono ?_) | (go_at_call 218;with_reducible refine (c4 _).mono ?_));rintro e w' ⟨rfl,rfl⟩) | fail)
 go_ret
 refine ⟨zal ?_,rfl⟩
 first | rfl | (simp only [nats];rfl)
theorem znJ (h:Nat) (W:World) (h0:(cutN h 12 1)=0) (h1:(cutN h 5 2)=2):TW 217 #[.int .u32 (h:Nat)] W (.int .u32 (zba 0 (zau h) (zad h) 6 (zad h) 51)):=by
 have c2:∀ W,TW 117 #[.int .u32 h,.int .u64 12,.int .u64 12] W (.int .u32 0):=fun W=>by
  have h:=zap h 12 12 W (by omega) (by omega)
  rw [h0] at h
  exact h
 have c3:∀ W,TW 117 #[.int .u32 h,.int .u64 6,.int .u64 5] W (.int .u32 2):=fun W=>by
  have h:=zap h 6 5 W (by omega) (by omega)
  rw [h1] at h
  exact h
 have c4:∀ W,TW 218 #[.int .u32 0,.int .u32 (zau h),.int .u32 (zad h),.int .u32 6,.int .u32 (zad h),.int .u32 51] W (.int .u32 (zba 0 (zau h) (zad h) 6 (zad h) 51)):=fun W=>zd2 0 (zau h) (zad h) 6 (zad h) 51 W
 go_enter Tryz.func217,Tryz.ntmps217
 go_wp2_with (first | ((first | (go_at_call 168;with_reducible refine (zbK h _).mono ?_) | (go_at_call 169;with_reducible refine (zch h _).mono ?_) | (go_at_call 117;with_reducible refine (c2 _).mono ?_) | (go_at_call 117;with_reducible refine (c3 _).mono ?_) | (go_at_call 218;with_reducible refine (c4 _).mono ?_));rintro e w' ⟨rfl,rfl⟩) | fail)
 go_ret
 refine ⟨zal ?_,rfl⟩
 first | rfl | (simp only [nats];rfl)
theorem zux (h:Nat) (W:World) (h0:(cutN h 12 1)=0) (h1:(cutN h 5 2)=3):TW 217 #[.int .u32 (h:Nat)] W (.int .u32 (zba 0 (zau h) (zad h) 7 (zad h) 51)):=by
 have c2:∀ W,TW 117 #[.int .u32 h,.int .u64 12,.int .u64 12] W (.int .u32 0):=fun W=>by
  have h:=zap h 12 12 W (by omega) (by omega)
  rw [h0] at h
  exact h
 have c3:∀ W,TW 117 #[.int .u32 h,.int .u64 6,.int .u64 5] W (.int .u32 3):=fun W=>by
  have h:=zap h 6 5 W (by omega) (by omega)
  rw [h1] at h
  exact h
 have c4:∀ W,TW 218 #[.int .u32 0,.int .u32 (zau h),.int .u32 (zad h),.int .u32 7,.int .u32 (zad h),.int .u32 51] W (.int .u32 (zba 0 (zau h) (zad h) 7 (zad h) 51)):=fun W=>zd2 0 (zau h) (zad h) 7 (zad h) 51 W
 go_enter Tryz.func217,Tryz.ntmps217
 go_wp2_with (first | ((first | (go_at_call 168;with_reducible refine (zbK h _).mono ?_) | (go_at_call 169;with_reducible refine (zch h _).mono ?_) | (go_at_call 117;with_reducible refine (c2 _).mono ?_) | (go_at_call 117;with_reducible refine (c3 _).mono ?_) | (go_at_call 218;with_reducible refine (c4 _).mono ?_));rintro e w' ⟨rfl,rfl⟩) | fail)
 go_ret
 refine ⟨zal ?_,rfl⟩
 first | rfl | (simp only [nats];rfl)
theorem zm0 (h:Nat) (W:World) (h0:(cutN h 12 1)=1) (h1:(cutN h 5 2)=0):TW 217 #[.int .u32 (h:Nat)] W (.int .u32 (zba 32 (zau h) (zad h) 0 (zad h) 59)):=by
 have c2:∀ W,TW 117 #[.int .u32 h,.int .u64 12,.int .u64 12] W (.int .u32 1):=fun W=>by
  have h:=zap h 12 12 W (by omega) (by omega)
  rw [h0] at h
  exact h
 have c3:∀ W,TW 117 #[.int .u32 h,.int .u64 6,.int .u64 5] W (.int .u32 0):=fun W=>by
  have h:=zap h 6 5 W (by omega) (by omega)
  rw [h1] at h
  exact h
 have c4:∀ W,TW 218 #[.int .u32 32,.int .u32 (zau h),.int .u32 (zad h),.int .u32 0,.int .u32 (zad h),.int .u32 59] W (.int .u32 (zba 32 (zau h) (zad h) 0 (zad h) 59)):=fun W=>zd2 32 (zau h) (zad h) 0 (zad h) 59 W
 go_enter Tryz.func217,Tryz.ntmps217
 go_wp2_with (first | ((first | (go_at_call 168;with_reducible refine (zbK h _).mono ?_) | (go_at_call 169;with_reducible refine (zch h _).mono ?_) | (go_at_call 117;with_reducible refine (c2 _).mono ?_) | (go_at_call 117;with_reducible refine (c3 _).mono ?_) | (go_at_call 218;with_reducible refine (c4 _).mono ?_));rintro e w' ⟨rfl,rfl⟩) | fail)
 go_ret
 refine ⟨zal ?_,rfl⟩
 first | rfl | (simp only [nats];rfl)
theorem zq4 (h:Nat) (W:World) (h0:(cutN h 12 1)=1) (h1:(cutN h 5 2)=1):TW 217 #[.int .u32 (h:Nat)] W (.int .u32 (zba 0 (zau h) (zad h) 0 (zad h) 59)):=by
 have c2:∀ W,TW 117 #[.int .u32 h,.int .u64 12,.int .u64 12] W (.int .u32 1):=fun W=>by
  have h:=zap h 12 12 W (by omega) (by omega)
  rw [h0] at h
  exact h
 have c3:∀ W,TW 117 #[.int .u32 h,.int .u64 6,.int .u64 5] W (.int .u32 1):=fun W=>by
  have h:=zap h 6 5 W (by omega) (by omega)
  rw [h1] at h
  exact h
 have c4:∀ W,TW 218 #[.int .u32 0,.int .u32 (zau h),.int .u32 (zad h),.int .u32 0,.int .u32 (zad h),.int .u32 59] W (.int .u32 (zba 0 (zau h) (zad h) 0 (zad h) 59)):=fun W=>zd2 0 (zau h) (zad h) 0 (zad h) 59 W
 go_enter Tryz.func217,Tryz.ntmps217
 go_wp2_with (first | ((first | (go_at_call 168;with_reducible refine (zbK h _).mono ?_) | (go_at_call 169;with_reducible refine (zch h _).mono ?_) | (go_at_call 117;with_reducible refine (c2 _).mono ?_) | (go_at_call 117;with_reducible refine (c3 _).mono ?_) | (go_at_call 218;with_reducible refine (c4 _).mono ?_));rintro e w' ⟨rfl,rfl⟩) | fail)
 go_ret
 refine ⟨zal ?_,rfl⟩
 first | rfl | (simp only [nats];rfl)
theorem zsD (h:Nat) (W:World) (h0:(cutN h 12 1)=1) (h1:(cutN h 5 2)=2):TW 217 #[.int .u32 (h:Nat)] W (.int .u32 0):=by
 have c2:∀ W,TW 117 #[.int .u32 h,.int .u64 12,.int .u64 12] W (.int .u32 1):=fun W=>by
  have h:=zap h 12 12 W (by omega) (by omega)
  rw [h0] at h
  exact h
 have c3:∀ W,TW 117 #[.int .u32 h,.int .u64 6,.int .u64 5] W (.int .u32 2):=fun W=>by
  have h:=zap h 6 5 W (by omega) (by omega)
  rw [h1] at h
  exact h
 go_enter Tryz.func217,Tryz.ntmps217
 go_wp2_with (first | ((first | (go_at_call 168;with_reducible refine (zbK h _).mono ?_) | (go_at_call 169;with_reducible refine (zch h _).mono ?_) | (go_at_call 117;with_reducible refine (c2 _).mono ?_) | (go_at_call 117;with_reducible refine (c3 _).mono ?_));rintro e w' ⟨rfl,rfl⟩) | fail)
 go_ret
 exact ⟨rfl,rfl⟩
theorem zn8 (h:Nat) (W:World) (h0:(cutN h 12 1)=1) (h1:(cutN h 5 2)=3):TW 217 #[.int .u32 (h:Nat)] W (.int .u32 0):=by
 have c2:∀ W,TW 117 #[.int .u32 h,.int .u64 12,.int .u64 12] W (.int .u32 1):=fun W=>by
  have h:=zap h 12 12 W (by omega) (by omega)
  rw [h0] at h
  exact h
 have c3:∀ W,TW 117 #[.int .u32 h,.int .u64 6,.int .u64 5] W (.int .u32 3):=fun W=>by
  have h:=zap h 6 5 W (by omega) (by omega)
  rw [h1] at h
  exact h
 go_enter Tryz.func217,Tryz.ntmps217
 go_wp2_with (first | ((first | (go_at_call 168;with_reducible refine (zbK h _).mono ?_) | (go_at_call 169;with_reducible refine (zch h _).mono ?_) | (go_at_call 117;with_reducible refine (c2 _).mono ?_) | (go_at_call 117;with_reducible refine (c3 _).mono ?_));rintro e w' ⟨rfl,rfl⟩) | fail)
 go_ret
 exact ⟨rfl,rfl⟩
theorem zkQ (h:Nat) (W:World):TW 217 #[.int .u32 (h:Nat)] W (.int .u32 ((zb1 h:Nat):Int)):=by
 have l0:=zbd h 12 1
 have b0:(cutN h 12 1)=0∨(cutN h 12 1)=1:=by omega
 rcases b0 with h0 | h0
 ·have l1:=zbd h 5 2
  have b1:(cutN h 5 2)=0∨(cutN h 5 2)=1∨(cutN h 5 2)=2∨(cutN h 5 2)=3:=by omega
  rcases b1 with h1 | h1 | h1 | h1
  ·rw [show zb1 h=(zba 32 (zau h) (zad h) 0 (zad h) 51) from by unfold zb1;rw [beqT h0,cond_true,beqT h1,cond_true]]
   exact zq2 h W h0 h1
  ·rw [show zb1 h=(zba 0 (zau h) (zad h) 4 (zad h) 51) from by unfold zb1;rw [beqT h0,cond_true,beqF (show (cutN h 5 2)≠0 by omega),cond_false,beqT h1,cond_true]]
   exact ztc h W h0 h1
  ·rw [show zb1 h=(zba 0 (zau h) (zad h) 6 (zad h) 51) from by unfold zb1;rw [beqT h0,cond_true,beqF (show (cutN h 5 2)≠0 by omega),cond_false,beqF (show (cutN h 5 2)≠1 by omega),cond_false,beqT h1,cond_true]]
   exact znJ h W h0 h1
  ·rw [show zb1 h=(zba 0 (zau h) (zad h) 7 (zad h) 51) from by unfold zb1;rw [beqT h0,cond_true,beqF (show (cutN h 5 2)≠0 by omega),cond_false,beqF (show (cutN h 5 2)≠1 by omega),cond_false,beqF (show (cutN h 5 2)≠2 by omega),cond_false,beqT h1,cond_true]]
   exact zux h W h0 h1
 ·have l1:=zbd h 5 2
  have b1:(cutN h 5 2)=0∨(cutN h 5 2)=1∨(cutN h 5 2)=2∨(cutN h 5 2)=3:=by omega
  rcases b1 with h1 | h1 | h1 | h1
  ·rw [show zb1 h=(zba 32 (zau h) (zad h) 0 (zad h) 59) from by unfold zb1;rw [beqF (show (cutN h 12 1)≠0 by omega),cond_false,beqT h0,cond_true,beqT h1,cond_true]]
   exact zm0 h W h0 h1
  ·rw [show zb1 h=(zba 0 (zau h) (zad h) 0 (zad h) 59) from by unfold zb1;rw [beqF (show (cutN h 12 1)≠0 by omega),cond_false,beqT h0,cond_true,beqF (show (cutN h 5 2)≠0 by omega),cond_false,beqT h1,cond_true]]
   exact zq4 h W h0 h1
  ·rw [show zb1 h=0 from by unfold zb1;rw [beqF (show (cutN h 12 1)≠0 by omega),cond_false,beqT h0,cond_true,beqF (show (cutN h 5 2)≠0 by omega),cond_false,beqF (show (cutN h 5 2)≠1 by omega),cond_false]]
   exact zsD h W h0 h1
  ·rw [show zb1 h=0 from by unfold zb1;rw [beqF (show (cutN h 12 1)≠0 by omega),cond_false,beqT h0,cond_true,beqF (show (cutN h 5 2)≠0 by omega),cond_false,beqF (show (cutN h 5 2)≠1 by omega),cond_false]]
   exact zn8 h W h0 h1
def zda (h:Nat):Nat:=(bif Nat.beq (cutN h 10 2) 0 then (zaz (zbY h) (zad h) 5 (zad h) 19) else (bif Nat.beq (cutN h 10 2) 1 then (zaz (((zbY h)+1024) % 4294967296) (zad h) 5 (zad h) 19) else (bif Nat.beq (cutN h 10 2) 2 then (zaz (zaW h) (zad h) 7 (zad h) 19) else (bif Nat.beq (cutN h 10 2) 3 then (zb1 h) else 0))))
theorem zo0 (h:Nat) (W:World) (h0:(cutN h 10 2)=0):TW 178 #[.int .u32 (h:Nat)] W (.int .u32 (zaz (zbY h) (zad h) 5 (zad h) 19)):=by
 have c1:∀ W,TW 117 #[.int .u32 h,.int .u64 11,.int .u64 10] W (.int .u32 0):=fun W=>by
  have h:=zap h 11 10 W (by omega) (by omega)
  rw [h0] at h
  exact h
 have c3:∀ W,TW 171 #[.int .u32 (zbY h),.int .u32 (zad h),.int .u32 5,.int .u32 (zad h),.int .u32 19] W (.int .u32 (zaz (zbY h) (zad h) 5 (zad h) 19)):=fun W=>zcD (zbY h) (zad h) 5 (zad h) 19 W
 go_enter Tryz.func178,Tryz.ntmps178
 go_wp2_with (first | ((first | (go_at_call 168;with_reducible refine (zbK h _).mono ?_) | (go_at_call 117;with_reducible refine (c1 _).mono ?_) | (go_at_call 184;with_reducible refine (zgA h _).mono ?_) | (go_at_call 171;with_reducible refine (c3 _).mono ?_));rintro e w' ⟨rfl,rfl⟩) | fail)
 go_ret
 refine ⟨zal ?_,rfl⟩
 first | rfl | (simp only [nats];rfl)
theorem zld (h:Nat) (W:World) (h0:(cutN h 10 2)=1):TW 178 #[.int .u32 (h:Nat)] W (.int .u32 (zaz (((zbY h)+1024) % 4294967296) (zad h) 5 (zad h) 19)):=by
 have c1:∀ W,TW 117 #[.int .u32 h,.int .u64 11,.int .u64 10] W (.int .u32 1):=fun W=>by
  have h:=zap h 11 10 W (by omega) (by omega)
  rw [h0] at h
  exact h
 have c3:∀ W,TW 171 #[.int .u32 (((zbY h)+1024) % 4294967296),.int .u32 (zad h),.int .u32 5,.int .u32 (zad h),.int .u32 19] W (.int .u32 (zaz (((zbY h)+1024) % 4294967296) (zad h) 5 (zad h) 19)):=fun W=>by
  have h:=zcD (((zbY h)+1024) % 4294967296) (zad h) 5 (zad h) 19 W
  simp only [nats]
  exact h
 go_enter Tryz.func178,Tryz.ntmps178
 go_wp2_with (first | ((first | (go_at_call 168;with_reducible refine (zbK h _).mono ?_) | (go_at_call 117;with_reducible refine (c1 _).mono ?_) | (go_at_call 184;with_reducible refine (zgA h _).mono ?_) | (go_at_call 171;with_reducible refine (c3 _).mono ?_));rintro e w' ⟨rfl,rfl⟩) | fail)
 go_ret
 refine ⟨zal ?_,rfl⟩
 first | rfl | (simp only [nats];rfl)
theorem zw5 (h:Nat) (W:World) (h0:(cutN h 10 2)=2):TW 178 #[.int .u32 (h:Nat)] W (.int .u32 (zaz (zaW h) (zad h) 7 (zad h) 19)):=by
 have c1:∀ W,TW 117 #[.int .u32 h,.int .u64 11,.int .u64 10] W (.int .u32 2):=fun W=>by
  have h:=zap h 11 10 W (by omega) (by omega)
  rw [h0] at h
  exact h
 have c3:∀ W,TW 171 #[.int .u32 (zaW h),.int .u32 (zad h),.int .u32 7,.int .u32 (zad h),.int .u32 19] W (.int .u32 (zaz (zaW h) (zad h) 7 (zad h) 19)):=fun W=>zcD (zaW h) (zad h) 7 (zad h) 19 W
 go_enter Tryz.func178,Tryz.ntmps178
 go_wp2_with (first | ((first | (go_at_call 168;with_reducible refine (zbK h _).mono ?_) | (go_at_call 117;with_reducible refine (c1 _).mono ?_) | (go_at_call 176;with_reducible refine (zcR h _).mono ?_) | (go_at_call 171;with_reducible refine (c3 _).mono ?_));rintro e w' ⟨rfl,rfl⟩) | fail)
 go_ret
 refine ⟨zal ?_,rfl⟩
 first | rfl | (simp only [nats];rfl)
theorem zlU (h:Nat) (W:World) (h0:(cutN h 10 2)=3):TW 178 #[.int .u32 (h:Nat)] W (.int .u32 (zb1 h)):=by
 have c1:∀ W,TW 117 #[.int .u32 h,.int .u64 11,.int .u64 10] W (.int .u32 3):=fun W=>by
  have h:=zap h 11 10 W (by omega) (by omega)
  rw [h0] at h
  exact h
 go_enter Tryz.func178,Tryz.ntmps178
 go_wp2_with (first | ((first | (go_at_call 168;with_reducible refine (zbK h _).mono ?_) | (go_at_call 117;with_reducible refine (c1 _).mono ?_) | (go_at_call 217;with_reducible refine (zkQ h _).mono ?_));rintro e w' ⟨rfl,rfl⟩) | fail)
 go_ret
 refine ⟨zal ?_,rfl⟩
 first | rfl | (simp only [nats];rfl)
theorem zkx (h:Nat) (W:World):TW 178 #[.int .u32 (h:Nat)] W (.int .u32 ((zda h:Nat):Int)):=by
 have l0:=zbd h 10 2
 have b0:(cutN h 10 2)=0∨(cutN h 10 2)=1∨(cutN h 10 2)=2∨(cutN h 10 2)=3:=by omega
 rcases b0 with h0 | h0 | h0 | h0
 ·rw [show zda h=(zaz (zbY h) (zad h) 5 (zad h) 19) from by unfold zda;rw [beqT h0,cond_true]]
  exact zo0 h W h0
 ·rw [show zda h=(zaz (((zbY h)+1024) % 4294967296) (zad h) 5 (zad h) 19) from by unfold zda;rw [beqF (show (cutN h 10 2)≠0 by omega),cond_false,beqT h0,cond_true]]
  exact zld h W h0
 ·rw [show zda h=(zaz (zaW h) (zad h) 7 (zad h) 19) from by unfold zda;rw [beqF (show (cutN h 10 2)≠0 by omega),cond_false,beqF (show (cutN h 10 2)≠1 by omega),cond_false,beqT h0,cond_true]]
  exact zw5 h W h0
 ·rw [show zda h=(zb1 h) from by unfold zda;rw [beqF (show (cutN h 10 2)≠0 by omega),cond_false,beqF (show (cutN h 10 2)≠1 by omega),cond_false,beqF (show (cutN h 10 2)≠2 by omega),cond_false,beqT h0,cond_true]]
  exact zlU h W h0
def zbT (h:Nat):Nat:=(bif Nat.beq (cutN h 13 3) 0 then (zaz (zaW h) (zae h) 0 (zae h) 19) else (bif Nat.beq (cutN h 13 3) 1 then (bif Nat.beq (zae h) 0 then 0 else (zaz (zaW h) (zae h) 0 (zae h) 27)) else (bif Nat.beq (cutN h 13 3) 2 then (zaz (zaW h) 0 0 (zae h) 19) else (bif Nat.beq (cutN h 13 3) 3 then (zdp h) else (bif Nat.beq (cutN h 13 3) 4 then (zda h) else (bif Nat.beq (cutN h 13 3) 5 then (zfp (zep h) 0) else (bif Nat.beq (cutN h 13 3) 6 then (zdO (zcN h) 0 (zad h) 0) else (bif Nat.beq (cutN h 13 3) 7 then (zdO (zcN h) 0 (zad h) 1) else 0))))))))
theorem zvd (h:Nat) (W:World) (h0:(cutN h 13 3)=0):TW 119 #[.int .u32 (h:Nat)] W (.int .u32 (zaz (zaW h) (zae h) 0 (zae h) 19)):=by
 have c2:∀ W,TW 117 #[.int .u32 h,.int .u64 15,.int .u64 13] W (.int .u32 0):=fun W=>by
  have h:=zap h 15 13 W (by omega) (by omega)
  rw [h0] at h
  exact h
 have c3:∀ W,TW 171 #[.int .u32 (zaW h),.int .u32 (zae h),.int .u32 0,.int .u32 (zae h),.int .u32 19] W (.int .u32 (zaz (zaW h) (zae h) 0 (zae h) 19)):=fun W=>zcD (zaW h) (zae h) 0 (zae h) 19 W
 go_enter Tryz.func119,Tryz.ntmps119
 go_wp2_with (first | ((first | (go_at_call 175;with_reducible refine (zbi h _).mono ?_) | (go_at_call 176;with_reducible refine (zcR h _).mono ?_) | (go_at_call 117;with_reducible refine (c2 _).mono ?_) | (go_at_call 171;with_reducible refine (c3 _).mono ?_));rintro e w' ⟨rfl,rfl⟩) | fail)
 go_ret
 refine ⟨zal ?_,rfl⟩
 first | rfl | (simp only [nats];rfl)
theorem zp1 (h:Nat) (W:World) (h0:(cutN h 13 3)=1) (h1:(zae h)=0):TW 119 #[.int .u32 (h:Nat)] W (.int .u32 0):=by
 have c2:∀ W,TW 117 #[.int .u32 h,.int .u64 15,.int .u64 13] W (.int .u32 1):=fun W=>by
  have h:=zap h 15 13 W (by omega) (by omega)
  rw [h0] at h
  exact h
 have p1:(((zae h):Int)==0)=true:=by rw [beq_iff_eq];rw [h1];rfl
 have q1:(((zae h):Int) != 0)=false:=by rw [bne,p1];rfl
 go_enter Tryz.func119,Tryz.ntmps119
 go_wp2_with (first | ((first | (go_at_call 175;with_reducible refine (zbi h _).mono ?_) | (go_at_call 176;with_reducible refine (zcR h _).mono ?_) | (go_at_call 117;with_reducible refine (c2 _).mono ?_));rintro e w' ⟨rfl,rfl⟩) | fail)
 go_ret
 exact ⟨rfl,rfl⟩
theorem zxN (h:Nat) (W:World) (h0:(cutN h 13 3)=1) (h1:(zae h)≠0):TW 119 #[.int .u32 (h:Nat)] W (.int .u32 (zaz (zaW h) (zae h) 0 (zae h) 27)):=by
 have c2:∀ W,TW 117 #[.int .u32 h,.int .u64 15,.int .u64 13] W (.int .u32 1):=fun W=>by
  have h:=zap h 15 13 W (by omega) (by omega)
  rw [h0] at h
  exact h
 have c3:∀ W,TW 171 #[.int .u32 (zaW h),.int .u32 (zae h),.int .u32 0,.int .u32 (zae h),.int .u32 27] W (.int .u32 (zaz (zaW h) (zae h) 0 (zae h) 27)):=fun W=>zcD (zaW h) (zae h) 0 (zae h) 27 W
 have p1:(((zae h):Int)==0)=false:=by rw [beq_eq_false_iff_ne];omega
 have q1:(((zae h):Int) != 0)=true:=by rw [bne,p1];rfl
 go_enter Tryz.func119,Tryz.ntmps119
 go_wp2_with (first | ((first | (go_at_call 175;with_reducible refine (zbi h _).mono ?_) | (go_at_call 176;with_reducible refine (zcR h _).mono ?_) | (go_at_call 117;with_reducible refine (c2 _).mono ?_) | (go_at_call 171;with_reducible refine (c3 _).mono ?_));rintro e w' ⟨rfl,rfl⟩) | fail)
 go_ret
 refine ⟨zal ?_,rfl⟩
 first | rfl | (simp only [nats];rfl)
theorem zvl (h:Nat) (W:World) (h0:(cutN h 13 3)=2):TW 119 #[.int .u32 (h:Nat)] W (.int .u32 (zaz (zaW h) 0 0 (zae h) 19)):=by
 have c2:∀ W,TW 117 #[.int .u32 h,.int .u64 15,.int .u64 13] W (.int .u32 2):=fun W=>by
  have h:=zap h 15 13 W (by omega) (by omega)
  rw [h0] at h
  exact h
 have c3:∀ W,TW 171 #[.int .u32 (zaW h),.int .u32 0,.int .u32 0,.int .u32 (zae h),.int .u32 19] W (.int .u32 (zaz (zaW h) 0 0 (zae h) 19)):=fun W=>zcD (zaW h) 0 0 (zae h) 19 W
 go_enter Tryz.func119,Tryz.ntmps119
 go_wp2_with (first | ((first | (go_at_call 175;with_reducible refine (zbi h _).mono ?_) | (go_at_call 176;with_reducible refine (zcR h _).mono ?_) | (go_at_call 117;with_reducible refine (c2 _).mono ?_) | (go_at_call 171;with_reducible refine (c3 _).mono ?_));rintro e w' ⟨rfl,rfl⟩) | fail)
 go_ret
 refine ⟨zal ?_,rfl⟩
 first | rfl | (simp only [nats];rfl)
theorem zr5 (h:Nat) (W:World) (h0:(cutN h 13 3)=3):TW 119 #[.int .u32 (h:Nat)] W (.int .u32 (zdp h)):=by
 have c2:∀ W,TW 117 #[.int .u32 h,.int .u64 15,.int .u64 13] W (.int .u32 3):=fun W=>by
  have h:=zap h 15 13 W (by omega) (by omega)
  rw [h0] at h
  exact h
 go_enter Tryz.func119,Tryz.ntmps119
 go_wp2_with (first | ((first | (go_at_call 175;with_reducible refine (zbi h _).mono ?_) | (go_at_call 176;with_reducible refine (zcR h _).mono ?_) | (go_at_call 117;with_reducible refine (c2 _).mono ?_) | (go_at_call 177;with_reducible refine (zln h _).mono ?_));rintro e w' ⟨rfl,rfl⟩) | fail)
 go_ret
 refine ⟨zal ?_,rfl⟩
 first | rfl | (simp only [nats];rfl)
theorem zwK (h:Nat) (W:World) (h0:(cutN h 13 3)=4):TW 119 #[.int .u32 (h:Nat)] W (.int .u32 (zda h)):=by
 have c2:∀ W,TW 117 #[.int .u32 h,.int .u64 15,.int .u64 13] W (.int .u32 4):=fun W=>by
  have h:=zap h 15 13 W (by omega) (by omega)
  rw [h0] at h
  exact h
 go_enter Tryz.func119,Tryz.ntmps119
 go_wp2_with (first | ((first | (go_at_call 175;with_reducible refine (zbi h _).mono ?_) | (go_at_call 176;with_reducible refine (zcR h _).mono ?_) | (go_at_call 117;with_reducible refine (c2 _).mono ?_) | (go_at_call 178;with_reducible refine (zkx h _).mono ?_));rintro e w' ⟨rfl,rfl⟩) | fail)
 go_ret
 refine ⟨zal ?_,rfl⟩
 first | rfl | (simp only [nats];rfl)
theorem zni (h:Nat) (W:World) (h0:(cutN h 13 3)=5):TW 119 #[.int .u32 (h:Nat)] W (.int .u32 (zfp (zep h) 0)):=by
 have c2:∀ W,TW 117 #[.int .u32 h,.int .u64 15,.int .u64 13] W (.int .u32 5):=fun W=>by
  have h:=zap h 15 13 W (by omega) (by omega)
  rw [h0] at h
  exact h
 have c4:∀ W,TW 179 #[.int .u32 (zep h),.int .u32 0] W (.int .u32 (zfp (zep h) 0)):=fun W=>zl9 (zep h) 0 W
 go_enter Tryz.func119,Tryz.ntmps119
 go_wp2_with (first | ((first | (go_at_call 175;with_reducible refine (zbi h _).mono ?_) | (go_at_call 176;with_reducible refine (zcR h _).mono ?_) | (go_at_call 117;with_reducible refine (c2 _).mono ?_) | (go_at_call 180;with_reducible refine (zpw h _).mono ?_) | (go_at_call 179;with_reducible refine (c4 _).mono ?_));rintro e w' ⟨rfl,rfl⟩) | fail)
 go_ret
 refine ⟨zal ?_,rfl⟩
 first | rfl | (simp only [nats];rfl)
theorem ztN (h:Nat) (W:World) (h0:(cutN h 13 3)=6):TW 119 #[.int .u32 (h:Nat)] W (.int .u32 (zdO (zcN h) 0 (zad h) 0)):=by
 have c2:∀ W,TW 117 #[.int .u32 h,.int .u64 15,.int .u64 13] W (.int .u32 6):=fun W=>by
  have h:=zap h 15 13 W (by omega) (by omega)
  rw [h0] at h
  exact h
 have c5:∀ W,TW 181 #[.int .u32 (zcN h),.int .u32 0,.int .u32 (zad h),.int .u32 0] W (.int .u32 (zdO (zcN h) 0 (zad h) 0)):=fun W=>zhy (zcN h) 0 (zad h) 0 W
 go_enter Tryz.func119,Tryz.ntmps119
 go_wp2_with (first | ((first | (go_at_call 175;with_reducible refine (zbi h _).mono ?_) | (go_at_call 176;with_reducible refine (zcR h _).mono ?_) | (go_at_call 117;with_reducible refine (c2 _).mono ?_) | (go_at_call 182;with_reducible refine (zkg h _).mono ?_) | (go_at_call 168;with_reducible refine (zbK h _).mono ?_) | (go_at_call 181;with_reducible refine (c5 _).mono ?_));rintro e w' ⟨rfl,rfl⟩) | fail)
 go_ret
 refine ⟨zal ?_,rfl⟩
 first | rfl | (simp only [nats];rfl)
theorem zsU (h:Nat) (W:World) (h0:(cutN h 13 3)=7):TW 119 #[.int .u32 (h:Nat)] W (.int .u32 (zdO (zcN h) 0 (zad h) 1)):=by
 have c2:∀ W,TW 117 #[.int .u32 h,.int .u64 15,.int .u64 13] W (.int .u32 7):=fun W=>by
  have h:=zap h 15 13 W (by omega) (by omega)
  rw [h0] at h
  exact h
 have c5:∀ W,TW 181 #[.int .u32 (zcN h),.int .u32 0,.int .u32 (zad h),.int .u32 1] W (.int .u32 (zdO (zcN h) 0 (zad h) 1)):=fun W=>zhy (zcN h) 0 (zad h) 1 W
 go_enter Tryz.func119,Tryz.ntmps119
 go_wp2_with (first | ((first | (go_at_call 175;with_reducible refine (zbi h _).mono ?_) | (go_at_call 176;with_reducible refine (zcR h _).mono ?_) | (go_at_call 117;with_reducible refine (c2 _).mono ?_) | (go_at_call 182;with_reducible refine (zkg h _).mono ?_) | (go_at_call 168;with_reducible refine (zbK h _).mono ?_) | (go_at_call 181;with_reducible refine (c5 _).mono ?_));rintro e w' ⟨rfl,rfl⟩) | fail)
 go_ret
 refine ⟨zal ?_,rfl⟩
 first | rfl | (simp only [nats];rfl)
theorem zkK (h:Nat) (W:World):TW 119 #[.int .u32 (h:Nat)] W (.int .u32 ((zbT h:Nat):Int)):=by
 have l0:=zbd h 13 3
 have b0:(cutN h 13 3)=0∨(cutN h 13 3)=1∨(cutN h 13 3)=2∨(cutN h 13 3)=3∨(cutN h 13 3)=4∨(cutN h 13 3)=5∨(cutN h 13 3)=6∨(cutN h 13 3)=7:=by omega
 rcases b0 with h0 | h0 | h0 | h0 | h0 | h0 | h0 | h0
 ·rw [show zbT h=(zaz (zaW h) (zae h) 0 (zae h) 19) from by unfold zbT;rw [beqT h0,cond_true]]
  exact zvd h W h0
 ·by_cases h1:(zae h)=0
  ·rw [show zbT h=0 from by unfold zbT;rw [beqF (show (cutN h 13 3)≠0 by omega),cond_false,beqT h0,cond_true,beqT h1,cond_true]]
   exact zp1 h W h0 h1
  ·rw [show zbT h=(zaz (zaW h) (zae h) 0 (zae h) 27) from by unfold zbT;rw [beqF (show (cutN h 13 3)≠0 by omega),cond_false,beqT h0,cond_true,beqF h1,cond_false]]
   exact zxN h W h0 h1
 ·rw [show zbT h=(zaz (zaW h) 0 0 (zae h) 19) from by unfold zbT;rw [beqF (show (cutN h 13 3)≠0 by omega),cond_false,beqF (show (cutN h 13 3)≠1 by omega),cond_false,beqT h0,cond_true]]
  exact zvl h W h0
 ·rw [show zbT h=(zdp h) from by unfold zbT;rw [beqF (show (cutN h 13 3)≠0 by omega),cond_false,beqF (show (cutN h 13 3)≠1 by omega),cond_false,beqF (show (cutN h 13 3)≠2 by omega),cond_false,beqT h0,cond_true]]
  exact zr5 h W h0
 ·rw [show zbT h=(zda h) from by unfold zbT;rw [beqF (show (cutN h 13 3)≠0 by omega),cond_false,beqF (show (cutN h 13 3)≠1 by omega),cond_false,beqF (show (cutN h 13 3)≠2 by omega),cond_false,beqF (show (cutN h 13 3)≠3 by omega),cond_false,beqT h0,cond_true]]
  exact zwK h W h0
 ·rw [show zbT h=(zfp (zep h) 0) from by unfold zbT;rw [beqF (show (cutN h 13 3)≠0 by omega),cond_false,beqF (show (cutN h 13 3)≠1 by omega),cond_false,beqF (show (cutN h 13 3)≠2 by omega),cond_false,beqF (show (cutN h 13 3)≠3 by omega),cond_false,beqF (show (cutN h 13 3)≠4 by omega),cond_false,beqT h0,cond_true]]
  exact zni h W h0
 ·rw [show zbT h=(zdO (zcN h) 0 (zad h) 0) from by unfold zbT;rw [beqF (show (cutN h 13 3)≠0 by omega),cond_false,beqF (show (cutN h 13 3)≠1 by omega),cond_false,beqF (show (cutN h 13 3)≠2 by omega),cond_false,beqF (show (cutN h 13 3)≠3 by omega),cond_false,beqF (show (cutN h 13 3)≠4 by omega),cond_false,beqF (show (cutN h 13 3)≠5 by omega),cond_false,beqT h0,cond_true]]
  exact ztN h W h0
 ·rw [show zbT h=(zdO (zcN h) 0 (zad h) 1) from by unfold zbT;rw [beqF (show (cutN h 13 3)≠0 by omega),cond_false,beqF (show (cutN h 13 3)≠1 by omega),cond_false,beqF (show (cutN h 13 3)≠2 by omega),cond_false,beqF (show (cutN h 13 3)≠3 by omega),cond_false,beqF (show (cutN h 13 3)≠4 by omega),cond_false,beqF (show (cutN h 13 3)≠5 by omega),cond_false,beqF (show (cutN h 13 3)≠6 by omega),cond_false,beqT h0,cond_true]]
  exact zsU h W h0
def zcv (h:Nat):Nat:=(bif Nat.beq (cutN h 12 1) 0 then (bif Nat.beq (zaR h) 0 then (bif Nat.beq (zae h) 0 then 0 else (zaz 0 (zae h) 0 0 103)) else (zba 0 (zaR h) 0 0 (zae h) 51)) else (bif Nat.beq (cutN h 12 1) 1 then (bif Nat.beq (zaR h) 0 then (bif Nat.beq (zae h) 0 then 1048691 else (zaz 0 (zae h) 0 1 103)) else (zba 0 (zaR h) (zae h) 0 (zae h) 51)) else 0))
theorem zoZ (h:Nat) (W:World) (h0:(cutN h 12 1)=0) (h1:(zaR h)=0) (h2:(zae h)=0):TW 187 #[.int .u32 (h:Nat)] W (.int .u32 0):=by
 have c2:∀ W,TW 117 #[.int .u32 h,.int .u64 12,.int .u64 12] W (.int .u32 0):=fun W=>by
  have h:=zap h 12 12 W (by omega) (by omega)
  rw [h0] at h
  exact h
 have p1:(((zaR h):Int)==0)=true:=by rw [beq_iff_eq];rw [h1];rfl
 have q1:(((zaR h):Int) != 0)=false:=by rw [bne,p1];rfl
 have p2:(((zae h):Int)==0)=true:=by rw [beq_iff_eq];rw [h2];rfl
 have q2:(((zae h):Int) != 0)=false:=by rw [bne,p2];rfl
 go_enter Tryz.func187,Tryz.ntmps187
 go_wp2_with (first | ((first | (go_at_call 175;with_reducible refine (zbi h _).mono ?_) | (go_at_call 183;with_reducible refine (zcu h _).mono ?_) | (go_at_call 117;with_reducible refine (c2 _).mono ?_));rintro e w' ⟨rfl,rfl⟩) | fail)
 go_ret
 exact ⟨rfl,rfl⟩
theorem zrp (h:Nat) (W:World) (h0:(cutN h 12 1)=0) (h1:(zaR h)=0) (h2:(zae h)≠0):TW 187 #[.int .u32 (h:Nat)] W (.int .u32 (zaz 0 (zae h) 0 0 103)):=by
 have c2:∀ W,TW 117 #[.int .u32 h,.int .u64 12,.int .u64 12] W (.int .u32 0):=fun W=>by
  have h:=zap h 12 12 W (by omega) (by omega)
  rw [h0] at h
  exact h
 have c3:∀ W,TW 171 #[.int .u32 0,.int .u32 (zae h),.int .u32 0,.int .u32 0,.int .u32 103] W (.int .u32 (zaz 0 (zae h) 0 0 103)):=fun W=>zcD 0 (zae h) 0 0 103 W
 have p1:(((zaR h):Int)==0)=true:=by rw [beq_iff_eq];rw [h1];rfl
 have q1:(((zaR h):Int) != 0)=false:=by rw [bne,p1];rfl
 have p2:(((zae h):Int)==0)=false:=by rw [beq_eq_false_iff_ne];omega
 have q2:(((zae h):Int) != 0)=true:=by rw [bne,p2];rfl
 go_enter Tryz.func187,Tryz.ntmps187
 go_wp2_with (first | ((first | (go_at_call 175;with_reducible refine (zbi h _).mono ?_) | (go_at_call 183;with_reducible refine (zcu h _).mono ?_) | (go_at_call 117;with_reducible refine (c2 _).mono ?_) | (go_at_call 171;with_reducible refine (c3 _).mono ?_));rintro e w' ⟨rfl,rfl⟩) | fail)
 go_ret
 refine ⟨zal ?_,rfl⟩
 first | rfl | (simp only [nats];rfl)
theorem zpD (h:Nat) (W:World) (h0:(cutN h 12 1)=0) (h1:(zaR h)≠0):TW 187 #[.int .u32 (h:Nat)] W (.int .u32 (zba 0 (zaR h) 0 0 (zae h) 51)):=by
 have c2:∀ W,TW 117 #[.int .u32 h,.int .u64 12,.int .u64 12] W (.int .u32 0):=fun W=>by
  have h:=zap h 12 12 W (by omega) (by omega)
  rw [h0] at h
  exact h
 have c3:∀ W,TW 218 #[.int .u32 0,.int .u32 (zaR h),.int .u32 0,.int .u32 0,.int .u32 (zae h),.int .u32 51] W (.int .u32 (zba 0 (zaR h) 0 0 (zae h) 51)):=fun W=>zd2 0 (zaR h) 0 0 (zae h) 51 W
 have p1:(((zaR h):Int)==0)=false:=by rw [beq_eq_false_iff_ne];omega
 have q1:(((zaR h):Int) != 0)=true:=by rw [bne,p1];rfl
 go_enter Tryz.func187,Tryz.ntmps187
 go_wp2_with (first | ((first | (go_at_call 175;with_reducible refine (zbi h _).mono ?_) | (go_at_call 183;with_reducible refine (zcu h _).mono ?_) | (go_at_call 117;with_reducible refine (c2 _).mono ?_) | (go_at_call 218;with_reducible refine (c3 _).mono ?_));rintro e w' ⟨rfl,rfl⟩) | fail)
 go_ret
 refine ⟨zal ?_,rfl⟩
 first | rfl | (simp only [nats];rfl)
theorem zud (h:Nat) (W:World) (h0:(cutN h 12 1)=1) (h1:(zaR h)=0) (h2:(zae h)=0):TW 187 #[.int .u32 (h:Nat)] W (.int .u32 ((1048691:Nat):Int)):=by
 have c2:∀ W,TW 117 #[.int .u32 h,.int .u64 12,.int .u64 12] W (.int .u32 1):=fun W=>by
  have h:=zap h 12 12 W (by omega) (by omega)
  rw [h0] at h
  exact h
 have p1:(((zaR h):Int)==0)=true:=by rw [beq_iff_eq];rw [h1];rfl
 have q1:(((zaR h):Int) != 0)=false:=by rw [bne,p1];rfl
 have p2:(((zae h):Int)==0)=true:=by rw [beq_iff_eq];rw [h2];rfl
 have q2:(((zae h):Int) != 0)=false:=by rw [bne,p2];rfl
 go_enter Tryz.func187,Tryz.ntmps187
 go_wp2_with (first | ((first | (go_at_call 175;with_reducible refine (zbi h _).mono ?_) | (go_at_call 183;with_reducible refine (zcu h _).mono ?_) | (go_at_call 117;with_reducible refine (c2 _).mono ?_));rintro e w' ⟨rfl,rfl⟩) | fail)
 go_ret
 refine ⟨zal ?_,rfl⟩
 first | rfl | (simp only [nats];rfl)
theorem zpi (h:Nat) (W:World) (h0:(cutN h 12 1)=1) (h1:(zaR h)=0) (h2:(zae h)≠0):TW 187 #[.int .u32 (h:Nat)] W (.int .u32 (zaz 0 (zae h) 0 1 103)):=by
 have c2:∀ W,TW 117 #[.int .u32 h,.int .u64 12,.int .u64 12] W (.int .u32 1):=fun W=>by
  have h:=zap h 12 12 W (by omega) (by omega)
  rw [h0] at h
  exact h
 have c3:∀ W,TW 171 #[.int .u32 0,.int .u32 (zae h),.int .u32 0,.int .u32 1,.int .u32 103] W (.int .u32 (zaz 0 (zae h) 0 1 103)):=fun W=>zcD 0 (zae h) 0 1 103 W
 have p1:(((zaR h):Int)==0)=true:=by rw [beq_iff_eq];rw [h1];rfl
 have q1:(((zaR h):Int) != 0)=false:=by rw [bne,p1];rfl
 have p2:(((zae h):Int)==0)=false:=by rw [beq_eq_false_iff_ne];omega
 have q2:(((zae h):Int) != 0)=true:=by rw [bne,p2];rfl
 go_enter Tryz.func187,Tryz.ntmps187
 go_wp2_with (first | ((first | (go_at_call 175;with_reducible refine (zbi h _).mono ?_) | (go_at_call 183;with_reducible refine (zcu h _).mono ?_) | (go_at_call 117;with_reducible refine (c2 _).mono ?_) | (go_at_call 171;with_reducible refine (c3 _).mono ?_));rintro e w' ⟨rfl,rfl⟩) | fail)
 go_ret
 refine ⟨zal ?_,rfl⟩
 first | rfl | (simp only [nats];rfl)
theorem zrV (h:Nat) (W:World) (h0:(cutN h 12 1)=1) (h1:(zaR h)≠0):TW 187 #[.int .u32 (h:Nat)] W (.int .u32 (zba 0 (zaR h) (zae h) 0 (zae h) 51)):=by
 have c2:∀ W,TW 117 #[.int .u32 h,.int .u64 12,.int .u64 12] W (.int .u32 1):=fun W=>by
  have h:=zap h 12 12 W (by omega) (by omega)
  rw [h0] at h
  exact h
 have c3:∀ W,TW 218 #[.int .u32 0,.int .u32 (zaR h),.int .u32 (zae h),.int .u32 0,.int .u32 (zae h),.int .u32 51] W (.int .u32 (zba 0 (zaR h) (zae h) 0 (zae h) 51)):=fun W=>zd2 0 (zaR h) (zae h) 0 (zae h) 51 W
 have p1:(((zaR h):Int)==0)=false:=by rw [beq_eq_false_iff_ne];omega
 have q1:(((zaR h):Int) != 0)=true:=by rw [bne,p1];rfl
 go_enter Tryz.func187,Tryz.ntmps187
 go_wp2_with (first | ((first | (go_at_call 175;with_reducible refine (zbi h _).mono ?_) | (go_at_call 183;with_reducible refine (zcu h _).mono ?_) | (go_at_call 117;with_reducible refine (c2 _).mono ?_) | (go_at_call 218;with_reducible refine (c3 _).mono ?_));rintro e w' ⟨rfl,rfl⟩) | fail)
 go_ret
 refine ⟨zal ?_,rfl⟩
 first | rfl | (simp only [nats];rfl)
theorem zw8 (h:Nat) (W:World):TW 187 #[.int .u32 (h:Nat)] W (.int .u32 ((zcv h:Nat):Int)):=by
 have l0:=zbd h 12 1
 have b0:(cutN h 12 1)=0∨(cutN h 12 1)=1:=by omega
 rcases b0 with h0 | h0
 ·by_cases h1:(zaR h)=0
  ·by_cases h2:(zae h)=0
   ·rw [show zcv h=0 from by unfold zcv;rw [beqT h0,cond_true,beqT h1,cond_true,beqT h2,cond_true]]
    exact zoZ h W h0 h1 h2
   ·rw [show zcv h=(zaz 0 (zae h) 0 0 103) from by unfold zcv;rw [beqT h0,cond_true,beqT h1,cond_true,beqF h2,cond_false]]
    exact zrp h W h0 h1 h2
  ·rw [show zcv h=(zba 0 (zaR h) 0 0 (zae h) 51) from by unfold zcv;rw [beqT h0,cond_true,beqF h1,cond_false]]
   exact zpD h W h0 h1
 ·by_cases h1:(zaR h)=0
  ·by_cases h2:(zae h)=0
   ·rw [show zcv h=1048691 from by unfold zcv;rw [beqF (show (cutN h 12 1)≠0 by omega),cond_false,beqT h0,cond_true,beqT h1,cond_true,beqT h2,cond_true]]
    exact zud h W h0 h1 h2
   ·rw [show zcv h=(zaz 0 (zae h) 0 1 103) from by unfold zcv;rw [beqF (show (cutN h 12 1)≠0 by omega),cond_false,beqT h0,cond_true,beqT h1,cond_true,beqF h2,cond_false]]
    exact zpi h W h0 h1 h2
  ·rw [show zcv h=(zba 0 (zaR h) (zae h) 0 (zae h) 51) from by unfold zcv;rw [beqF (show (cutN h 12 1)≠0 by omega),cond_false,beqT h0,cond_true,beqF h1,cond_false]]
   exact zrV h W h0 h1
def zbC (h:Nat):Nat:=(bif Nat.beq (cutN h 13 3) 0 then (zaz (zbY h) (zae h) 1 (zae h) 19) else (bif Nat.beq (cutN h 13 3) 2 then (bif Nat.beq (zae h) 0 then 0 else (zaz (zea h) 2 2 (zae h) 3)) else (bif Nat.beq (cutN h 13 3) 3 then (bif Nat.beq (zae h) 0 then 0 else (zaz (zeh h) 2 3 (zae h) 3)) else (bif Nat.beq (cutN h 13 3) 4 then (zcv h) else (bif Nat.beq (cutN h 13 3) 6 then (zce (zed h) (zaR h) 2 2 35) else (bif Nat.beq (cutN h 13 3) 7 then (zce (zel h) (zaR h) 2 3 35) else 0))))))
theorem zw2 (h:Nat) (W:World) (h0:(cutN h 13 3)=0):TW 120 #[.int .u32 (h:Nat)] W (.int .u32 (zaz (zbY h) (zae h) 1 (zae h) 19)):=by
 have c2:∀ W,TW 117 #[.int .u32 h,.int .u64 15,.int .u64 13] W (.int .u32 0):=fun W=>by
  have h:=zap h 15 13 W (by omega) (by omega)
  rw [h0] at h
  exact h
 have c4:∀ W,TW 171 #[.int .u32 (zbY h),.int .u32 (zae h),.int .u32 1,.int .u32 (zae h),.int .u32 19] W (.int .u32 (zaz (zbY h) (zae h) 1 (zae h) 19)):=fun W=>zcD (zbY h) (zae h) 1 (zae h) 19 W
 go_enter Tryz.func120,Tryz.ntmps120
 go_wp2_with (first | ((first | (go_at_call 175;with_reducible refine (zbi h _).mono ?_) | (go_at_call 183;with_reducible refine (zcu h _).mono ?_) | (go_at_call 117;with_reducible refine (c2 _).mono ?_) | (go_at_call 184;with_reducible refine (zgA h _).mono ?_) | (go_at_call 171;with_reducible refine (c4 _).mono ?_));rintro e w' ⟨rfl,rfl⟩) | fail)
 go_ret
 refine ⟨zal ?_,rfl⟩
 first | rfl | (simp only [nats];rfl)
theorem zpx (h:Nat) (W:World) (h0:(cutN h 13 3)=1):TW 120 #[.int .u32 (h:Nat)] W (.int .u32 0):=by
 have c2:∀ W,TW 117 #[.int .u32 h,.int .u64 15,.int .u64 13] W (.int .u32 1):=fun W=>by
  have h:=zap h 15 13 W (by omega) (by omega)
  rw [h0] at h
  exact h
 go_enter Tryz.func120,Tryz.ntmps120
 go_wp2_with (first | ((first | (go_at_call 175;with_reducible refine (zbi h _).mono ?_) | (go_at_call 183;with_reducible refine (zcu h _).mono ?_) | (go_at_call 117;with_reducible refine (c2 _).mono ?_));rintro e w' ⟨rfl,rfl⟩) | fail)
 go_ret
 exact ⟨rfl,rfl⟩
theorem zl4 (h:Nat) (W:World) (h0:(cutN h 13 3)=2) (h1:(zae h)=0):TW 120 #[.int .u32 (h:Nat)] W (.int .u32 0):=by
 have c2:∀ W,TW 117 #[.int .u32 h,.int .u64 15,.int .u64 13] W (.int .u32 2):=fun W=>by
  have h:=zap h 15 13 W (by omega) (by omega)
  rw [h0] at h
  exact h
 have p1:(((zae h):Int)==0)=true:=by rw [beq_iff_eq];rw [h1];rfl
 have q1:(((zae h):Int) != 0)=false:=by rw [bne,p1];rfl
 go_enter Tryz.func120,Tryz.ntmps120
 go_wp2_with (first | ((first | (go_at_call 175;with_reducible refine (zbi h _).mono ?_) | (go_at_call 183;with_reducible refine (zcu h _).mono ?_) | (go_at_call 117;with_reducible refine (c2 _).mono ?_));rintro e w' ⟨rfl,rfl⟩) | fail)
 go_ret
 exact ⟨rfl,rfl⟩
theorem zs3 (h:Nat) (W:World) (h0:(cutN h 13 3)=2) (h1:(zae h)≠0):TW 120 #[.int .u32 (h:Nat)] W (.int .u32 (zaz (zea h) 2 2 (zae h) 3)):=by
 have c2:∀ W,TW 117 #[.int .u32 h,.int .u64 15,.int .u64 13] W (.int .u32 2):=fun W=>by
  have h:=zap h 15 13 W (by omega) (by omega)
  rw [h0] at h
  exact h
 have c4:∀ W,TW 171 #[.int .u32 (zea h),.int .u32 2,.int .u32 2,.int .u32 (zae h),.int .u32 3] W (.int .u32 (zaz (zea h) 2 2 (zae h) 3)):=fun W=>zcD (zea h) 2 2 (zae h) 3 W
 have p1:(((zae h):Int)==0)=false:=by rw [beq_eq_false_iff_ne];omega
 have q1:(((zae h):Int) != 0)=true:=by rw [bne,p1];rfl
 go_enter Tryz.func120,Tryz.ntmps120
 go_wp2_with (first | ((first | (go_at_call 175;with_reducible refine (zbi h _).mono ?_) | (go_at_call 183;with_reducible refine (zcu h _).mono ?_) | (go_at_call 117;with_reducible refine (c2 _).mono ?_) | (go_at_call 185;with_reducible refine (zrC h _).mono ?_) | (go_at_call 171;with_reducible refine (c4 _).mono ?_));rintro e w' ⟨rfl,rfl⟩) | fail)
 go_ret
 refine ⟨zal ?_,rfl⟩
 first | rfl | (simp only [nats];rfl)
theorem zqi (h:Nat) (W:World) (h0:(cutN h 13 3)=3) (h1:(zae h)=0):TW 120 #[.int .u32 (h:Nat)] W (.int .u32 0):=by
 have c2:∀ W,TW 117 #[.int .u32 h,.int .u64 15,.int .u64 13] W (.int .u32 3):=fun W=>by
  have h:=zap h 15 13 W (by omega) (by omega)
  rw [h0] at h
  exact h
 have p1:(((zae h):Int)==0)=true:=by rw [beq_iff_eq];rw [h1];rfl
 have q1:(((zae h):Int) != 0)=false:=by rw [bne,p1];rfl
 go_enter Tryz.func120,Tryz.ntmps120
 go_wp2_with (first | ((first | (go_at_call 175;with_reducible refine (zbi h _).mono ?_) | (go_at_call 183;with_reducible refine (zcu h _).mono ?_) | (go_at_call 117;with_reducible refine (c2 _).mono ?_));rintro e w' ⟨rfl,rfl⟩) | fail)
 go_ret
 exact ⟨rfl,rfl⟩
theorem zo5 (h:Nat) (W:World) (h0:(cutN h 13 3)=3) (h1:(zae h)≠0):TW 120 #[.int .u32 (h:Nat)] W (.int .u32 (zaz (zeh h) 2 3 (zae h) 3)):=by
 have c2:∀ W,TW 117 #[.int .u32 h,.int .u64 15,.int .u64 13] W (.int .u32 3):=fun W=>by
  have h:=zap h 15 13 W (by omega) (by omega)
  rw [h0] at h
  exact h
 have c4:∀ W,TW 171 #[.int .u32 (zeh h),.int .u32 2,.int .u32 3,.int .u32 (zae h),.int .u32 3] W (.int .u32 (zaz (zeh h) 2 3 (zae h) 3)):=fun W=>zcD (zeh h) 2 3 (zae h) 3 W
 have p1:(((zae h):Int)==0)=false:=by rw [beq_eq_false_iff_ne];omega
 have q1:(((zae h):Int) != 0)=true:=by rw [bne,p1];rfl
 go_enter Tryz.func120,Tryz.ntmps120
 go_wp2_with (first | ((first | (go_at_call 175;with_reducible refine (zbi h _).mono ?_) | (go_at_call 183;with_reducible refine (zcu h _).mono ?_) | (go_at_call 117;with_reducible refine (c2 _).mono ?_) | (go_at_call 186;with_reducible refine (zrl h _).mono ?_) | (go_at_call 171;with_reducible refine (c4 _).mono ?_));rintro e w' ⟨rfl,rfl⟩) | fail)
 go_ret
 refine ⟨zal ?_,rfl⟩
 first | rfl | (simp only [nats];rfl)
theorem zpr (h:Nat) (W:World) (h0:(cutN h 13 3)=4):TW 120 #[.int .u32 (h:Nat)] W (.int .u32 (zcv h)):=by
 have c2:∀ W,TW 117 #[.int .u32 h,.int .u64 15,.int .u64 13] W (.int .u32 4):=fun W=>by
  have h:=zap h 15 13 W (by omega) (by omega)
  rw [h0] at h
  exact h
 go_enter Tryz.func120,Tryz.ntmps120
 go_wp2_with (first | ((first | (go_at_call 175;with_reducible refine (zbi h _).mono ?_) | (go_at_call 183;with_reducible refine (zcu h _).mono ?_) | (go_at_call 117;with_reducible refine (c2 _).mono ?_) | (go_at_call 187;with_reducible refine (zw8 h _).mono ?_));rintro e w' ⟨rfl,rfl⟩) | fail)
 go_ret
 refine ⟨zal ?_,rfl⟩
 first | rfl | (simp only [nats];rfl)
theorem zxf (h:Nat) (W:World) (h0:(cutN h 13 3)=5):TW 120 #[.int .u32 (h:Nat)] W (.int .u32 0):=by
 have c2:∀ W,TW 117 #[.int .u32 h,.int .u64 15,.int .u64 13] W (.int .u32 5):=fun W=>by
  have h:=zap h 15 13 W (by omega) (by omega)
  rw [h0] at h
  exact h
 go_enter Tryz.func120,Tryz.ntmps120
 go_wp2_with (first | ((first | (go_at_call 175;with_reducible refine (zbi h _).mono ?_) | (go_at_call 183;with_reducible refine (zcu h _).mono ?_) | (go_at_call 117;with_reducible refine (c2 _).mono ?_));rintro e w' ⟨rfl,rfl⟩) | fail)
 go_ret
 exact ⟨rfl,rfl⟩
theorem zwQ (h:Nat) (W:World) (h0:(cutN h 13 3)=6):TW 120 #[.int .u32 (h:Nat)] W (.int .u32 (zce (zed h) (zaR h) 2 2 35)):=by
 have c2:∀ W,TW 117 #[.int .u32 h,.int .u64 15,.int .u64 13] W (.int .u32 6):=fun W=>by
  have h:=zap h 15 13 W (by omega) (by omega)
  rw [h0] at h
  exact h
 have c4:∀ W,TW 174 #[.int .u32 (zed h),.int .u32 (zaR h),.int .u32 2,.int .u32 2,.int .u32 35] W (.int .u32 (zce (zed h) (zaR h) 2 2 35)):=fun W=>zfH (zed h) (zaR h) 2 2 35 W
 go_enter Tryz.func120,Tryz.ntmps120
 go_wp2_with (first | ((first | (go_at_call 175;with_reducible refine (zbi h _).mono ?_) | (go_at_call 183;with_reducible refine (zcu h _).mono ?_) | (go_at_call 117;with_reducible refine (c2 _).mono ?_) | (go_at_call 188;with_reducible refine (zvo h _).mono ?_) | (go_at_call 174;with_reducible refine (c4 _).mono ?_));rintro e w' ⟨rfl,rfl⟩) | fail)
 go_ret
 refine ⟨zal ?_,rfl⟩
 first | rfl | (simp only [nats];rfl)
theorem zxW (h:Nat) (W:World) (h0:(cutN h 13 3)=7):TW 120 #[.int .u32 (h:Nat)] W (.int .u32 (zce (zel h) (zaR h) 2 3 35)):=by
 have c2:∀ W,TW 117 #[.int .u32 h,.int .u64 15,.int .u64 13] W (.int .u32 7):=fun W=>by
  have h:=zap h 15 13 W (by omega) (by omega)
  rw [h0] at h
  exact h
 have c4:∀ W,TW 174 #[.int .u32 (zel h),.int .u32 (zaR h),.int .u32 2,.int .u32 3,.int .u32 35] W (.int .u32 (zce (zel h) (zaR h) 2 3 35)):=fun W=>zfH (zel h) (zaR h) 2 3 35 W
 go_enter Tryz.func120,Tryz.ntmps120
 go_wp2_with (first | ((first | (go_at_call 175;with_reducible refine (zbi h _).mono ?_) | (go_at_call 183;with_reducible refine (zcu h _).mono ?_) | (go_at_call 117;with_reducible refine (c2 _).mono ?_) | (go_at_call 189;with_reducible refine (zog h _).mono ?_) | (go_at_call 174;with_reducible refine (c4 _).mono ?_));rintro e w' ⟨rfl,rfl⟩) | fail)
 go_ret
 refine ⟨zal ?_,rfl⟩
 first | rfl | (simp only [nats];rfl)
theorem zv3 (h:Nat) (W:World):TW 120 #[.int .u32 (h:Nat)] W (.int .u32 ((zbC h:Nat):Int)):=by
 have l0:=zbd h 13 3
 have b0:(cutN h 13 3)=0∨(cutN h 13 3)=1∨(cutN h 13 3)=2∨(cutN h 13 3)=3∨(cutN h 13 3)=4∨(cutN h 13 3)=5∨(cutN h 13 3)=6∨(cutN h 13 3)=7:=by omega
 rcases b0 with h0 | h0 | h0 | h0 | h0 | h0 | h0 | h0
 ·rw [show zbC h=(zaz (zbY h) (zae h) 1 (zae h) 19) from by unfold zbC;rw [beqT h0,cond_true]]
  exact zw2 h W h0
 ·rw [show zbC h=0 from by unfold zbC;rw [beqF (show (cutN h 13 3)≠0 by omega),cond_false,beqF (show (cutN h 13 3)≠2 by omega),cond_false,beqF (show (cutN h 13 3)≠3 by omega),cond_false,beqF (show (cutN h 13 3)≠4 by omega),cond_false,beqF (show (cutN h 13 3)≠6 by omega),cond_false,beqF (show (cutN h 13 3)≠7 by omega),cond_false]]
  exact zpx h W h0
 ·by_cases h1:(zae h)=0
  ·rw [show zbC h=0 from by unfold zbC;rw [beqF (show (cutN h 13 3)≠0 by omega),cond_false,beqT h0,cond_true,beqT h1,cond_true]]
   exact zl4 h W h0 h1
  ·rw [show zbC h=(zaz (zea h) 2 2 (zae h) 3) from by unfold zbC;rw [beqF (show (cutN h 13 3)≠0 by omega),cond_false,beqT h0,cond_true,beqF h1,cond_false]]
   exact zs3 h W h0 h1
 ·by_cases h1:(zae h)=0
  ·rw [show zbC h=0 from by unfold zbC;rw [beqF (show (cutN h 13 3)≠0 by omega),cond_false,beqF (show (cutN h 13 3)≠2 by omega),cond_false,beqT h0,cond_true,beqT h1,cond_true]]
   exact zqi h W h0 h1
  ·rw [show zbC h=(zaz (zeh h) 2 3 (zae h) 3) from by unfold zbC;rw [beqF (show (cutN h 13 3)≠0 by omega),cond_false,beqF (show (cutN h 13 3)≠2 by omega),cond_false,beqT h0,cond_true,beqF h1,cond_false]]
   exact zo5 h W h0 h1
 ·rw [show zbC h=(zcv h) from by unfold zbC;rw [beqF (show (cutN h 13 3)≠0 by omega),cond_false,beqF (show (cutN h 13 3)≠2 by omega),cond_false,beqF (show (cutN h 13 3)≠3 by omega),cond_false,beqT h0,cond_true]]
  exact zpr h W h0
 ·rw [show zbC h=0 from by unfold zbC;rw [beqF (show (cutN h 13 3)≠0 by omega),cond_false,beqF (show (cutN h 13 3)≠2 by omega),cond_false,beqF (show (cutN h 13 3)≠3 by omega),cond_false,beqF (show (cutN h 13 3)≠4 by omega),cond_false,beqF (show (cutN h 13 3)≠6 by omega),cond_false,beqF (show (cutN h 13 3)≠7 by omega),cond_false]]
  exact zxf h W h0
 ·rw [show zbC h=(zce (zed h) (zaR h) 2 2 35) from by unfold zbC;rw [beqF (show (cutN h 13 3)≠0 by omega),cond_false,beqF (show (cutN h 13 3)≠2 by omega),cond_false,beqF (show (cutN h 13 3)≠3 by omega),cond_false,beqF (show (cutN h 13 3)≠4 by omega),cond_false,beqT h0,cond_true]]
  exact zwQ h W h0
 ·rw [show zbC h=(zce (zel h) (zaR h) 2 3 35) from by unfold zbC;rw [beqF (show (cutN h 13 3)≠0 by omega),cond_false,beqF (show (cutN h 13 3)≠2 by omega),cond_false,beqF (show (cutN h 13 3)≠3 by omega),cond_false,beqF (show (cutN h 13 3)≠4 by omega),cond_false,beqF (show (cutN h 13 3)≠6 by omega),cond_false,beqT h0,cond_true]]
  exact zxW h W h0
def zbn (h:Nat):Nat:=(bif Nat.beq (cutN h 0 2) 0 then (zbN h) else (bif Nat.beq (cutN h 0 2) 1 then (zbT h) else (bif Nat.beq (cutN h 0 2) 2 then (zbC h) else 0)))
theorem zvv (h:Nat) (W:World) (h0:(cutN h 0 2)=0):TW 98 #[.int .u32 (h:Nat)] W (.int .u32 (zbN h)):=by
 have c0:∀ W,TW 117 #[.int .u32 h,.int .u64 1,.int .u64 0] W (.int .u32 0):=fun W=>by
  have h:=zap h 1 0 W (by omega) (by omega)
  rw [h0] at h
  exact h
 go_enter Tryz.func98,Tryz.ntmps98
 go_wp2_with (first | ((first | (go_at_call 117;with_reducible refine (c0 _).mono ?_) | (go_at_call 118;with_reducible refine (zsi h _).mono ?_));rintro e w' ⟨rfl,rfl⟩) | fail)
 go_ret
 refine ⟨zal ?_,rfl⟩
 first | rfl | (simp only [nats];rfl)
theorem zou (h:Nat) (W:World) (h0:(cutN h 0 2)=1):TW 98 #[.int .u32 (h:Nat)] W (.int .u32 (zbT h)):=by
 have c0:∀ W,TW 117 #[.int .u32 h,.int .u64 1,.int .u64 0] W (.int .u32 1):=fun W=>by
  have h:=zap h 1 0 W (by omega) (by omega)
  rw [h0] at h
  exact h
 go_enter Tryz.func98,Tryz.ntmps98
 go_wp2_with (first | ((first | (go_at_call 117;with_reducible refine (c0 _).mono ?_) | (go_at_call 119;with_reducible refine (zkK h _).mono ?_));rintro e w' ⟨rfl,rfl⟩) | fail)
 go_ret
 refine ⟨zal ?_,rfl⟩
 first | rfl | (simp only [nats];rfl)
theorem znO (h:Nat) (W:World) (h0:(cutN h 0 2)=2):TW 98 #[.int .u32 (h:Nat)] W (.int .u32 (zbC h)):=by
 have c0:∀ W,TW 117 #[.int .u32 h,.int .u64 1,.int .u64 0] W (.int .u32 2):=fun W=>by
  have h:=zap h 1 0 W (by omega) (by omega)
  rw [h0] at h
  exact h
 go_enter Tryz.func98,Tryz.ntmps98
 go_wp2_with (first | ((first | (go_at_call 117;with_reducible refine (c0 _).mono ?_) | (go_at_call 120;with_reducible refine (zv3 h _).mono ?_));rintro e w' ⟨rfl,rfl⟩) | fail)
 go_ret
 refine ⟨zal ?_,rfl⟩
 first | rfl | (simp only [nats];rfl)
theorem ztS (h:Nat) (W:World) (h0:(cutN h 0 2)=3):TW 98 #[.int .u32 (h:Nat)] W (.int .u32 0):=by
 have c0:∀ W,TW 117 #[.int .u32 h,.int .u64 1,.int .u64 0] W (.int .u32 3):=fun W=>by
  have h:=zap h 1 0 W (by omega) (by omega)
  rw [h0] at h
  exact h
 go_enter Tryz.func98,Tryz.ntmps98
 go_wp2_with (first | (go_at_call 117;(with_reducible refine (c0 _).mono ?_);rintro e w' ⟨rfl,rfl⟩) | fail)
 go_ret
 exact ⟨rfl,rfl⟩
theorem zb4 (h:Nat) (W:World):TW 98 #[.int .u32 (h:Nat)] W (.int .u32 ((zbn h:Nat):Int)):=by
 have l0:=zbd h 0 2
 have b0:(cutN h 0 2)=0∨(cutN h 0 2)=1∨(cutN h 0 2)=2∨(cutN h 0 2)=3:=by omega
 rcases b0 with h0 | h0 | h0 | h0
 ·rw [show zbn h=(zbN h) from by unfold zbn;rw [beqT h0,cond_true]]
  exact zvv h W h0
 ·rw [show zbn h=(zbT h) from by unfold zbn;rw [beqF (show (cutN h 0 2)≠0 by omega),cond_false,beqT h0,cond_true]]
  exact zou h W h0
 ·rw [show zbn h=(zbC h) from by unfold zbn;rw [beqF (show (cutN h 0 2)≠0 by omega),cond_false,beqF (show (cutN h 0 2)≠1 by omega),cond_false,beqT h0,cond_true]]
  exact znO h W h0
 ·rw [show zbn h=0 from by unfold zbn;rw [beqF (show (cutN h 0 2)≠0 by omega),cond_false,beqF (show (cutN h 0 2)≠1 by omega),cond_false,beqF (show (cutN h 0 2)≠2 by omega),cond_false]]
  exact ztS h W h0
end Go.Proofs.YtplcfdnfeclpmaaGreatDoor.Br
