/- HartQuiet,part 11. -/
import Derived.Test.YtmjjpgaeboaamaaGreatDoorY10
set_option maxHeartbeats 4000000
set_option maxRecDepth 100000
open Go.Lib (hid)
namespace Go.Proofs.YtmjjpgaeboaamaaGreatDoor.Br
open Go.RowKit Go.Deep Go.Joins
set_option maxRecDepth 100000
def zbT (h:Nat):Nat:=(bif Nat.beq (cutN h 13 3) 0 then (bif Nat.beq (zcD h) 0 then 0 else (zax (zcD h) 2 0 (zat h) 19)) else (bif Nat.beq (cutN h 13 3) 2 then (zax (zcO h) (zac h) 2 (zat h) 3) else (bif Nat.beq (cutN h 13 3) 3 then (zax (zcQ h) (zac h) 3 (zat h) 3) else (bif Nat.beq (cutN h 13 3) 6 then (zcf (zcO h) (zat h) (zac h) 2 35) else (bif Nat.beq (cutN h 13 3) 7 then (zcf (zcQ h) (zat h) (zac h) 3 35) else 0)))))
theorem zqI (h:Nat) (W:World) (h0:(cutN h 13 3)=0) (h1:(zcD h)=0):TW 191 #[.int .u32 (h:Nat)] W (.int .u32 0):=by
 have c2:∀ W,TW 190 #[.int .u32 h,.int .u64 15,.int .u64 13] W (.int .u32 0):=fun W=>by
  have h:=zaq h 15 13 W (by omega) (by omega)
  rw [h0] at h
  exact h
 have p1:(((zcD h):Int)==0)=true:=by rw [beq_iff_eq];rw [h1];rfl
 have q1:(((zcD h):Int) != 0)=false:=by rw [bne,p1];rfl
 go_enter Tryz.func191,Tryz.ntmps191
 go_wp2_with (first | ((first | (go_at_call 264;with_reducible refine (zbP h _).mono ?_) | (go_at_call 265;with_reducible refine (zcg h _).mono ?_) | (go_at_call 190;with_reducible refine (c2 _).mono ?_) | (go_at_call 266;with_reducible refine (ziH h _).mono ?_));rintro e w' ⟨rfl,rfl⟩) | fail)
 go_ret
 exact ⟨rfl,rfl⟩
theorem zpM (h:Nat) (W:World) (h0:(cutN h 13 3)=0) (h1:(zcD h)≠0):TW 191 #[.int .u32 (h:Nat)] W (.int .u32 (zax (zcD h) 2 0 (zat h) 19)):=by
 have c2:∀ W,TW 190 #[.int .u32 h,.int .u64 15,.int .u64 13] W (.int .u32 0):=fun W=>by
  have h:=zaq h 15 13 W (by omega) (by omega)
  rw [h0] at h
  exact h
 have c4:∀ W,TW 267 #[.int .u32 (zcD h),.int .u32 2,.int .u32 0,.int .u32 (zat h),.int .u32 19] W (.int .u32 (zax (zcD h) 2 0 (zat h) 19)):=fun W=>zcC (zcD h) 2 0 (zat h) 19 W
 have p1:(((zcD h):Int)==0)=false:=by rw [beq_eq_false_iff_ne];omega
 have q1:(((zcD h):Int) != 0)=true:=by rw [bne,p1];rfl
 go_enter Tryz.func191,Tryz.ntmps191
 go_wp2_with (first | ((first | (go_at_call 264;with_reducible refine (zbP h _).mono ?_) | (go_at_call 265;with_reducible refine (zcg h _).mono ?_) | (go_at_call 190;with_reducible refine (c2 _).mono ?_) | (go_at_call 266;with_reducible refine (ziH h _).mono ?_) | (go_at_call 267;with_reducible refine (c4 _).mono ?_));rintro e w' ⟨rfl,rfl⟩) | fail)
 go_ret
 refine ⟨zah ?_,rfl⟩
 first | rfl | (simp only [nats];rfl)
theorem ztX (h:Nat) (W:World) (h0:(cutN h 13 3)=1):TW 191 #[.int .u32 (h:Nat)] W (.int .u32 0):=by
 have c2:∀ W,TW 190 #[.int .u32 h,.int .u64 15,.int .u64 13] W (.int .u32 1):=fun W=>by
  have h:=zaq h 15 13 W (by omega) (by omega)
  rw [h0] at h
  exact h
 go_enter Tryz.func191,Tryz.ntmps191
 go_wp2_with (first | ((first | (go_at_call 264;with_reducible refine (zbP h _).mono ?_) | (go_at_call 265;with_reducible refine (zcg h _).mono ?_) | (go_at_call 190;with_reducible refine (c2 _).mono ?_));rintro e w' ⟨rfl,rfl⟩) | fail)
 go_ret
 exact ⟨rfl,rfl⟩
theorem zqp (h:Nat) (W:World) (h0:(cutN h 13 3)=2):TW 191 #[.int .u32 (h:Nat)] W (.int .u32 (zax (zcO h) (zac h) 2 (zat h) 3)):=by
 have c2:∀ W,TW 190 #[.int .u32 h,.int .u64 15,.int .u64 13] W (.int .u32 2):=fun W=>by
  have h:=zaq h 15 13 W (by omega) (by omega)
  rw [h0] at h
  exact h
 have c4:∀ W,TW 267 #[.int .u32 (zcO h),.int .u32 (zac h),.int .u32 2,.int .u32 (zat h),.int .u32 3] W (.int .u32 (zax (zcO h) (zac h) 2 (zat h) 3)):=fun W=>zcC (zcO h) (zac h) 2 (zat h) 3 W
 go_enter Tryz.func191,Tryz.ntmps191
 go_wp2_with (first | ((first | (go_at_call 264;with_reducible refine (zbP h _).mono ?_) | (go_at_call 265;with_reducible refine (zcg h _).mono ?_) | (go_at_call 190;with_reducible refine (c2 _).mono ?_) | (go_at_call 268;with_reducible refine (zi7 h _).mono ?_) | (go_at_call 267;with_reducible refine (c4 _).mono ?_));rintro e w' ⟨rfl,rfl⟩) | fail)
 go_ret
 refine ⟨zah ?_,rfl⟩
 first | rfl | (simp only [nats];rfl)
theorem zvA (h:Nat) (W:World) (h0:(cutN h 13 3)=3):TW 191 #[.int .u32 (h:Nat)] W (.int .u32 (zax (zcQ h) (zac h) 3 (zat h) 3)):=by
 have c2:∀ W,TW 190 #[.int .u32 h,.int .u64 15,.int .u64 13] W (.int .u32 3):=fun W=>by
  have h:=zaq h 15 13 W (by omega) (by omega)
  rw [h0] at h
  exact h
 have c4:∀ W,TW 267 #[.int .u32 (zcQ h),.int .u32 (zac h),.int .u32 3,.int .u32 (zat h),.int .u32 3] W (.int .u32 (zax (zcQ h) (zac h) 3 (zat h) 3)):=fun W=>zcC (zcQ h) (zac h) 3 (zat h) 3 W
 go_enter Tryz.func191,Tryz.ntmps191
 go_wp2_with (first | ((first | (go_at_call 264;with_reducible refine (zbP h _).mono ?_) | (go_at_call 265;with_reducible refine (zcg h _).mono ?_) | (go_at_call 190;with_reducible refine (c2 _).mono ?_) | (go_at_call 269;with_reducible refine (zjj h _).mono ?_) | (go_at_call 267;with_reducible refine (c4 _).mono ?_));rintro e w' ⟨rfl,rfl⟩) | fail)
 go_ret
 refine ⟨zah ?_,rfl⟩
 first | rfl | (simp only [nats];rfl)
theorem zwY (h:Nat) (W:World) (h0:(cutN h 13 3)=4):TW 191 #[.int .u32 (h:Nat)] W (.int .u32 0):=by
 have c2:∀ W,TW 190 #[.int .u32 h,.int .u64 15,.int .u64 13] W (.int .u32 4):=fun W=>by
  have h:=zaq h 15 13 W (by omega) (by omega)
  rw [h0] at h
  exact h
 go_enter Tryz.func191,Tryz.ntmps191
 go_wp2_with (first | ((first | (go_at_call 264;with_reducible refine (zbP h _).mono ?_) | (go_at_call 265;with_reducible refine (zcg h _).mono ?_) | (go_at_call 190;with_reducible refine (c2 _).mono ?_));rintro e w' ⟨rfl,rfl⟩) | fail)
 go_ret
 exact ⟨rfl,rfl⟩
theorem zxr (h:Nat) (W:World) (h0:(cutN h 13 3)=5):TW 191 #[.int .u32 (h:Nat)] W (.int .u32 0):=by
 have c2:∀ W,TW 190 #[.int .u32 h,.int .u64 15,.int .u64 13] W (.int .u32 5):=fun W=>by
  have h:=zaq h 15 13 W (by omega) (by omega)
  rw [h0] at h
  exact h
 go_enter Tryz.func191,Tryz.ntmps191
 go_wp2_with (first | ((first | (go_at_call 264;with_reducible refine (zbP h _).mono ?_) | (go_at_call 265;with_reducible refine (zcg h _).mono ?_) | (go_at_call 190;with_reducible refine (c2 _).mono ?_));rintro e w' ⟨rfl,rfl⟩) | fail)
 go_ret
 exact ⟨rfl,rfl⟩
theorem zos (h:Nat) (W:World) (h0:(cutN h 13 3)=6):TW 191 #[.int .u32 (h:Nat)] W (.int .u32 (zcf (zcO h) (zat h) (zac h) 2 35)):=by
 have c2:∀ W,TW 190 #[.int .u32 h,.int .u64 15,.int .u64 13] W (.int .u32 6):=fun W=>by
  have h:=zaq h 15 13 W (by omega) (by omega)
  rw [h0] at h
  exact h
 have c4:∀ W,TW 270 #[.int .u32 (zcO h),.int .u32 (zat h),.int .u32 (zac h),.int .u32 2,.int .u32 35] W (.int .u32 (zcf (zcO h) (zat h) (zac h) 2 35)):=fun W=>zfB (zcO h) (zat h) (zac h) 2 35 W
 go_enter Tryz.func191,Tryz.ntmps191
 go_wp2_with (first | ((first | (go_at_call 264;with_reducible refine (zbP h _).mono ?_) | (go_at_call 265;with_reducible refine (zcg h _).mono ?_) | (go_at_call 190;with_reducible refine (c2 _).mono ?_) | (go_at_call 268;with_reducible refine (zi7 h _).mono ?_) | (go_at_call 270;with_reducible refine (c4 _).mono ?_));rintro e w' ⟨rfl,rfl⟩) | fail)
 go_ret
 refine ⟨zah ?_,rfl⟩
 first | rfl | (simp only [nats];rfl)
theorem zm6 (h:Nat) (W:World) (h0:(cutN h 13 3)=7):TW 191 #[.int .u32 (h:Nat)] W (.int .u32 (zcf (zcQ h) (zat h) (zac h) 3 35)):=by
 have c2:∀ W,TW 190 #[.int .u32 h,.int .u64 15,.int .u64 13] W (.int .u32 7):=fun W=>by
  have h:=zaq h 15 13 W (by omega) (by omega)
  rw [h0] at h
  exact h
 have c4:∀ W,TW 270 #[.int .u32 (zcQ h),.int .u32 (zat h),.int .u32 (zac h),.int .u32 3,.int .u32 35] W (.int .u32 (zcf (zcQ h) (zat h) (zac h) 3 35)):=fun W=>zfB (zcQ h) (zat h) (zac h) 3 35 W
 go_enter Tryz.func191,Tryz.ntmps191
 go_wp2_with (first | ((first | (go_at_call 264;with_reducible refine (zbP h _).mono ?_) | (go_at_call 265;with_reducible refine (zcg h _).mono ?_) | (go_at_call 190;with_reducible refine (c2 _).mono ?_) | (go_at_call 269;with_reducible refine (zjj h _).mono ?_) | (go_at_call 270;with_reducible refine (c4 _).mono ?_));rintro e w' ⟨rfl,rfl⟩) | fail)
 go_ret
 refine ⟨zah ?_,rfl⟩
 first | rfl | (simp only [nats];rfl)
theorem zlQ (h:Nat) (W:World):TW 191 #[.int .u32 (h:Nat)] W (.int .u32 ((zbT h:Nat):Int)):=by
 have l0:=zbc h 13 3
 have b0:(cutN h 13 3)=0∨(cutN h 13 3)=1∨(cutN h 13 3)=2∨(cutN h 13 3)=3∨(cutN h 13 3)=4∨(cutN h 13 3)=5∨(cutN h 13 3)=6∨(cutN h 13 3)=7:=by omega
 rcases b0 with h0 | h0 | h0 | h0 | h0 | h0 | h0 | h0
 ·by_cases h1:(zcD h)=0
  ·rw [show zbT h=0 from by unfold zbT;rw [beqT h0,cond_true,beqT h1,cond_true]]
   exact zqI h W h0 h1
  ·rw [show zbT h=(zax (zcD h) 2 0 (zat h) 19) from by unfold zbT;rw [beqT h0,cond_true,beqF h1,cond_false]]
   exact zpM h W h0 h1
 ·rw [show zbT h=0 from by unfold zbT;rw [beqF (show (cutN h 13 3)≠0 by omega),cond_false,beqF (show (cutN h 13 3)≠2 by omega),cond_false,beqF (show (cutN h 13 3)≠3 by omega),cond_false,beqF (show (cutN h 13 3)≠6 by omega),cond_false,beqF (show (cutN h 13 3)≠7 by omega),cond_false]]
  exact ztX h W h0
 ·rw [show zbT h=(zax (zcO h) (zac h) 2 (zat h) 3) from by unfold zbT;rw [beqF (show (cutN h 13 3)≠0 by omega),cond_false,beqT h0,cond_true]]
  exact zqp h W h0
 ·rw [show zbT h=(zax (zcQ h) (zac h) 3 (zat h) 3) from by unfold zbT;rw [beqF (show (cutN h 13 3)≠0 by omega),cond_false,beqF (show (cutN h 13 3)≠2 by omega),cond_false,beqT h0,cond_true]]
  exact zvA h W h0
 ·rw [show zbT h=0 from by unfold zbT;rw [beqF (show (cutN h 13 3)≠0 by omega),cond_false,beqF (show (cutN h 13 3)≠2 by omega),cond_false,beqF (show (cutN h 13 3)≠3 by omega),cond_false,beqF (show (cutN h 13 3)≠6 by omega),cond_false,beqF (show (cutN h 13 3)≠7 by omega),cond_false]]
  exact zwY h W h0
 ·rw [show zbT h=0 from by unfold zbT;rw [beqF (show (cutN h 13 3)≠0 by omega),cond_false,beqF (show (cutN h 13 3)≠2 by omega),cond_false,beqF (show (cutN h 13 3)≠3 by omega),cond_false,beqF (show (cutN h 13 3)≠6 by omega),cond_false,beqF (show (cutN h 13 3)≠7 by omega),cond_false]]
  exact zxr h W h0
 ·rw [show zbT h=(zcf (zcO h) (zat h) (zac h) 2 35) from by unfold zbT;rw [beqF (show (cutN h 13 3)≠0 by omega),cond_false,beqF (show (cutN h 13 3)≠2 by omega),cond_false,beqF (show (cutN h 13 3)≠3 by omega),cond_false,beqT h0,cond_true]]
  exact zos h W h0
 ·rw [show zbT h=(zcf (zcQ h) (zat h) (zac h) 3 35) from by unfold zbT;rw [beqF (show (cutN h 13 3)≠0 by omega),cond_false,beqF (show (cutN h 13 3)≠2 by omega),cond_false,beqF (show (cutN h 13 3)≠3 by omega),cond_false,beqF (show (cutN h 13 3)≠6 by omega),cond_false,beqT h0,cond_true]]
  exact zm6 h W h0
def zdw (h:Nat):Nat:=(bif Nat.beq (zaW h) 0 then 0 else (bif Nat.beq (zae h) 2 then (zax (zd6 h) 2 0 2 19) else (zfZ (zaW h) (zae h))))
theorem zlY (h:Nat) (W:World) (h0:(zaW h)=0):TW 273 #[.int .u32 (h:Nat)] W (.int .u32 0):=by
 have p0:(((zaW h):Int)==0)=true:=by rw [beq_iff_eq];rw [h0];rfl
 have q0:(((zaW h):Int) != 0)=false:=by rw [bne,p0];rfl
 go_enter Tryz.func273,Tryz.ntmps273
 go_wp2_with (first | ((first | (go_at_call 272;with_reducible refine (zcM h _).mono ?_) | (go_at_call 271;with_reducible refine (zbj h _).mono ?_));rintro e w' ⟨rfl,rfl⟩) | fail)
 go_ret
 exact ⟨rfl,rfl⟩
theorem zqV (h:Nat) (W:World) (h0:(zaW h)≠0) (h1:(zae h)=2):TW 273 #[.int .u32 (h:Nat)] W (.int .u32 (zax (zd6 h) 2 0 2 19)):=by
 have c3:∀ W,TW 267 #[.int .u32 (zd6 h),.int .u32 2,.int .u32 0,.int .u32 2,.int .u32 19] W (.int .u32 (zax (zd6 h) 2 0 2 19)):=fun W=>zcC (zd6 h) 2 0 2 19 W
 have p0:(((zaW h):Int)==0)=false:=by rw [beq_eq_false_iff_ne];omega
 have q0:(((zaW h):Int) != 0)=true:=by rw [bne,p0];rfl
 have p1:(((zae h):Int)==2)=true:=by rw [beq_iff_eq];rw [h1];rfl
 have q1:(((zae h):Int) != 2)=false:=by rw [bne,p1];rfl
 go_enter Tryz.func273,Tryz.ntmps273
 go_wp2_with (first | ((first | (go_at_call 272;with_reducible refine (zcM h _).mono ?_) | (go_at_call 271;with_reducible refine (zbj h _).mono ?_) | (go_at_call 323;with_reducible refine (zn8 h _).mono ?_) | (go_at_call 267;with_reducible refine (c3 _).mono ?_));rintro e w' ⟨rfl,rfl⟩) | fail)
 go_ret
 refine ⟨zah ?_,rfl⟩
 first | rfl | (simp only [nats];rfl)
theorem zsE (h:Nat) (W:World) (h0:(zaW h)≠0) (h1:(zae h)≠2):TW 273 #[.int .u32 (h:Nat)] W (.int .u32 (zfZ (zaW h) (zae h))):=by
 have p0:(((zaW h):Int)==0)=false:=by rw [beq_eq_false_iff_ne];omega
 have q0:(((zaW h):Int) != 0)=true:=by rw [bne,p0];rfl
 have p1:(((zae h):Int)==2)=false:=by rw [beq_eq_false_iff_ne];omega
 have q1:(((zae h):Int) != 2)=true:=by rw [bne,p1];rfl
 go_enter Tryz.func273,Tryz.ntmps273
 go_wp2_with (first | ((first | (go_at_call 272;with_reducible refine (zcM h _).mono ?_) | (go_at_call 271;with_reducible refine (zbj h _).mono ?_) | (go_at_call 324;with_reducible refine (zs9 (zaW h) (zae h) _).mono ?_));rintro e w' ⟨rfl,rfl⟩) | fail)
 go_ret
 refine ⟨zah ?_,rfl⟩
 first | rfl | (simp only [nats];rfl)
theorem zr2 (h:Nat) (W:World):TW 273 #[.int .u32 (h:Nat)] W (.int .u32 ((zdw h:Nat):Int)):=by
 by_cases h0:(zaW h)=0
 ·rw [show zdw h=0 from by unfold zdw;rw [beqT h0,cond_true]]
  exact zlY h W h0
 ·by_cases h1:(zae h)=2
  ·rw [show zdw h=(zax (zd6 h) 2 0 2 19) from by unfold zdw;rw [beqF h0,cond_false,beqT h1,cond_true]]
   exact zqV h W h0 h1
  ·rw [show zdw h=(zfZ (zaW h) (zae h)) from by unfold zdw;rw [beqF h0,cond_false,beqF h1,cond_false]]
   exact zsE h W h0 h1
def zb7 (h:Nat):Nat:=(bif Nat.beq (cutN h 12 1) 0 then (bif Nat.beq (cutN h 5 2) 0 then (za8 32 (zat h) (zac h) 0 (zac h) 51) else (bif Nat.beq (cutN h 5 2) 1 then (za8 0 (zat h) (zac h) 4 (zac h) 51) else (bif Nat.beq (cutN h 5 2) 2 then (za8 0 (zat h) (zac h) 6 (zac h) 51) else (bif Nat.beq (cutN h 5 2) 3 then (za8 0 (zat h) (zac h) 7 (zac h) 51) else 0)))) else (bif Nat.beq (cutN h 12 1) 1 then (bif Nat.beq (cutN h 5 2) 0 then (za8 32 (zat h) (zac h) 0 (zac h) 59) else (bif Nat.beq (cutN h 5 2) 1 then (za8 0 (zat h) (zac h) 0 (zac h) 59) else 0)) else 0))
theorem zqj (h:Nat) (W:World) (h0:(cutN h 12 1)=0) (h1:(cutN h 5 2)=0):TW 325 #[.int .u32 (h:Nat)] W (.int .u32 (za8 32 (zat h) (zac h) 0 (zac h) 51)):=by
 have c2:∀ W,TW 190 #[.int .u32 h,.int .u64 12,.int .u64 12] W (.int .u32 0):=fun W=>by
  have h:=zaq h 12 12 W (by omega) (by omega)
  rw [h0] at h
  exact h
 have c3:∀ W,TW 190 #[.int .u32 h,.int .u64 6,.int .u64 5] W (.int .u32 0):=fun W=>by
  have h:=zaq h 6 5 W (by omega) (by omega)
  rw [h1] at h
  exact h
 have c4:∀ W,TW 326 #[.int .u32 32,.int .u32 (zat h),.int .u32 (zac h),.int .u32 0,.int .u32 (zac h),.int .u32 51] W (.int .u32 (za8 32 (zat h) (zac h) 0 (zac h) 51)):=fun W=>zd3 32 (zat h) (zac h) 0 (zac h) 51 W
 go_enter Tryz.func325,Tryz.ntmps325
 go_wp2_with (first | ((first | (go_at_call 264;with_reducible refine (zbP h _).mono ?_) | (go_at_call 265;with_reducible refine (zcg h _).mono ?_) | (go_at_call 190;with_reducible refine (c2 _).mono ?_) | (go_at_call 190;with_reducible refine (c3 _).mono ?_) | (go_at_call 326;with_reducible refine (c4 _).mono ?_));rintro e w' ⟨rfl,rfl⟩) | fail)
 go_ret
 refine ⟨zah ?_,rfl⟩
 first | rfl | (simp only [nats];rfl)
theorem zlT (h:Nat) (W:World) (h0:(cutN h 12 1)=0) (h1:(cutN h 5 2)=1):TW 325 #[.int .u32 (h:Nat)] W (.int .u32 (za8 0 (zat h) (zac h) 4 (zac h) 51)):=by
 have c2:∀ W,TW 190 #[.int .u32 h,.int .u64 12,.int .u64 12] W (.int .u32 0):=fun W=>by
  have h:=zaq h 12 12 W (by omega) (by omega)
  rw [h0] at h
  exact h
 have c3:∀ W,TW 190 #[.int .u32 h,.int .u64 6,.int .u64 5] W (.int .u32 1):=fun W=>by
  have h:=zaq h 6 5 W (by omega) (by omega)
  rw [h1] at h
  exact h
 have c4:∀ W,TW 326 #[.int .u32 0,.int .u32 (zat h),.int .u32 (zac h),.int .u32 4,.int .u32 (zac h),.int .u32 51] W (.int .u32 (za8 0 (zat h) (zac h) 4 (zac h) 51)):=fun W=>zd3 0 (zat h) (zac h) 4 (zac h) 51 W
 go_enter Tryz.func325,Tryz.ntmps325
 go_wp2_with (first | ((first | (go_at_call 264;with_reducible refine (zbP h _).mono ?_) | (go_at_call 265;with_reducible refine (zcg h _).mono ?_) | (go_at_call 190;with_reducible refine (c2 _).mono ?_) | (go_at_call 190;with_reducible refine (c3 _).mono ?_) | (go_at_call 326;with_reducible refine (c4 _).mono ?_));rintro e w' ⟨rfl,rfl⟩) | fail)
 go_ret
 refine ⟨zah ?_,rfl⟩
 first | rfl | (simp only [nats];rfl)
theorem zwJ (h:Nat) (W:World) (h0:(cutN h 12 1)=0) (h1:(cutN h 5 2)=2):TW 325 #[.int .u32 (h:Nat)] W (.int .u32 (za8 0 (zat h) (zac h) 6 (zac h) 51)):=by
 have c2:∀ W,TW 190 #[.int .u32 h,.int .u64 12,.int .u64 12] W (.int .u32 0):=fun W=>by
  have h:=zaq h 12 12 W (by omega) (by omega)
  rw [h0] at h
  exact h
 have c3:∀ W,TW 190 #[.int .u32 h,.int .u64 6,.int .u64 5] W (.int .u32 2):=fun W=>by
  have h:=zaq h 6 5 W (by omega) (by omega)
  rw [h1] at h
  exact h
 have c4:∀ W,TW 326 #[.int .u32 0,.int .u32 (zat h),.int .u32 (zac h),.int .u32 6,.int .u32 (zac h),.int .u32 51] W (.int .u32 (za8 0 (zat h) (zac h) 6 (zac h) 51)):=fun W=>zd3 0 (zat h) (zac h) 6 (zac h) 51 W
 go_enter Tryz.func325,Tryz.ntmps325
 go_wp2_with (first | ((first | (go_at_call 264;with_reducible refine (zbP h _).mono ?_) | (go_at_call 265;with_reducible refine (zcg h _).mono ?_) | (go_at_call 190;with_reducible refine (c2 _).mono ?_) | (go_at_call 190;with_reducible refine (c3 _).mono ?_) | (go_at_call 326;with_reducible refine (c4 _).mono ?_));rintro e w' ⟨rfl,rfl⟩) | fail)
 go_ret
 refine ⟨zah ?_,rfl⟩
 first | rfl | (simp only [nats];rfl)
theorem zkQ (h:Nat) (W:World) (h0:(cutN h 12 1)=0) (h1:(cutN h 5 2)=3):TW 325 #[.int .u32 (h:Nat)] W (.int .u32 (za8 0 (zat h) (zac h) 7 (zac h) 51)):=by
 have c2:∀ W,TW 190 #[.int .u32 h,.int .u64 12,.int .u64 12] W (.int .u32 0):=fun W=>by
  have h:=zaq h 12 12 W (by omega) (by omega)
  rw [h0] at h
  exact h
 have c3:∀ W,TW 190 #[.int .u32 h,.int .u64 6,.int .u64 5] W (.int .u32 3):=fun W=>by
  have h:=zaq h 6 5 W (by omega) (by omega)
  rw [h1] at h
  exact h
 have c4:∀ W,TW 326 #[.int .u32 0,.int .u32 (zat h),.int .u32 (zac h),.int .u32 7,.int .u32 (zac h),.int .u32 51] W (.int .u32 (za8 0 (zat h) (zac h) 7 (zac h) 51)):=fun W=>zd3 0 (zat h) (zac h) 7 (zac h) 51 W
 go_enter Tryz.func325,Tryz.ntmps325
 go_wp2_with (first | ((first | (go_at_call 264;with_reducible refine (zbP h _).mono ?_) | (go_at_call 265;with_reducible refine (zcg h _).mono ?_) | (go_at_call 190;with_reducible refine (c2 _).mono ?_) | (go_at_call 190;with_reducible refine (c3 _).mono ?_) | (go_at_call 326;with_reducible refine (c4 _).mono ?_));rintro e w' ⟨rfl,rfl⟩) | fail)
 go_ret
 refine ⟨zah ?_,rfl⟩
 first | rfl | (simp only [nats];rfl)
theorem zkz (h:Nat) (W:World) (h0:(cutN h 12 1)=1) (h1:(cutN h 5 2)=0):TW 325 #[.int .u32 (h:Nat)] W (.int .u32 (za8 32 (zat h) (zac h) 0 (zac h) 59)):=by
 have c2:∀ W,TW 190 #[.int .u32 h,.int .u64 12,.int .u64 12] W (.int .u32 1):=fun W=>by
  have h:=zaq h 12 12 W (by omega) (by omega)
  rw [h0] at h
  exact h
 have c3:∀ W,TW 190 #[.int .u32 h,.int .u64 6,.int .u64 5] W (.int .u32 0):=fun W=>by
  have h:=zaq h 6 5 W (by omega) (by omega)
  rw [h1] at h
  exact h
 have c4:∀ W,TW 326 #[.int .u32 32,.int .u32 (zat h),.int .u32 (zac h),.int .u32 0,.int .u32 (zac h),.int .u32 59] W (.int .u32 (za8 32 (zat h) (zac h) 0 (zac h) 59)):=fun W=>zd3 32 (zat h) (zac h) 0 (zac h) 59 W
 go_enter Tryz.func325,Tryz.ntmps325
 go_wp2_with (first | ((first | (go_at_call 264;with_reducible refine (zbP h _).mono ?_) | (go_at_call 265;with_reducible refine (zcg h _).mono ?_) | (go_at_call 190;with_reducible refine (c2 _).mono ?_) | (go_at_call 190;with_reducible refine (c3 _).mono ?_) | (go_at_call 326;with_reducible refine (c4 _).mono ?_));rintro e w' ⟨rfl,rfl⟩) | fail)
 go_ret
 refine ⟨zah ?_,rfl⟩
 first | rfl | (simp only [nats];rfl)
theorem zoc (h:Nat) (W:World) (h0:(cutN h 12 1)=1) (h1:(cutN h 5 2)=1):TW 325 #[.int .u32 (h:Nat)] W (.int .u32 (za8 0 (zat h) (zac h) 0 (zac h) 59)):=by
 have c2:∀ W,TW 190 #[.int .u32 h,.int .u64 12,.int .u64 12] W (.int .u32 1):=fun W=>by
  have h:=zaq h 12 12 W (by omega) (by omega)
  rw [h0] at h
  exact h
 have c3:∀ W,TW 190 #[.int .u32 h,.int .u64 6,.int .u64 5] W (.int .u32 1):=fun W=>by
  have h:=zaq h 6 5 W (by omega) (by omega)
  rw [h1] at h
  exact h
 have c4:∀ W,TW 326 #[.int .u32 0,.int .u32 (zat h),.int .u32 (zac h),.int .u32 0,.int .u32 (zac h),.int .u32 59] W (.int .u32 (za8 0 (zat h) (zac h) 0 (zac h) 59)):=fun W=>zd3 0 (zat h) (zac h) 0 (zac h) 59 W
 go_enter Tryz.func325,Tryz.ntmps325
 go_wp2_with (first | ((first | (go_at_call 264;with_reducible refine (zbP h _).mono ?_) | (go_at_call 265;with_reducible refine (zcg h _).mono ?_) | (go_at_call 190;with_reducible refine (c2 _).mono ?_) | (go_at_call 190;with_reducible refine (c3 _).mono ?_) | (go_at_call 326;with_reducible refine (c4 _).mono ?_));rintro e w' ⟨rfl,rfl⟩) | fail)
 go_ret
 refine ⟨zah ?_,rfl⟩
 first | rfl | (simp only [nats];rfl)
theorem zqB (h:Nat) (W:World) (h0:(cutN h 12 1)=1) (h1:(cutN h 5 2)=2):TW 325 #[.int .u32 (h:Nat)] W (.int .u32 0):=by
 have c2:∀ W,TW 190 #[.int .u32 h,.int .u64 12,.int .u64 12] W (.int .u32 1):=fun W=>by
  have h:=zaq h 12 12 W (by omega) (by omega)
  rw [h0] at h
  exact h
 have c3:∀ W,TW 190 #[.int .u32 h,.int .u64 6,.int .u64 5] W (.int .u32 2):=fun W=>by
  have h:=zaq h 6 5 W (by omega) (by omega)
  rw [h1] at h
  exact h
 go_enter Tryz.func325,Tryz.ntmps325
 go_wp2_with (first | ((first | (go_at_call 264;with_reducible refine (zbP h _).mono ?_) | (go_at_call 265;with_reducible refine (zcg h _).mono ?_) | (go_at_call 190;with_reducible refine (c2 _).mono ?_) | (go_at_call 190;with_reducible refine (c3 _).mono ?_));rintro e w' ⟨rfl,rfl⟩) | fail)
 go_ret
 exact ⟨rfl,rfl⟩
theorem zkn (h:Nat) (W:World) (h0:(cutN h 12 1)=1) (h1:(cutN h 5 2)=3):TW 325 #[.int .u32 (h:Nat)] W (.int .u32 0):=by
 have c2:∀ W,TW 190 #[.int .u32 h,.int .u64 12,.int .u64 12] W (.int .u32 1):=fun W=>by
  have h:=zaq h 12 12 W (by omega) (by omega)
  rw [h0] at h
  exact h
 have c3:∀ W,TW 190 #[.int .u32 h,.int .u64 6,.int .u64 5] W (.int .u32 3):=fun W=>by
  have h:=zaq h 6 5 W (by omega) (by omega)
  rw [h1] at h
  exact h
 go_enter Tryz.func325,Tryz.ntmps325
 go_wp2_with (first | ((first | (go_at_call 264;with_reducible refine (zbP h _).mono ?_) | (go_at_call 265;with_reducible refine (zcg h _).mono ?_) | (go_at_call 190;with_reducible refine (c2 _).mono ?_) | (go_at_call 190;with_reducible refine (c3 _).mono ?_));rintro e w' ⟨rfl,rfl⟩) | fail)
 go_ret
 exact ⟨rfl,rfl⟩
theorem zkE (h:Nat) (W:World):TW 325 #[.int .u32 (h:Nat)] W (.int .u32 ((zb7 h:Nat):Int)):=by
 have l0:=zbc h 12 1
 have b0:(cutN h 12 1)=0∨(cutN h 12 1)=1:=by omega
 rcases b0 with h0 | h0
 ·have l1:=zbc h 5 2
  have b1:(cutN h 5 2)=0∨(cutN h 5 2)=1∨(cutN h 5 2)=2∨(cutN h 5 2)=3:=by omega
  rcases b1 with h1 | h1 | h1 | h1
  ·rw [show zb7 h=(za8 32 (zat h) (zac h) 0 (zac h) 51) from by unfold zb7;rw [beqT h0,cond_true,beqT h1,cond_true]]
   exact zqj h W h0 h1
  ·rw [show zb7 h=(za8 0 (zat h) (zac h) 4 (zac h) 51) from by unfold zb7;rw [beqT h0,cond_true,beqF (show (cutN h 5 2)≠0 by omega),cond_false,beqT h1,cond_true]]
   exact zlT h W h0 h1
  ·rw [show zb7 h=(za8 0 (zat h) (zac h) 6 (zac h) 51) from by unfold zb7;rw [beqT h0,cond_true,beqF (show (cutN h 5 2)≠0 by omega),cond_false,beqF (show (cutN h 5 2)≠1 by omega),cond_false,beqT h1,cond_true]]
   exact zwJ h W h0 h1
  ·rw [show zb7 h=(za8 0 (zat h) (zac h) 7 (zac h) 51) from by unfold zb7;rw [beqT h0,cond_true,beqF (show (cutN h 5 2)≠0 by omega),cond_false,beqF (show (cutN h 5 2)≠1 by omega),cond_false,beqF (show (cutN h 5 2)≠2 by omega),cond_false,beqT h1,cond_true]]
   exact zkQ h W h0 h1
 ·have l1:=zbc h 5 2
  have b1:(cutN h 5 2)=0∨(cutN h 5 2)=1∨(cutN h 5 2)=2∨(cutN h 5 2)=3:=by omega
  rcases b1 with h1 | h1 | h1 | h1
  ·rw [show zb7 h=(za8 32 (zat h) (zac h) 0 (zac h) 59) from by unfold zb7;rw [beqF (show (cutN h 12 1)≠0 by omega),cond_false,beqT h0,cond_true,beqT h1,cond_true]]
   exact zkz h W h0 h1
  ·rw [show zb7 h=(za8 0 (zat h) (zac h) 0 (zac h) 59) from by unfold zb7;rw [beqF (show (cutN h 12 1)≠0 by omega),cond_false,beqT h0,cond_true,beqF (show (cutN h 5 2)≠0 by omega),cond_false,beqT h1,cond_true]]
   exact zoc h W h0 h1
  ·rw [show zb7 h=0 from by unfold zb7;rw [beqF (show (cutN h 12 1)≠0 by omega),cond_false,beqT h0,cond_true,beqF (show (cutN h 5 2)≠0 by omega),cond_false,beqF (show (cutN h 5 2)≠1 by omega),cond_false]]
   exact zqB h W h0 h1
  ·rw [show zb7 h=0 from by unfold zb7;rw [beqF (show (cutN h 12 1)≠0 by omega),cond_false,beqT h0,cond_true,beqF (show (cutN h 5 2)≠0 by omega),cond_false,beqF (show (cutN h 5 2)≠1 by omega),cond_false]]
   exact zkn h W h0 h1
def zc3 (h:Nat):Nat:=(bif Nat.beq (cutN h 10 2) 0 then (zax (zb2 h) (zac h) 5 (zac h) 19) else (bif Nat.beq (cutN h 10 2) 1 then (zax (((zb2 h)+1024) % 4294967296) (zac h) 5 (zac h) 19) else (bif Nat.beq (cutN h 10 2) 2 then (zax (zaW h) (zac h) 7 (zac h) 19) else (bif Nat.beq (cutN h 10 2) 3 then (zb7 h) else 0))))
theorem zj3 (h:Nat) (W:World) (h0:(cutN h 10 2)=0):TW 274 #[.int .u32 (h:Nat)] W (.int .u32 (zax (zb2 h) (zac h) 5 (zac h) 19)):=by
 have c1:∀ W,TW 190 #[.int .u32 h,.int .u64 11,.int .u64 10] W (.int .u32 0):=fun W=>by
  have h:=zaq h 11 10 W (by omega) (by omega)
  rw [h0] at h
  exact h
 have c3:∀ W,TW 267 #[.int .u32 (zb2 h),.int .u32 (zac h),.int .u32 5,.int .u32 (zac h),.int .u32 19] W (.int .u32 (zax (zb2 h) (zac h) 5 (zac h) 19)):=fun W=>zcC (zb2 h) (zac h) 5 (zac h) 19 W
 go_enter Tryz.func274,Tryz.ntmps274
 go_wp2_with (first | ((first | (go_at_call 264;with_reducible refine (zbP h _).mono ?_) | (go_at_call 190;with_reducible refine (c1 _).mono ?_) | (go_at_call 280;with_reducible refine (zfF h _).mono ?_) | (go_at_call 267;with_reducible refine (c3 _).mono ?_));rintro e w' ⟨rfl,rfl⟩) | fail)
 go_ret
 refine ⟨zah ?_,rfl⟩
 first | rfl | (simp only [nats];rfl)
theorem zw7 (h:Nat) (W:World) (h0:(cutN h 10 2)=1):TW 274 #[.int .u32 (h:Nat)] W (.int .u32 (zax (((zb2 h)+1024) % 4294967296) (zac h) 5 (zac h) 19)):=by
 have c1:∀ W,TW 190 #[.int .u32 h,.int .u64 11,.int .u64 10] W (.int .u32 1):=fun W=>by
  have h:=zaq h 11 10 W (by omega) (by omega)
  rw [h0] at h
  exact h
 have c3:∀ W,TW 267 #[.int .u32 (((zb2 h)+1024) % 4294967296),.int .u32 (zac h),.int .u32 5,.int .u32 (zac h),.int .u32 19] W (.int .u32 (zax (((zb2 h)+1024) % 4294967296) (zac h) 5 (zac h) 19)):=fun W=>by
  have h:=zcC (((zb2 h)+1024) % 4294967296) (zac h) 5 (zac h) 19 W
  simp only [nats]
  exact h
 go_enter Tryz.func274,Tryz.ntmps274
 go_wp2_with (first | ((first | (go_at_call 264;with_reducible refine (zbP h _).mono ?_) | (go_at_call 190;with_reducible refine (c1 _).mono ?_) | (go_at_call 280;with_reducible refine (zfF h _).mono ?_) | (go_at_call 267;with_reducible refine (c3 _).mono ?_));rintro e w' ⟨rfl,rfl⟩) | fail)
 go_ret
 refine ⟨zah ?_,rfl⟩
 first | rfl | (simp only [nats];rfl)
theorem zkT (h:Nat) (W:World) (h0:(cutN h 10 2)=2):TW 274 #[.int .u32 (h:Nat)] W (.int .u32 (zax (zaW h) (zac h) 7 (zac h) 19)):=by
 have c1:∀ W,TW 190 #[.int .u32 h,.int .u64 11,.int .u64 10] W (.int .u32 2):=fun W=>by
  have h:=zaq h 11 10 W (by omega) (by omega)
  rw [h0] at h
  exact h
 have c3:∀ W,TW 267 #[.int .u32 (zaW h),.int .u32 (zac h),.int .u32 7,.int .u32 (zac h),.int .u32 19] W (.int .u32 (zax (zaW h) (zac h) 7 (zac h) 19)):=fun W=>zcC (zaW h) (zac h) 7 (zac h) 19 W
 go_enter Tryz.func274,Tryz.ntmps274
 go_wp2_with (first | ((first | (go_at_call 264;with_reducible refine (zbP h _).mono ?_) | (go_at_call 190;with_reducible refine (c1 _).mono ?_) | (go_at_call 272;with_reducible refine (zcM h _).mono ?_) | (go_at_call 267;with_reducible refine (c3 _).mono ?_));rintro e w' ⟨rfl,rfl⟩) | fail)
 go_ret
 refine ⟨zah ?_,rfl⟩
 first | rfl | (simp only [nats];rfl)
theorem zox (h:Nat) (W:World) (h0:(cutN h 10 2)=3):TW 274 #[.int .u32 (h:Nat)] W (.int .u32 (zb7 h)):=by
 have c1:∀ W,TW 190 #[.int .u32 h,.int .u64 11,.int .u64 10] W (.int .u32 3):=fun W=>by
  have h:=zaq h 11 10 W (by omega) (by omega)
  rw [h0] at h
  exact h
 go_enter Tryz.func274,Tryz.ntmps274
 go_wp2_with (first | ((first | (go_at_call 264;with_reducible refine (zbP h _).mono ?_) | (go_at_call 190;with_reducible refine (c1 _).mono ?_) | (go_at_call 325;with_reducible refine (zkE h _).mono ?_));rintro e w' ⟨rfl,rfl⟩) | fail)
 go_ret
 refine ⟨zah ?_,rfl⟩
 first | rfl | (simp only [nats];rfl)
theorem zlD (h:Nat) (W:World):TW 274 #[.int .u32 (h:Nat)] W (.int .u32 ((zc3 h:Nat):Int)):=by
 have l0:=zbc h 10 2
 have b0:(cutN h 10 2)=0∨(cutN h 10 2)=1∨(cutN h 10 2)=2∨(cutN h 10 2)=3:=by omega
 rcases b0 with h0 | h0 | h0 | h0
 ·rw [show zc3 h=(zax (zb2 h) (zac h) 5 (zac h) 19) from by unfold zc3;rw [beqT h0,cond_true]]
  exact zj3 h W h0
 ·rw [show zc3 h=(zax (((zb2 h)+1024) % 4294967296) (zac h) 5 (zac h) 19) from by unfold zc3;rw [beqF (show (cutN h 10 2)≠0 by omega),cond_false,beqT h0,cond_true]]
  exact zw7 h W h0
 ·rw [show zc3 h=(zax (zaW h) (zac h) 7 (zac h) 19) from by unfold zc3;rw [beqF (show (cutN h 10 2)≠0 by omega),cond_false,beqF (show (cutN h 10 2)≠1 by omega),cond_false,beqT h0,cond_true]]
  exact zkT h W h0
 ·rw [show zc3 h=(zb7 h) from by unfold zc3;rw [beqF (show (cutN h 10 2)≠0 by omega),cond_false,beqF (show (cutN h 10 2)≠1 by omega),cond_false,beqF (show (cutN h 10 2)≠2 by omega),cond_false,beqT h0,cond_true]]
  exact zox h W h0
def zbU (h:Nat):Nat:=(bif Nat.beq (cutN h 13 3) 0 then (zax (zaW h) (zae h) 0 (zae h) 19) else (bif Nat.beq (cutN h 13 3) 1 then (bif Nat.beq (zae h) 0 then 0 else (zax (zaW h) (zae h) 0 (zae h) 27)) else (bif Nat.beq (cutN h 13 3) 2 then (zax (zaW h) 0 0 (zae h) 19) else (bif Nat.beq (cutN h 13 3) 3 then (zdw h) else (bif Nat.beq (cutN h 13 3) 4 then (zc3 h) else (bif Nat.beq (cutN h 13 3) 5 then (zfg (zek h) 0) else (bif Nat.beq (cutN h 13 3) 6 then (zdB (zcN h) 0 (zac h) 0) else (bif Nat.beq (cutN h 13 3) 7 then (zdB (zcN h) 0 (zac h) 1) else 0))))))))
theorem zvn (h:Nat) (W:World) (h0:(cutN h 13 3)=0):TW 192 #[.int .u32 (h:Nat)] W (.int .u32 (zax (zaW h) (zae h) 0 (zae h) 19)):=by
 have c2:∀ W,TW 190 #[.int .u32 h,.int .u64 15,.int .u64 13] W (.int .u32 0):=fun W=>by
  have h:=zaq h 15 13 W (by omega) (by omega)
  rw [h0] at h
  exact h
 have c3:∀ W,TW 267 #[.int .u32 (zaW h),.int .u32 (zae h),.int .u32 0,.int .u32 (zae h),.int .u32 19] W (.int .u32 (zax (zaW h) (zae h) 0 (zae h) 19)):=fun W=>zcC (zaW h) (zae h) 0 (zae h) 19 W
 go_enter Tryz.func192,Tryz.ntmps192
 go_wp2_with (first | ((first | (go_at_call 271;with_reducible refine (zbj h _).mono ?_) | (go_at_call 272;with_reducible refine (zcM h _).mono ?_) | (go_at_call 190;with_reducible refine (c2 _).mono ?_) | (go_at_call 267;with_reducible refine (c3 _).mono ?_));rintro e w' ⟨rfl,rfl⟩) | fail)
 go_ret
 refine ⟨zah ?_,rfl⟩
 first | rfl | (simp only [nats];rfl)
theorem zus (h:Nat) (W:World) (h0:(cutN h 13 3)=1) (h1:(zae h)=0):TW 192 #[.int .u32 (h:Nat)] W (.int .u32 0):=by
 have c2:∀ W,TW 190 #[.int .u32 h,.int .u64 15,.int .u64 13] W (.int .u32 1):=fun W=>by
  have h:=zaq h 15 13 W (by omega) (by omega)
  rw [h0] at h
  exact h
 have p1:(((zae h):Int)==0)=true:=by rw [beq_iff_eq];rw [h1];rfl
 have q1:(((zae h):Int) != 0)=false:=by rw [bne,p1];rfl
 go_enter Tryz.func192,Tryz.ntmps192
 go_wp2_with (first | ((first | (go_at_call 271;with_reducible refine (zbj h _).mono ?_) | (go_at_call 272;with_reducible refine (zcM h _).mono ?_) | (go_at_call 190;with_reducible refine (c2 _).mono ?_));rintro e w' ⟨rfl,rfl⟩) | fail)
 go_ret
 exact ⟨rfl,rfl⟩
theorem zoi (h:Nat) (W:World) (h0:(cutN h 13 3)=1) (h1:(zae h)≠0):TW 192 #[.int .u32 (h:Nat)] W (.int .u32 (zax (zaW h) (zae h) 0 (zae h) 27)):=by
 have c2:∀ W,TW 190 #[.int .u32 h,.int .u64 15,.int .u64 13] W (.int .u32 1):=fun W=>by
  have h:=zaq h 15 13 W (by omega) (by omega)
  rw [h0] at h
  exact h
 have c3:∀ W,TW 267 #[.int .u32 (zaW h),.int .u32 (zae h),.int .u32 0,.int .u32 (zae h),.int .u32 27] W (.int .u32 (zax (zaW h) (zae h) 0 (zae h) 27)):=fun W=>zcC (zaW h) (zae h) 0 (zae h) 27 W
 have p1:(((zae h):Int)==0)=false:=by rw [beq_eq_false_iff_ne];omega
 have q1:(((zae h):Int) != 0)=true:=by rw [bne,p1];rfl
 go_enter Tryz.func192,Tryz.ntmps192
 go_wp2_with (first | ((first | (go_at_call 271;with_reducible refine (zbj h _).mono ?_) | (go_at_call 272;with_reducible refine (zcM h _).mono ?_) | (go_at_call 190;with_reducible refine (c2 _).mono ?_) | (go_at_call 267;with_reducible refine (c3 _).mono ?_));rintro e w' ⟨rfl,rfl⟩) | fail)
 go_ret
 refine ⟨zah ?_,rfl⟩
 first | rfl | (simp only [nats];rfl)
theorem zri (h:Nat) (W:World) (h0:(cutN h 13 3)=2):TW 192 #[.int .u32 (h:Nat)] W (.int .u32 (zax (zaW h) 0 0 (zae h) 19)):=by
 have c2:∀ W,TW 190 #[.int .u32 h,.int .u64 15,.int .u64 13] W (.int .u32 2):=fun W=>by
  have h:=zaq h 15 13 W (by omega) (by omega)
  rw [h0] at h
  exact h
 have c3:∀ W,TW 267 #[.int .u32 (zaW h),.int .u32 0,.int .u32 0,.int .u32 (zae h),.int .u32 19] W (.int .u32 (zax (zaW h) 0 0 (zae h) 19)):=fun W=>zcC (zaW h) 0 0 (zae h) 19 W
 go_enter Tryz.func192,Tryz.ntmps192
 go_wp2_with (first | ((first | (go_at_call 271;with_reducible refine (zbj h _).mono ?_) | (go_at_call 272;with_reducible refine (zcM h _).mono ?_) | (go_at_call 190;with_reducible refine (c2 _).mono ?_) | (go_at_call 267;with_reducible refine (c3 _).mono ?_));rintro e w' ⟨rfl,rfl⟩) | fail)
 go_ret
 refine ⟨zah ?_,rfl⟩
 first | rfl | (simp only [nats];rfl)
theorem zsF (h:Nat) (W:World) (h0:(cutN h 13 3)=3):TW 192 #[.int .u32 (h:Nat)] W (.int .u32 (zdw h)):=by
 have c2:∀ W,TW 190 #[.int .u32 h,.int .u64 15,.int .u64 13] W (.int .u32 3):=fun W=>by
  have h:=zaq h 15 13 W (by omega) (by omega)
  rw [h0] at h
  exact h
 go_enter Tryz.func192,Tryz.ntmps192
 go_wp2_with (first | ((first | (go_at_call 271;with_reducible refine (zbj h _).mono ?_) | (go_at_call 272;with_reducible refine (zcM h _).mono ?_) | (go_at_call 190;with_reducible refine (c2 _).mono ?_) | (go_at_call 273;with_reducible refine (zr2 h _).mono ?_));rintro e w' ⟨rfl,rfl⟩) | fail)
 go_ret
 refine ⟨zah ?_,rfl⟩
 first | rfl | (simp only [nats];rfl)
theorem zlr (h:Nat) (W:World) (h0:(cutN h 13 3)=4):TW 192 #[.int .u32 (h:Nat)] W (.int .u32 (zc3 h)):=by
 have c2:∀ W,TW 190 #[.int .u32 h,.int .u64 15,.int .u64 13] W (.int .u32 4):=fun W=>by
  have h:=zaq h 15 13 W (by omega) (by omega)
  rw [h0] at h
  exact h
 go_enter Tryz.func192,Tryz.ntmps192
 go_wp2_with (first | ((first | (go_at_call 271;with_reducible refine (zbj h _).mono ?_) | (go_at_call 272;with_reducible refine (zcM h _).mono ?_) | (go_at_call 190;with_reducible refine (c2 _).mono ?_) | (go_at_call 274;with_reducible refine (zlD h _).mono ?_));rintro e w' ⟨rfl,rfl⟩) | fail)
 go_ret
 refine ⟨zah ?_,rfl⟩
 first | rfl | (simp only [nats];rfl)
theorem zwG (h:Nat) (W:World) (h0:(cutN h 13 3)=5):TW 192 #[.int .u32 (h:Nat)] W (.int .u32 (zfg (zek h) 0)):=by
 have c2:∀ W,TW 190 #[.int .u32 h,.int .u64 15,.int .u64 13] W (.int .u32 5):=fun W=>by
  have h:=zaq h 15 13 W (by omega) (by omega)
  rw [h0] at h
  exact h
 have c4:∀ W,TW 275 #[.int .u32 (zek h),.int .u32 0] W (.int .u32 (zfg (zek h) 0)):=fun W=>zrk (zek h) 0 W
 go_enter Tryz.func192,Tryz.ntmps192
 go_wp2_with (first | ((first | (go_at_call 271;with_reducible refine (zbj h _).mono ?_) | (go_at_call 272;with_reducible refine (zcM h _).mono ?_) | (go_at_call 190;with_reducible refine (c2 _).mono ?_) | (go_at_call 276;with_reducible refine (zm9 h _).mono ?_) | (go_at_call 275;with_reducible refine (c4 _).mono ?_));rintro e w' ⟨rfl,rfl⟩) | fail)
 go_ret
 refine ⟨zah ?_,rfl⟩
 first | rfl | (simp only [nats];rfl)
theorem zxD (h:Nat) (W:World) (h0:(cutN h 13 3)=6):TW 192 #[.int .u32 (h:Nat)] W (.int .u32 (zdB (zcN h) 0 (zac h) 0)):=by
 have c2:∀ W,TW 190 #[.int .u32 h,.int .u64 15,.int .u64 13] W (.int .u32 6):=fun W=>by
  have h:=zaq h 15 13 W (by omega) (by omega)
  rw [h0] at h
  exact h
 have c5:∀ W,TW 277 #[.int .u32 (zcN h),.int .u32 0,.int .u32 (zac h),.int .u32 0] W (.int .u32 (zdB (zcN h) 0 (zac h) 0)):=fun W=>zip (zcN h) 0 (zac h) 0 W
 go_enter Tryz.func192,Tryz.ntmps192
 go_wp2_with (first | ((first | (go_at_call 271;with_reducible refine (zbj h _).mono ?_) | (go_at_call 272;with_reducible refine (zcM h _).mono ?_) | (go_at_call 190;with_reducible refine (c2 _).mono ?_) | (go_at_call 278;with_reducible refine (zi9 h _).mono ?_) | (go_at_call 264;with_reducible refine (zbP h _).mono ?_) | (go_at_call 277;with_reducible refine (c5 _).mono ?_));rintro e w' ⟨rfl,rfl⟩) | fail)
 go_ret
 refine ⟨zah ?_,rfl⟩
 first | rfl | (simp only [nats];rfl)
theorem zxb (h:Nat) (W:World) (h0:(cutN h 13 3)=7):TW 192 #[.int .u32 (h:Nat)] W (.int .u32 (zdB (zcN h) 0 (zac h) 1)):=by
 have c2:∀ W,TW 190 #[.int .u32 h,.int .u64 15,.int .u64 13] W (.int .u32 7):=fun W=>by
  have h:=zaq h 15 13 W (by omega) (by omega)
  rw [h0] at h
  exact h
 have c5:∀ W,TW 277 #[.int .u32 (zcN h),.int .u32 0,.int .u32 (zac h),.int .u32 1] W (.int .u32 (zdB (zcN h) 0 (zac h) 1)):=fun W=>zip (zcN h) 0 (zac h) 1 W
 go_enter Tryz.func192,Tryz.ntmps192
 go_wp2_with (first | ((first | (go_at_call 271;with_reducible refine (zbj h _).mono ?_) | (go_at_call 272;with_reducible refine (zcM h _).mono ?_) | (go_at_call 190;with_reducible refine (c2 _).mono ?_) | (go_at_call 278;with_reducible refine (zi9 h _).mono ?_) | (go_at_call 264;with_reducible refine (zbP h _).mono ?_) | (go_at_call 277;with_reducible refine (c5 _).mono ?_));rintro e w' ⟨rfl,rfl⟩) | fail)
 go_ret
 refine ⟨zah ?_,rfl⟩
 first | rfl | (simp only [nats];rfl)
theorem zsx (h:Nat) (W:World):TW 192 #[.int .u32 (h:Nat)] W (.int .u32 ((zbU h:Nat):Int)):=by
 have l0:=zbc h 13 3
 have b0:(cutN h 13 3)=0∨(cutN h 13 3)=1∨(cutN h 13 3)=2∨(cutN h 13 3)=3∨(cutN h 13 3)=4∨(cutN h 13 3)=5∨(cutN h 13 3)=6∨(cutN h 13 3)=7:=by omega
 rcases b0 with h0 | h0 | h0 | h0 | h0 | h0 | h0 | h0
 ·rw [show zbU h=(zax (zaW h) (zae h) 0 (zae h) 19) from by unfold zbU;rw [beqT h0,cond_true]]
  exact zvn h W h0
 ·by_cases h1:(zae h)=0
  ·rw [show zbU h=0 from by unfold zbU;rw [beqF (show (cutN h 13 3)≠0 by omega),cond_false,beqT h0,cond_true,beqT h1,cond_true]]
   exact zus h W h0 h1
  ·rw [show zbU h=(zax (zaW h) (zae h) 0 (zae h) 27) from by unfold zbU;rw [beqF (show (cutN h 13 3)≠0 by omega),cond_false,beqT h0,cond_true,beqF h1,cond_false]]
   exact zoi h W h0 h1
 ·rw [show zbU h=(zax (zaW h) 0 0 (zae h) 19) from by unfold zbU;rw [beqF (show (cutN h 13 3)≠0 by omega),cond_false,beqF (show (cutN h 13 3)≠1 by omega),cond_false,beqT h0,cond_true]]
  exact zri h W h0
 ·rw [show zbU h=(zdw h) from by unfold zbU;rw [beqF (show (cutN h 13 3)≠0 by omega),cond_false,beqF (show (cutN h 13 3)≠1 by omega),cond_false,beqF (show (cutN h 13 3)≠2 by omega),cond_false,beqT h0,cond_true]]
  exact zsF h W h0
 ·rw [show zbU h=(zc3 h) from by unfold zbU;rw [beqF (show (cutN h 13 3)≠0 by omega),cond_false,beqF (show (cutN h 13 3)≠1 by omega),cond_false,beqF (show (cutN h 13 3)≠2 by omega),cond_false,beqF (show (cutN h 13 3)≠3 by omega),cond_false,beqT h0,cond_true]]
  exact zlr h W h0
 ·rw [show zbU h=(zfg (zek h) 0) from by unfold zbU;rw [beqF (show (cutN h 13 3)≠0 by omega),cond_false,beqF (show (cutN h 13 3)≠1 by omega),cond_false,beqF (show (cutN h 13 3)≠2 by omega),cond_false,beqF (show (cutN h 13 3)≠3 by omega),cond_false,beqF (show (cutN h 13 3)≠4 by omega),cond_false,beqT h0,cond_true]]
  exact zwG h W h0
 ·rw [show zbU h=(zdB (zcN h) 0 (zac h) 0) from by unfold zbU;rw [beqF (show (cutN h 13 3)≠0 by omega),cond_false,beqF (show (cutN h 13 3)≠1 by omega),cond_false,beqF (show (cutN h 13 3)≠2 by omega),cond_false,beqF (show (cutN h 13 3)≠3 by omega),cond_false,beqF (show (cutN h 13 3)≠4 by omega),cond_false,beqF (show (cutN h 13 3)≠5 by omega),cond_false,beqT h0,cond_true]]
  exact zxD h W h0
 ·rw [show zbU h=(zdB (zcN h) 0 (zac h) 1) from by unfold zbU;rw [beqF (show (cutN h 13 3)≠0 by omega),cond_false,beqF (show (cutN h 13 3)≠1 by omega),cond_false,beqF (show (cutN h 13 3)≠2 by omega),cond_false,beqF (show (cutN h 13 3)≠3 by omega),cond_false,beqF (show (cutN h 13 3)≠4 by omega),cond_false,beqF (show (cutN h 13 3)≠5 by omega),cond_false,beqF (show (cutN h 13 3)≠6 by omega),cond_false,beqT h0,cond_true]]
  exact zxb h W h0
def zcu (h:Nat):Nat:=(bif Nat.beq (cutN h 12 1) 0 then (bif Nat.beq (zaR h) 0 then (bif Nat.beq (zae h) 0 then 0 else (zax 0 (zae h) 0 0 103)) else (za8 0 (zaR h) 0 0 (zae h) 51)) else (bif Nat.beq (cutN h 12 1) 1 then (bif Nat.beq (zaR h) 0 then (bif Nat.beq (zae h) 0 then 1048691 else (zax 0 (zae h) 0 1 103)) else (za8 0 (zaR h) (zae h) 0 (zae h) 51)) else 0))
theorem zti (h:Nat) (W:World) (h0:(cutN h 12 1)=0) (h1:(zaR h)=0) (h2:(zae h)=0):TW 283 #[.int .u32 (h:Nat)] W (.int .u32 0):=by
 have c2:∀ W,TW 190 #[.int .u32 h,.int .u64 12,.int .u64 12] W (.int .u32 0):=fun W=>by
  have h:=zaq h 12 12 W (by omega) (by omega)
  rw [h0] at h
  exact h
 have p1:(((zaR h):Int)==0)=true:=by rw [beq_iff_eq];rw [h1];rfl
 have q1:(((zaR h):Int) != 0)=false:=by rw [bne,p1];rfl
 have p2:(((zae h):Int)==0)=true:=by rw [beq_iff_eq];rw [h2];rfl
 have q2:(((zae h):Int) != 0)=false:=by rw [bne,p2];rfl
 go_enter Tryz.func283,Tryz.ntmps283
 go_wp2_with (first | ((first | (go_at_call 271;with_reducible refine (zbj h _).mono ?_) | (go_at_call 279;with_reducible refine (zcm h _).mono ?_) | (go_at_call 190;with_reducible refine (c2 _).mono ?_));rintro e w' ⟨rfl,rfl⟩) | fail)
 go_ret
 exact ⟨rfl,rfl⟩
theorem zp6 (h:Nat) (W:World) (h0:(cutN h 12 1)=0) (h1:(zaR h)=0) (h2:(zae h)≠0):TW 283 #[.int .u32 (h:Nat)] W (.int .u32 (zax 0 (zae h) 0 0 103)):=by
 have c2:∀ W,TW 190 #[.int .u32 h,.int .u64 12,.int .u64 12] W (.int .u32 0):=fun W=>by
  have h:=zaq h 12 12 W (by omega) (by omega)
  rw [h0] at h
  exact h
 have c3:∀ W,TW 267 #[.int .u32 0,.int .u32 (zae h),.int .u32 0,.int .u32 0,.int .u32 103] W (.int .u32 (zax 0 (zae h) 0 0 103)):=fun W=>zcC 0 (zae h) 0 0 103 W
 have p1:(((zaR h):Int)==0)=true:=by rw [beq_iff_eq];rw [h1];rfl
 have q1:(((zaR h):Int) != 0)=false:=by rw [bne,p1];rfl
 have p2:(((zae h):Int)==0)=false:=by rw [beq_eq_false_iff_ne];omega
 have q2:(((zae h):Int) != 0)=true:=by rw [bne,p2];rfl
 go_enter Tryz.func283,Tryz.ntmps283
 go_wp2_with (first | ((first | (go_at_call 271;with_reducible refine (zbj h _).mono ?_) | (go_at_call 279;with_reducible refine (zcm h _).mono ?_) | (go_at_call 190;with_reducible refine (c2 _).mono ?_) | (go_at_call 267;with_reducible refine (c3 _).mono ?_));rintro e w' ⟨rfl,rfl⟩) | fail)
 go_ret
 refine ⟨zah ?_,rfl⟩
 first | rfl | (simp only [nats];rfl)
theorem zqd (h:Nat) (W:World) (h0:(cutN h 12 1)=0) (h1:(zaR h)≠0):TW 283 #[.int .u32 (h:Nat)] W (.int .u32 (za8 0 (zaR h) 0 0 (zae h) 51)):=by
 have c2:∀ W,TW 190 #[.int .u32 h,.int .u64 12,.int .u64 12] W (.int .u32 0):=fun W=>by
  have h:=zaq h 12 12 W (by omega) (by omega)
  rw [h0] at h
  exact h
 have c3:∀ W,TW 326 #[.int .u32 0,.int .u32 (zaR h),.int .u32 0,.int .u32 0,.int .u32 (zae h),.int .u32 51] W (.int .u32 (za8 0 (zaR h) 0 0 (zae h) 51)):=fun W=>zd3 0 (zaR h) 0 0 (zae h) 51 W
 have p1:(((zaR h):Int)==0)=false:=by rw [beq_eq_false_iff_ne];omega
 have q1:(((zaR h):Int) != 0)=true:=by rw [bne,p1];rfl
 go_enter Tryz.func283,Tryz.ntmps283
 go_wp2_with (first | ((first | (go_at_call 271;with_reducible refine (zbj h _).mono ?_) | (go_at_call 279;with_reducible refine (zcm h _).mono ?_) | (go_at_call 190;with_reducible refine (c2 _).mono ?_) | (go_at_call 326;with_reducible refine (c3 _).mono ?_));rintro e w' ⟨rfl,rfl⟩) | fail)
 go_ret
 refine ⟨zah ?_,rfl⟩
 first | rfl | (simp only [nats];rfl)
theorem znw (h:Nat) (W:World) (h0:(cutN h 12 1)=1) (h1:(zaR h)=0) (h2:(zae h)=0):TW 283 #[.int .u32 (h:Nat)] W (.int .u32 1048691):=by
 have c2:∀ W,TW 190 #[.int .u32 h,.int .u64 12,.int .u64 12] W (.int .u32 1):=fun W=>by
  have h:=zaq h 12 12 W (by omega) (by omega)
  rw [h0] at h
  exact h
 have p1:(((zaR h):Int)==0)=true:=by rw [beq_iff_eq];rw [h1];rfl
 have q1:(((zaR h):Int) != 0)=false:=by rw [bne,p1];rfl
 have p2:(((zae h):Int)==0)=true:=by rw [beq_iff_eq];rw [h2];rfl
 have q2:(((zae h):Int) != 0)=false:=by rw [bne,p2];rfl
 go_enter Tryz.func283,Tryz.ntmps283
 go_wp2_with (first | ((first | (go_at_call 271;with_reducible refine (zbj h _).mono ?_) | (go_at_call 279;with_reducible refine (zcm h _).mono ?_) | (go_at_call 190;with_reducible refine (c2 _).mono ?_));rintro e w' ⟨rfl,rfl⟩) | fail)
 go_ret
 refine ⟨zah ?_,rfl⟩
 first | rfl | (simp only [nats];rfl)
theorem zog (h:Nat) (W:World) (h0:(cutN h 12 1)=1) (h1:(zaR h)=0) (h2:(zae h)≠0):TW 283 #[.int .u32 (h:Nat)] W (.int .u32 (zax 0 (zae h) 0 1 103)):=by
 have c2:∀ W,TW 190 #[.int .u32 h,.int .u64 12,.int .u64 12] W (.int .u32 1):=fun W=>by
  have h:=zaq h 12 12 W (by omega) (by omega)
  rw [h0] at h
  exact h
 have c3:∀ W,TW 267 #[.int .u32 0,.int .u32 (zae h),.int .u32 0,.int .u32 1,.int .u32 103] W (.int .u32 (zax 0 (zae h) 0 1 103)):=fun W=>zcC 0 (zae h) 0 1 103 W
 have p1:(((zaR h):Int)==0)=true:=by rw [beq_iff_eq];rw [h1];rfl
 have q1:(((zaR h):Int) != 0)=false:=by rw [bne,p1];rfl
 have p2:(((zae h):Int)==0)=false:=by rw [beq_eq_false_iff_ne];omega
 have q2:(((zae h):Int) != 0)=true:=by rw [bne,p2];rfl
 go_enter Tryz.func283,Tryz.ntmps283
 go_wp2_with (first | ((first | (go_at_call 271;with_reducible refine (zbj h _).mono ?_) | (go_at_call 279;with_reducible refine (zcm h _).mono ?_) | (go_at_call 190;with_reducible refine (c2 _).mono ?_) | (go_at_call 267;with_reducible refine (c3 _).mono ?_));rintro e w' ⟨rfl,rfl⟩) | fail)
 go_ret
 refine ⟨zah ?_,rfl⟩
 first | rfl | (simp only [nats];rfl)
theorem zw0 (h:Nat) (W:World) (h0:(cutN h 12 1)=1) (h1:(zaR h)≠0):TW 283 #[.int .u32 (h:Nat)] W (.int .u32 (za8 0 (zaR h) (zae h) 0 (zae h) 51)):=by
 have c2:∀ W,TW 190 #[.int .u32 h,.int .u64 12,.int .u64 12] W (.int .u32 1):=fun W=>by
  have h:=zaq h 12 12 W (by omega) (by omega)
  rw [h0] at h
  exact h
 have c3:∀ W,TW 326 #[.int .u32 0,.int .u32 (zaR h),.int .u32 (zae h),.int .u32 0,.int .u32 (zae h),.int .u32 51] W (.int .u32 (za8 0 (zaR h) (zae h) 0 (zae h) 51)):=fun W=>zd3 0 (zaR h) (zae h) 0 (zae h) 51 W
 have p1:(((zaR h):Int)==0)=false:=by rw [beq_eq_false_iff_ne];omega
 have q1:(((zaR h):Int) != 0)=true:=by rw [bne,p1];rfl
 go_enter Tryz.func283,Tryz.ntmps283
 go_wp2_with (first | ((first | (go_at_call 271;with_reducible refine (zbj h _).mono ?_) | (go_at_call 279;with_reducible refine (zcm h _).mono ?_) | (go_at_call 190;with_reducible refine (c2 _).mono ?_) | (go_at_call 326;with_reducible refine (c3 _).mono ?_));rintro e w' ⟨rfl,rfl⟩) | fail)
 go_ret
 refine ⟨zah ?_,rfl⟩
 first | rfl | (simp only [nats];rfl)
theorem zl5 (h:Nat) (W:World):TW 283 #[.int .u32 (h:Nat)] W (.int .u32 ((zcu h:Nat):Int)):=by
 have l0:=zbc h 12 1
 have b0:(cutN h 12 1)=0∨(cutN h 12 1)=1:=by omega
 rcases b0 with h0 | h0
 ·by_cases h1:(zaR h)=0
  ·by_cases h2:(zae h)=0
   ·rw [show zcu h=0 from by unfold zcu;rw [beqT h0,cond_true,beqT h1,cond_true,beqT h2,cond_true]]
    exact zti h W h0 h1 h2
   ·rw [show zcu h=(zax 0 (zae h) 0 0 103) from by unfold zcu;rw [beqT h0,cond_true,beqT h1,cond_true,beqF h2,cond_false]]
    exact zp6 h W h0 h1 h2
  ·rw [show zcu h=(za8 0 (zaR h) 0 0 (zae h) 51) from by unfold zcu;rw [beqT h0,cond_true,beqF h1,cond_false]]
   exact zqd h W h0 h1
 ·by_cases h1:(zaR h)=0
  ·by_cases h2:(zae h)=0
   ·rw [show zcu h=1048691 from by unfold zcu;rw [beqF (show (cutN h 12 1)≠0 by omega),cond_false,beqT h0,cond_true,beqT h1,cond_true,beqT h2,cond_true]]
    exact znw h W h0 h1 h2
   ·rw [show zcu h=(zax 0 (zae h) 0 1 103) from by unfold zcu;rw [beqF (show (cutN h 12 1)≠0 by omega),cond_false,beqT h0,cond_true,beqT h1,cond_true,beqF h2,cond_false]]
    exact zog h W h0 h1 h2
  ·rw [show zcu h=(za8 0 (zaR h) (zae h) 0 (zae h) 51) from by unfold zcu;rw [beqF (show (cutN h 12 1)≠0 by omega),cond_false,beqT h0,cond_true,beqF h1,cond_false]]
   exact zw0 h W h0 h1
def zbI (h:Nat):Nat:=(bif Nat.beq (cutN h 13 3) 0 then (zax (zb2 h) (zae h) 1 (zae h) 19) else (bif Nat.beq (cutN h 13 3) 2 then (bif Nat.beq (zae h) 0 then 0 else (zax (zd9 h) 2 2 (zae h) 3)) else (bif Nat.beq (cutN h 13 3) 3 then (bif Nat.beq (zae h) 0 then 0 else (zax (zef h) 2 3 (zae h) 3)) else (bif Nat.beq (cutN h 13 3) 4 then (zcu h) else (bif Nat.beq (cutN h 13 3) 6 then (zcf (zee h) (zaR h) 2 2 35) else (bif Nat.beq (cutN h 13 3) 7 then (zcf (zej h) (zaR h) 2 3 35) else 0))))))
theorem zxm (h:Nat) (W:World) (h0:(cutN h 13 3)=0):TW 193 #[.int .u32 (h:Nat)] W (.int .u32 (zax (zb2 h) (zae h) 1 (zae h) 19)):=by
 have c2:∀ W,TW 190 #[.int .u32 h,.int .u64 15,.int .u64 13] W (.int .u32 0):=fun W=>by
  have h:=zaq h 15 13 W (by omega) (by omega)
  rw [h0] at h
  exact h
 have c4:∀ W,TW 267 #[.int .u32 (zb2 h),.int .u32 (zae h),.int .u32 1,.int .u32 (zae h),.int .u32 19] W (.int .u32 (zax (zb2 h) (zae h) 1 (zae h) 19)):=fun W=>zcC (zb2 h) (zae h) 1 (zae h) 19 W
 go_enter Tryz.func193,Tryz.ntmps193
 go_wp2_with (first | ((first | (go_at_call 271;with_reducible refine (zbj h _).mono ?_) | (go_at_call 279;with_reducible refine (zcm h _).mono ?_) | (go_at_call 190;with_reducible refine (c2 _).mono ?_) | (go_at_call 280;with_reducible refine (zfF h _).mono ?_) | (go_at_call 267;with_reducible refine (c4 _).mono ?_));rintro e w' ⟨rfl,rfl⟩) | fail)
 go_ret
 refine ⟨zah ?_,rfl⟩
 first | rfl | (simp only [nats];rfl)
theorem zt2 (h:Nat) (W:World) (h0:(cutN h 13 3)=1):TW 193 #[.int .u32 (h:Nat)] W (.int .u32 0):=by
 have c2:∀ W,TW 190 #[.int .u32 h,.int .u64 15,.int .u64 13] W (.int .u32 1):=fun W=>by
  have h:=zaq h 15 13 W (by omega) (by omega)
  rw [h0] at h
  exact h
 go_enter Tryz.func193,Tryz.ntmps193
 go_wp2_with (first | ((first | (go_at_call 271;with_reducible refine (zbj h _).mono ?_) | (go_at_call 279;with_reducible refine (zcm h _).mono ?_) | (go_at_call 190;with_reducible refine (c2 _).mono ?_));rintro e w' ⟨rfl,rfl⟩) | fail)
 go_ret
 exact ⟨rfl,rfl⟩
theorem ztr (h:Nat) (W:World) (h0:(cutN h 13 3)=2) (h1:(zae h)=0):TW 193 #[.int .u32 (h:Nat)] W (.int .u32 0):=by
 have c2:∀ W,TW 190 #[.int .u32 h,.int .u64 15,.int .u64 13] W (.int .u32 2):=fun W=>by
  have h:=zaq h 15 13 W (by omega) (by omega)
  rw [h0] at h
  exact h
 have p1:(((zae h):Int)==0)=true:=by rw [beq_iff_eq];rw [h1];rfl
 have q1:(((zae h):Int) != 0)=false:=by rw [bne,p1];rfl
 go_enter Tryz.func193,Tryz.ntmps193
 go_wp2_with (first | ((first | (go_at_call 271;with_reducible refine (zbj h _).mono ?_) | (go_at_call 279;with_reducible refine (zcm h _).mono ?_) | (go_at_call 190;with_reducible refine (c2 _).mono ?_));rintro e w' ⟨rfl,rfl⟩) | fail)
 go_ret
 exact ⟨rfl,rfl⟩
theorem znG (h:Nat) (W:World) (h0:(cutN h 13 3)=2) (h1:(zae h)≠0):TW 193 #[.int .u32 (h:Nat)] W (.int .u32 (zax (zd9 h) 2 2 (zae h) 3)):=by
 have c2:∀ W,TW 190 #[.int .u32 h,.int .u64 15,.int .u64 13] W (.int .u32 2):=fun W=>by
  have h:=zaq h 15 13 W (by omega) (by omega)
  rw [h0] at h
  exact h
 have c4:∀ W,TW 267 #[.int .u32 (zd9 h),.int .u32 2,.int .u32 2,.int .u32 (zae h),.int .u32 3] W (.int .u32 (zax (zd9 h) 2 2 (zae h) 3)):=fun W=>zcC (zd9 h) 2 2 (zae h) 3 W
 have p1:(((zae h):Int)==0)=false:=by rw [beq_eq_false_iff_ne];omega
 have q1:(((zae h):Int) != 0)=true:=by rw [bne,p1];rfl
 go_enter Tryz.func193,Tryz.ntmps193
 go_wp2_with (first | ((first | (go_at_call 271;with_reducible refine (zbj h _).mono ?_) | (go_at_call 279;with_reducible refine (zcm h _).mono ?_) | (go_at_call 190;with_reducible refine (c2 _).mono ?_) | (go_at_call 281;with_reducible refine (zqe h _).mono ?_) | (go_at_call 267;with_reducible refine (c4 _).mono ?_));rintro e w' ⟨rfl,rfl⟩) | fail)
 go_ret
 refine ⟨zah ?_,rfl⟩
 first | rfl | (simp only [nats];rfl)
theorem zli (h:Nat) (W:World) (h0:(cutN h 13 3)=3) (h1:(zae h)=0):TW 193 #[.int .u32 (h:Nat)] W (.int .u32 0):=by
 have c2:∀ W,TW 190 #[.int .u32 h,.int .u64 15,.int .u64 13] W (.int .u32 3):=fun W=>by
  have h:=zaq h 15 13 W (by omega) (by omega)
  rw [h0] at h
  exact h
 have p1:(((zae h):Int)==0)=true:=by rw [beq_iff_eq];rw [h1];rfl
 have q1:(((zae h):Int) != 0)=false:=by rw [bne,p1];rfl
 go_enter Tryz.func193,Tryz.ntmps193
 go_wp2_with (first | ((first | (go_at_call 271;with_reducible refine (zbj h _).mono ?_) | (go_at_call 279;with_reducible refine (zcm h _).mono ?_) | (go_at_call 190;with_reducible refine (c2 _).mono ?_));rintro e w' ⟨rfl,rfl⟩) | fail)
 go_ret
 exact ⟨rfl,rfl⟩
theorem zsq (h:Nat) (W:World) (h0:(cutN h 13 3)=3) (h1:(zae h)≠0):TW 193 #[.int .u32 (h:Nat)] W (.int .u32 (zax (zef h) 2 3 (zae h) 3)):=by
 have c2:∀ W,TW 190 #[.int .u32 h,.int .u64 15,.int .u64 13] W (.int .u32 3):=fun W=>by
  have h:=zaq h 15 13 W (by omega) (by omega)
  rw [h0] at h
  exact h
 have c4:∀ W,TW 267 #[.int .u32 (zef h),.int .u32 2,.int .u32 3,.int .u32 (zae h),.int .u32 3] W (.int .u32 (zax (zef h) 2 3 (zae h) 3)):=fun W=>zcC (zef h) 2 3 (zae h) 3 W
 have p1:(((zae h):Int)==0)=false:=by rw [beq_eq_false_iff_ne];omega
 have q1:(((zae h):Int) != 0)=true:=by rw [bne,p1];rfl
 go_enter Tryz.func193,Tryz.ntmps193
 go_wp2_with (first | ((first | (go_at_call 271;with_reducible refine (zbj h _).mono ?_) | (go_at_call 279;with_reducible refine (zcm h _).mono ?_) | (go_at_call 190;with_reducible refine (c2 _).mono ?_) | (go_at_call 282;with_reducible refine (zua h _).mono ?_) | (go_at_call 267;with_reducible refine (c4 _).mono ?_));rintro e w' ⟨rfl,rfl⟩) | fail)
 go_ret
 refine ⟨zah ?_,rfl⟩
 first | rfl | (simp only [nats];rfl)
theorem zqL (h:Nat) (W:World) (h0:(cutN h 13 3)=4):TW 193 #[.int .u32 (h:Nat)] W (.int .u32 (zcu h)):=by
 have c2:∀ W,TW 190 #[.int .u32 h,.int .u64 15,.int .u64 13] W (.int .u32 4):=fun W=>by
  have h:=zaq h 15 13 W (by omega) (by omega)
  rw [h0] at h
  exact h
 go_enter Tryz.func193,Tryz.ntmps193
 go_wp2_with (first | ((first | (go_at_call 271;with_reducible refine (zbj h _).mono ?_) | (go_at_call 279;with_reducible refine (zcm h _).mono ?_) | (go_at_call 190;with_reducible refine (c2 _).mono ?_) | (go_at_call 283;with_reducible refine (zl5 h _).mono ?_));rintro e w' ⟨rfl,rfl⟩) | fail)
 go_ret
 refine ⟨zah ?_,rfl⟩
 first | rfl | (simp only [nats];rfl)
theorem zql (h:Nat) (W:World) (h0:(cutN h 13 3)=5):TW 193 #[.int .u32 (h:Nat)] W (.int .u32 0):=by
 have c2:∀ W,TW 190 #[.int .u32 h,.int .u64 15,.int .u64 13] W (.int .u32 5):=fun W=>by
  have h:=zaq h 15 13 W (by omega) (by omega)
  rw [h0] at h
  exact h
 go_enter Tryz.func193,Tryz.ntmps193
 go_wp2_with (first | ((first | (go_at_call 271;with_reducible refine (zbj h _).mono ?_) | (go_at_call 279;with_reducible refine (zcm h _).mono ?_) | (go_at_call 190;with_reducible refine (c2 _).mono ?_));rintro e w' ⟨rfl,rfl⟩) | fail)
 go_ret
 exact ⟨rfl,rfl⟩
theorem zu8 (h:Nat) (W:World) (h0:(cutN h 13 3)=6):TW 193 #[.int .u32 (h:Nat)] W (.int .u32 (zcf (zee h) (zaR h) 2 2 35)):=by
 have c2:∀ W,TW 190 #[.int .u32 h,.int .u64 15,.int .u64 13] W (.int .u32 6):=fun W=>by
  have h:=zaq h 15 13 W (by omega) (by omega)
  rw [h0] at h
  exact h
 have c4:∀ W,TW 270 #[.int .u32 (zee h),.int .u32 (zaR h),.int .u32 2,.int .u32 2,.int .u32 35] W (.int .u32 (zcf (zee h) (zaR h) 2 2 35)):=fun W=>zfB (zee h) (zaR h) 2 2 35 W
 go_enter Tryz.func193,Tryz.ntmps193
 go_wp2_with (first | ((first | (go_at_call 271;with_reducible refine (zbj h _).mono ?_) | (go_at_call 279;with_reducible refine (zcm h _).mono ?_) | (go_at_call 190;with_reducible refine (c2 _).mono ?_) | (go_at_call 284;with_reducible refine (zq7 h _).mono ?_) | (go_at_call 270;with_reducible refine (c4 _).mono ?_));rintro e w' ⟨rfl,rfl⟩) | fail)
 go_ret
 refine ⟨zah ?_,rfl⟩
 first | rfl | (simp only [nats];rfl)
theorem zpg (h:Nat) (W:World) (h0:(cutN h 13 3)=7):TW 193 #[.int .u32 (h:Nat)] W (.int .u32 (zcf (zej h) (zaR h) 2 3 35)):=by
 have c2:∀ W,TW 190 #[.int .u32 h,.int .u64 15,.int .u64 13] W (.int .u32 7):=fun W=>by
  have h:=zaq h 15 13 W (by omega) (by omega)
  rw [h0] at h
  exact h
 have c4:∀ W,TW 270 #[.int .u32 (zej h),.int .u32 (zaR h),.int .u32 2,.int .u32 3,.int .u32 35] W (.int .u32 (zcf (zej h) (zaR h) 2 3 35)):=fun W=>zfB (zej h) (zaR h) 2 3 35 W
 go_enter Tryz.func193,Tryz.ntmps193
 go_wp2_with (first | ((first | (go_at_call 271;with_reducible refine (zbj h _).mono ?_) | (go_at_call 279;with_reducible refine (zcm h _).mono ?_) | (go_at_call 190;with_reducible refine (c2 _).mono ?_) | (go_at_call 285;with_reducible refine (zuJ h _).mono ?_) | (go_at_call 270;with_reducible refine (c4 _).mono ?_));rintro e w' ⟨rfl,rfl⟩) | fail)
 go_ret
 refine ⟨zah ?_,rfl⟩
 first | rfl | (simp only [nats];rfl)
theorem zqW (h:Nat) (W:World):TW 193 #[.int .u32 (h:Nat)] W (.int .u32 ((zbI h:Nat):Int)):=by
 have l0:=zbc h 13 3
 have b0:(cutN h 13 3)=0∨(cutN h 13 3)=1∨(cutN h 13 3)=2∨(cutN h 13 3)=3∨(cutN h 13 3)=4∨(cutN h 13 3)=5∨(cutN h 13 3)=6∨(cutN h 13 3)=7:=by omega
 rcases b0 with h0 | h0 | h0 | h0 | h0 | h0 | h0 | h0
 ·rw [show zbI h=(zax (zb2 h) (zae h) 1 (zae h) 19) from by unfold zbI;rw [beqT h0,cond_true]]
  exact zxm h W h0
 ·rw [show zbI h=0 from by unfold zbI;rw [beqF (show (cutN h 13 3)≠0 by omega),cond_false,beqF (show (cutN h 13 3)≠2 by omega),cond_false,beqF (show (cutN h 13 3)≠3 by omega),cond_false,beqF (show (cutN h 13 3)≠4 by omega),cond_false,beqF (show (cutN h 13 3)≠6 by omega),cond_false,beqF (show (cutN h 13 3)≠7 by omega),cond_false]]
  exact zt2 h W h0
 ·by_cases h1:(zae h)=0
  ·rw [show zbI h=0 from by unfold zbI;rw [beqF (show (cutN h 13 3)≠0 by omega),cond_false,beqT h0,cond_true,beqT h1,cond_true]]
   exact ztr h W h0 h1
  ·rw [show zbI h=(zax (zd9 h) 2 2 (zae h) 3) from by unfold zbI;rw [beqF (show (cutN h 13 3)≠0 by omega),cond_false,beqT h0,cond_true,beqF h1,cond_false]]
   exact znG h W h0 h1
 ·by_cases h1:(zae h)=0
  ·rw [show zbI h=0 from by unfold zbI;rw [beqF (show (cutN h 13 3)≠0 by omega),cond_false,beqF (show (cutN h 13 3)≠2 by omega),cond_false,beqT h0,cond_true,beqT h1,cond_true]]
   exact zli h W h0 h1
  ·rw [show zbI h=(zax (zef h) 2 3 (zae h) 3) from by unfold zbI;rw [beqF (show (cutN h 13 3)≠0 by omega),cond_false,beqF (show (cutN h 13 3)≠2 by omega),cond_false,beqT h0,cond_true,beqF h1,cond_false]]
   exact zsq h W h0 h1
 ·rw [show zbI h=(zcu h) from by unfold zbI;rw [beqF (show (cutN h 13 3)≠0 by omega),cond_false,beqF (show (cutN h 13 3)≠2 by omega),cond_false,beqF (show (cutN h 13 3)≠3 by omega),cond_false,beqT h0,cond_true]]
  exact zqL h W h0
 ·rw [show zbI h=0 from by unfold zbI;rw [beqF (show (cutN h 13 3)≠0 by omega),cond_false,beqF (show (cutN h 13 3)≠2 by omega),cond_false,beqF (show (cutN h 13 3)≠3 by omega),cond_false,beqF (show (cutN h 13 3)≠4 by omega),cond_false,beqF (show (cutN h 13 3)≠6 by omega),cond_false,beqF (show (cutN h 13 3)≠7 by omega),cond_false]]
  exact zql h W h0
 ·rw [show zbI h=(zcf (zee h) (zaR h) 2 2 35) from by unfold zbI;rw [beqF (show (cutN h 13 3)≠0 by omega),cond_false,beqF (show (cutN h 13 3)≠2 by omega),cond_false,beqF (show (cutN h 13 3)≠3 by omega),cond_false,beqF (show (cutN h 13 3)≠4 by omega),cond_false,beqT h0,cond_true]]
  exact zu8 h W h0
 ·rw [show zbI h=(zcf (zej h) (zaR h) 2 3 35) from by unfold zbI;rw [beqF (show (cutN h 13 3)≠0 by omega),cond_false,beqF (show (cutN h 13 3)≠2 by omega),cond_false,beqF (show (cutN h 13 3)≠3 by omega),cond_false,beqF (show (cutN h 13 3)≠4 by omega),cond_false,beqF (show (cutN h 13 3)≠6 by omega),cond_false,beqT h0,cond_true]]
  exact zpg h W h0
def zbm (h:Nat):Nat:=(bif Nat.beq (cutN h 0 2) 0 then (zbT h) else (bif Nat.beq (cutN h 0 2) 1 then (zbU h) else (bif Nat.beq (cutN h 0 2) 2 then (zbI h) else 0)))
theorem zoI (h:Nat) (W:World) (h0:(cutN h 0 2)=0):TW 141 #[.int .u32 (h:Nat)] W (.int .u32 (zbT h)):=by
 have c0:∀ W,TW 190 #[.int .u32 h,.int .u64 1,.int .u64 0] W (.int .u32 0):=fun W=>by
  have h:=zaq h 1 0 W (by omega) (by omega)
  rw [h0] at h
  exact h
 go_enter Tryz.func141,Tryz.ntmps141
 go_wp2_with (first | ((first | (go_at_call 190;with_reducible refine (c0 _).mono ?_) | (go_at_call 191;with_reducible refine (zlQ h _).mono ?_));rintro e w' ⟨rfl,rfl⟩) | fail)
 go_ret
 refine ⟨zah ?_,rfl⟩
 first | rfl | (simp only [nats];rfl)
theorem zwK (h:Nat) (W:World) (h0:(cutN h 0 2)=1):TW 141 #[.int .u32 (h:Nat)] W (.int .u32 (zbU h)):=by
 have c0:∀ W,TW 190 #[.int .u32 h,.int .u64 1,.int .u64 0] W (.int .u32 1):=fun W=>by
  have h:=zaq h 1 0 W (by omega) (by omega)
  rw [h0] at h
  exact h
 go_enter Tryz.func141,Tryz.ntmps141
 go_wp2_with (first | ((first | (go_at_call 190;with_reducible refine (c0 _).mono ?_) | (go_at_call 192;with_reducible refine (zsx h _).mono ?_));rintro e w' ⟨rfl,rfl⟩) | fail)
 go_ret
 refine ⟨zah ?_,rfl⟩
 first | rfl | (simp only [nats];rfl)
theorem zqo (h:Nat) (W:World) (h0:(cutN h 0 2)=2):TW 141 #[.int .u32 (h:Nat)] W (.int .u32 (zbI h)):=by
 have c0:∀ W,TW 190 #[.int .u32 h,.int .u64 1,.int .u64 0] W (.int .u32 2):=fun W=>by
  have h:=zaq h 1 0 W (by omega) (by omega)
  rw [h0] at h
  exact h
 go_enter Tryz.func141,Tryz.ntmps141
 go_wp2_with (first | ((first | (go_at_call 190;with_reducible refine (c0 _).mono ?_) | (go_at_call 193;with_reducible refine (zqW h _).mono ?_));rintro e w' ⟨rfl,rfl⟩) | fail)
 go_ret
 refine ⟨zah ?_,rfl⟩
 first | rfl | (simp only [nats];rfl)
theorem zm3 (h:Nat) (W:World) (h0:(cutN h 0 2)=3):TW 141 #[.int .u32 (h:Nat)] W (.int .u32 0):=by
 have c0:∀ W,TW 190 #[.int .u32 h,.int .u64 1,.int .u64 0] W (.int .u32 3):=fun W=>by
  have h:=zaq h 1 0 W (by omega) (by omega)
  rw [h0] at h
  exact h
 go_enter Tryz.func141,Tryz.ntmps141
 go_wp2_with (first | (go_at_call 190;(with_reducible refine (c0 _).mono ?_);rintro e w' ⟨rfl,rfl⟩) | fail)
 go_ret
 exact ⟨rfl,rfl⟩
theorem zb5 (h:Nat) (W:World):TW 141 #[.int .u32 (h:Nat)] W (.int .u32 ((zbm h:Nat):Int)):=by
 have l0:=zbc h 0 2
 have b0:(cutN h 0 2)=0∨(cutN h 0 2)=1∨(cutN h 0 2)=2∨(cutN h 0 2)=3:=by omega
 rcases b0 with h0 | h0 | h0 | h0
 ·rw [show zbm h=(zbT h) from by unfold zbm;rw [beqT h0,cond_true]]
  exact zoI h W h0
 ·rw [show zbm h=(zbU h) from by unfold zbm;rw [beqF (show (cutN h 0 2)≠0 by omega),cond_false,beqT h0,cond_true]]
  exact zwK h W h0
 ·rw [show zbm h=(zbI h) from by unfold zbm;rw [beqF (show (cutN h 0 2)≠0 by omega),cond_false,beqF (show (cutN h 0 2)≠1 by omega),cond_false,beqT h0,cond_true]]
  exact zqo h W h0
 ·rw [show zbm h=0 from by unfold zbm;rw [beqF (show (cutN h 0 2)≠0 by omega),cond_false,beqF (show (cutN h 0 2)≠1 by omega),cond_false,beqF (show (cutN h 0 2)≠2 by omega),cond_false]]
  exact zm3 h W h0
end Go.Proofs.YtmjjpgaeboaamaaGreatDoor.Br
