/- MachineOn, part 11. -/
import Derived.Test.YtplcfdnfeclpmaaGreatDoorV10
set_option maxHeartbeats 4000000
set_option maxRecDepth 100000
open Go.Lib (hid)
open Go Go.RowKit Go.Deep Go.Joins Go.Proofs.Tryz
namespace Go.Proofs.YtplcfdnfeclpmaaGreatDoor.Br
def zb9 (h:Nat):Nat:=(bif Nat.beq (cutN h 13 3) 0 then (bif Nat.beq (zcS h) 0 then 0 else (zaA (zcS h) 2 0 (zav h) 19)) else (bif Nat.beq (cutN h 13 3) 2 then (zaA (zc3 h) (zae h) 2 (zav h) 3) else (bif Nat.beq (cutN h 13 3) 3 then (zaA (zda h) (zae h) 3 (zav h) 3) else (bif Nat.beq (cutN h 13 3) 6 then (zcz (zc3 h) (zav h) (zae h) 2 35) else (bif Nat.beq (cutN h 13 3) 7 then (zcz (zda h) (zav h) (zae h) 3 35) else 0)))))
theorem ztP (h:Nat) (W:World) (h0:(cutN h 13 3)=0) (h1:(zcS h)=0):TW 118 #[.int .u32 (h:Nat)] W (.int .u32 0):=by
 have c2:∀ W,TW 117 #[.int .u32 h,.int .u64 15,.int .u64 13] W (.int .u32 0):=fun W=>by
  have h:=zar h 15 13 W (by omega) (by omega);rw [h0] at h;exact h
 have p1:(((zcS h):Int)==0)=true:=by rw [beq_iff_eq];rw [h1];rfl
 have q1:(((zcS h):Int) != 0)=false:=by rw [bne,p1];rfl
 go_enter func118,ntmps118;go_wp2_with ((first | (go_at_call 168;with_reducible refine (zbY h _).tq ?_) | (go_at_call 169;with_reducible refine (zcw h _).tq ?_) | (go_at_call 117;with_reducible refine (c2 _).tq ?_) | (go_at_call 170;with_reducible refine (zio h _).tq ?_)));go_ret;exact ⟨rfl,rfl⟩
theorem zq3 (h:Nat) (W:World) (h0:(cutN h 13 3)=0) (h1:(zcS h)≠0):TW 118 #[.int .u32 (h:Nat)] W (.int .u32 (zaA (zcS h) 2 0 (zav h) 19)):=by
 have c2:∀ W,TW 117 #[.int .u32 h,.int .u64 15,.int .u64 13] W (.int .u32 0):=fun W=>by
  have h:=zar h 15 13 W (by omega) (by omega);rw [h0] at h;exact h
 have c4:∀ W,TW 171 #[.int .u32 (zcS h),.int .u32 2,.int .u32 0,.int .u32 (zav h),.int .u32 19] W (.int .u32 (zaA (zcS h) 2 0 (zav h) 19)):=fun W=>zcT (zcS h) 2 0 (zav h) 19 W
 have p1:(((zcS h):Int)==0)=false:=by rw [beq_eq_false_iff_ne];omega
 have q1:(((zcS h):Int) != 0)=true:=by rw [bne,p1];rfl
 go_enter func118,ntmps118;go_wp2_with ((first | (go_at_call 168;with_reducible refine (zbY h _).tq ?_) | (go_at_call 169;with_reducible refine (zcw h _).tq ?_) | (go_at_call 117;with_reducible refine (c2 _).tq ?_) | (go_at_call 170;with_reducible refine (zio h _).tq ?_) | (go_at_call 171;with_reducible refine (c4 _).tq ?_)));go_ret;refine ⟨zam ?_,rfl⟩
 first | rfl | (simp only [nats];rfl)
theorem zzE (h:Nat) (W:World) (h0:(cutN h 13 3)=1):TW 118 #[.int .u32 (h:Nat)] W (.int .u32 0):=by
 have c2:∀ W,TW 117 #[.int .u32 h,.int .u64 15,.int .u64 13] W (.int .u32 1):=fun W=>by
  have h:=zar h 15 13 W (by omega) (by omega);rw [h0] at h;exact h
 go_enter func118,ntmps118;go_wp2_with ((first | (go_at_call 168;with_reducible refine (zbY h _).tq ?_) | (go_at_call 169;with_reducible refine (zcw h _).tq ?_) | (go_at_call 117;with_reducible refine (c2 _).tq ?_)));go_ret;exact ⟨rfl,rfl⟩
theorem zym (h:Nat) (W:World) (h0:(cutN h 13 3)=2):TW 118 #[.int .u32 (h:Nat)] W (.int .u32 (zaA (zc3 h) (zae h) 2 (zav h) 3)):=by
 have c2:∀ W,TW 117 #[.int .u32 h,.int .u64 15,.int .u64 13] W (.int .u32 2):=fun W=>by
  have h:=zar h 15 13 W (by omega) (by omega);rw [h0] at h;exact h
 have c4:∀ W,TW 171 #[.int .u32 (zc3 h),.int .u32 (zae h),.int .u32 2,.int .u32 (zav h),.int .u32 3] W (.int .u32 (zaA (zc3 h) (zae h) 2 (zav h) 3)):=fun W=>zcT (zc3 h) (zae h) 2 (zav h) 3 W
 go_enter func118,ntmps118;go_wp2_with ((first | (go_at_call 168;with_reducible refine (zbY h _).tq ?_) | (go_at_call 169;with_reducible refine (zcw h _).tq ?_) | (go_at_call 117;with_reducible refine (c2 _).tq ?_) | (go_at_call 172;with_reducible refine (ziC h _).tq ?_) | (go_at_call 171;with_reducible refine (c4 _).tq ?_)));go_ret;refine ⟨zam ?_,rfl⟩
 first | rfl | (simp only [nats];rfl)
theorem zz1 (h:Nat) (W:World) (h0:(cutN h 13 3)=3):TW 118 #[.int .u32 (h:Nat)] W (.int .u32 (zaA (zda h) (zae h) 3 (zav h) 3)):=by
 have c2:∀ W,TW 117 #[.int .u32 h,.int .u64 15,.int .u64 13] W (.int .u32 3):=fun W=>by
  have h:=zar h 15 13 W (by omega) (by omega);rw [h0] at h;exact h
 have c4:∀ W,TW 171 #[.int .u32 (zda h),.int .u32 (zae h),.int .u32 3,.int .u32 (zav h),.int .u32 3] W (.int .u32 (zaA (zda h) (zae h) 3 (zav h) 3)):=fun W=>zcT (zda h) (zae h) 3 (zav h) 3 W
 go_enter func118,ntmps118;go_wp2_with ((first | (go_at_call 168;with_reducible refine (zbY h _).tq ?_) | (go_at_call 169;with_reducible refine (zcw h _).tq ?_) | (go_at_call 117;with_reducible refine (c2 _).tq ?_) | (go_at_call 173;with_reducible refine (zjY h _).tq ?_) | (go_at_call 171;with_reducible refine (c4 _).tq ?_)));go_ret;refine ⟨zam ?_,rfl⟩
 first | rfl | (simp only [nats];rfl)
theorem zof (h:Nat) (W:World) (h0:(cutN h 13 3)=4):TW 118 #[.int .u32 (h:Nat)] W (.int .u32 0):=by
 have c2:∀ W,TW 117 #[.int .u32 h,.int .u64 15,.int .u64 13] W (.int .u32 4):=fun W=>by
  have h:=zar h 15 13 W (by omega) (by omega);rw [h0] at h;exact h
 go_enter func118,ntmps118;go_wp2_with ((first | (go_at_call 168;with_reducible refine (zbY h _).tq ?_) | (go_at_call 169;with_reducible refine (zcw h _).tq ?_) | (go_at_call 117;with_reducible refine (c2 _).tq ?_)));go_ret;exact ⟨rfl,rfl⟩
theorem zwK (h:Nat) (W:World) (h0:(cutN h 13 3)=5):TW 118 #[.int .u32 (h:Nat)] W (.int .u32 0):=by
 have c2:∀ W,TW 117 #[.int .u32 h,.int .u64 15,.int .u64 13] W (.int .u32 5):=fun W=>by
  have h:=zar h 15 13 W (by omega) (by omega);rw [h0] at h;exact h
 go_enter func118,ntmps118;go_wp2_with ((first | (go_at_call 168;with_reducible refine (zbY h _).tq ?_) | (go_at_call 169;with_reducible refine (zcw h _).tq ?_) | (go_at_call 117;with_reducible refine (c2 _).tq ?_)));go_ret;exact ⟨rfl,rfl⟩
theorem ztJ (h:Nat) (W:World) (h0:(cutN h 13 3)=6):TW 118 #[.int .u32 (h:Nat)] W (.int .u32 (zcz (zc3 h) (zav h) (zae h) 2 35)):=by
 have c2:∀ W,TW 117 #[.int .u32 h,.int .u64 15,.int .u64 13] W (.int .u32 6):=fun W=>by
  have h:=zar h 15 13 W (by omega) (by omega);rw [h0] at h;exact h
 have c4:∀ W,TW 174 #[.int .u32 (zc3 h),.int .u32 (zav h),.int .u32 (zae h),.int .u32 2,.int .u32 35] W (.int .u32 (zcz (zc3 h) (zav h) (zae h) 2 35)):=fun W=>zhb (zc3 h) (zav h) (zae h) 2 35 W
 go_enter func118,ntmps118;go_wp2_with ((first | (go_at_call 168;with_reducible refine (zbY h _).tq ?_) | (go_at_call 169;with_reducible refine (zcw h _).tq ?_) | (go_at_call 117;with_reducible refine (c2 _).tq ?_) | (go_at_call 172;with_reducible refine (ziC h _).tq ?_) | (go_at_call 174;with_reducible refine (c4 _).tq ?_)));go_ret;refine ⟨zam ?_,rfl⟩
 first | rfl | (simp only [nats];rfl)
theorem zow (h:Nat) (W:World) (h0:(cutN h 13 3)=7):TW 118 #[.int .u32 (h:Nat)] W (.int .u32 (zcz (zda h) (zav h) (zae h) 3 35)):=by
 have c2:∀ W,TW 117 #[.int .u32 h,.int .u64 15,.int .u64 13] W (.int .u32 7):=fun W=>by
  have h:=zar h 15 13 W (by omega) (by omega);rw [h0] at h;exact h
 have c4:∀ W,TW 174 #[.int .u32 (zda h),.int .u32 (zav h),.int .u32 (zae h),.int .u32 3,.int .u32 35] W (.int .u32 (zcz (zda h) (zav h) (zae h) 3 35)):=fun W=>zhb (zda h) (zav h) (zae h) 3 35 W
 go_enter func118,ntmps118;go_wp2_with ((first | (go_at_call 168;with_reducible refine (zbY h _).tq ?_) | (go_at_call 169;with_reducible refine (zcw h _).tq ?_) | (go_at_call 117;with_reducible refine (c2 _).tq ?_) | (go_at_call 173;with_reducible refine (zjY h _).tq ?_) | (go_at_call 174;with_reducible refine (c4 _).tq ?_)));go_ret;refine ⟨zam ?_,rfl⟩
 first | rfl | (simp only [nats];rfl)
theorem zqj (h:Nat) (W:World):TW 118 #[.int .u32 (h:Nat)] W (.int .u32 ((zb9 h:Nat):Int)):=by
 have l0:=zbk h 13 3;have b0:(cutN h 13 3)=0∨(cutN h 13 3)=1∨(cutN h 13 3)=2∨(cutN h 13 3)=3∨(cutN h 13 3)=4∨(cutN h 13 3)=5∨(cutN h 13 3)=6∨(cutN h 13 3)=7:=by omega
 rcases b0 with h0 | h0 | h0 | h0 | h0 | h0 | h0 | h0
 ·by_cases h1:(zcS h)=0
  ·rw [show zb9 h=0 from by unfold zb9;rw [beqT h0,cond_true,beqT h1,cond_true]]
   exact ztP h W h0 h1
  ·rw [show zb9 h=(zaA (zcS h) 2 0 (zav h) 19) from by unfold zb9;rw [beqT h0,cond_true,beqF h1,cond_false]]
   exact zq3 h W h0 h1
 ·rw [show zb9 h=0 from by unfold zb9;rw [beqF (show (cutN h 13 3)≠0 by omega),cond_false,beqF (show (cutN h 13 3)≠2 by omega),cond_false,beqF (show (cutN h 13 3)≠3 by omega),cond_false,beqF (show (cutN h 13 3)≠6 by omega),cond_false,beqF (show (cutN h 13 3)≠7 by omega),cond_false]]
  exact zzE h W h0
 ·rw [show zb9 h=(zaA (zc3 h) (zae h) 2 (zav h) 3) from by unfold zb9;rw [beqF (show (cutN h 13 3)≠0 by omega),cond_false,beqT h0,cond_true]]
  exact zym h W h0
 ·rw [show zb9 h=(zaA (zda h) (zae h) 3 (zav h) 3) from by unfold zb9;rw [beqF (show (cutN h 13 3)≠0 by omega),cond_false,beqF (show (cutN h 13 3)≠2 by omega),cond_false,beqT h0,cond_true]]
  exact zz1 h W h0
 ·rw [show zb9 h=0 from by unfold zb9;rw [beqF (show (cutN h 13 3)≠0 by omega),cond_false,beqF (show (cutN h 13 3)≠2 by omega),cond_false,beqF (show (cutN h 13 3)≠3 by omega),cond_false,beqF (show (cutN h 13 3)≠6 by omega),cond_false,beqF (show (cutN h 13 3)≠7 by omega),cond_false]]
  exact zof h W h0
 ·rw [show zb9 h=0 from by unfold zb9;rw [beqF (show (cutN h 13 3)≠0 by omega),cond_false,beqF (show (cutN h 13 3)≠2 by omega),cond_false,beqF (show (cutN h 13 3)≠3 by omega),cond_false,beqF (show (cutN h 13 3)≠6 by omega),cond_false,beqF (show (cutN h 13 3)≠7 by omega),cond_false]]
  exact zwK h W h0
 ·rw [show zb9 h=(zcz (zc3 h) (zav h) (zae h) 2 35) from by unfold zb9;rw [beqF (show (cutN h 13 3)≠0 by omega),cond_false,beqF (show (cutN h 13 3)≠2 by omega),cond_false,beqF (show (cutN h 13 3)≠3 by omega),cond_false,beqT h0,cond_true]]
  exact ztJ h W h0
 ·rw [show zb9 h=(zcz (zda h) (zav h) (zae h) 3 35) from by unfold zb9;rw [beqF (show (cutN h 13 3)≠0 by omega),cond_false,beqF (show (cutN h 13 3)≠2 by omega),cond_false,beqF (show (cutN h 13 3)≠3 by omega),cond_false,beqF (show (cutN h 13 3)≠6 by omega),cond_false,beqT h0,cond_true]]
  exact zow h W h0
def zdN (h:Nat):Nat:=(bif Nat.beq (za2 h) 0 then 0 else (bif Nat.beq (zah h) 2 then (zaA (zeR h) 2 0 2 19) else (zgl (za2 h) (zah h))))
theorem zAw (h:Nat) (W:World) (h0:(za2 h)=0):TW 177 #[.int .u32 (h:Nat)] W (.int .u32 0):=by
 have p0:(((za2 h):Int)==0)=true:=by rw [beq_iff_eq];rw [h0];rfl
 have q0:(((za2 h):Int) != 0)=false:=by rw [bne,p0];rfl
 go_enter func177,ntmps177;go_wp2_with ((first | (go_at_call 176;with_reducible refine (zcZ h _).tq ?_) | (go_at_call 175;with_reducible refine (zbs h _).tq ?_)));go_ret;exact ⟨rfl,rfl⟩
theorem zv2 (h:Nat) (W:World) (h0:(za2 h)≠0) (h1:(zah h)=2):TW 177 #[.int .u32 (h:Nat)] W (.int .u32 (zaA (zeR h) 2 0 2 19)):=by
 have c3:∀ W,TW 171 #[.int .u32 (zeR h),.int .u32 2,.int .u32 0,.int .u32 2,.int .u32 19] W (.int .u32 (zaA (zeR h) 2 0 2 19)):=fun W=>zcT (zeR h) 2 0 2 19 W
 have p0:(((za2 h):Int)==0)=false:=by rw [beq_eq_false_iff_ne];omega
 have q0:(((za2 h):Int) != 0)=true:=by rw [bne,p0];rfl
 have p1:(((zah h):Int)==2)=true:=by rw [beq_iff_eq];rw [h1];rfl
 have q1:(((zah h):Int) != 2)=false:=by rw [bne,p1];rfl
 go_enter func177,ntmps177;go_wp2_with ((first | (go_at_call 176;with_reducible refine (zcZ h _).tq ?_) | (go_at_call 175;with_reducible refine (zbs h _).tq ?_) | (go_at_call 215;with_reducible refine (zoL h _).tq ?_) | (go_at_call 171;with_reducible refine (c3 _).tq ?_)));go_ret;refine ⟨zam ?_,rfl⟩
 first | rfl | (simp only [nats];rfl)
theorem zAe (h:Nat) (W:World) (h0:(za2 h)≠0) (h1:(zah h)≠2):TW 177 #[.int .u32 (h:Nat)] W (.int .u32 (zgl (za2 h) (zah h))):=by
 have p0:(((za2 h):Int)==0)=false:=by rw [beq_eq_false_iff_ne];omega
 have q0:(((za2 h):Int) != 0)=true:=by rw [bne,p0];rfl
 have p1:(((zah h):Int)==2)=false:=by rw [beq_eq_false_iff_ne];omega
 have q1:(((zah h):Int) != 2)=true:=by rw [bne,p1];rfl
 go_enter func177,ntmps177;go_wp2_with ((first | (go_at_call 176;with_reducible refine (zcZ h _).tq ?_) | (go_at_call 175;with_reducible refine (zbs h _).tq ?_) | (go_at_call 216;with_reducible refine (zyP (za2 h) (zah h) _).tq ?_)));go_ret;refine ⟨zam ?_,rfl⟩
 first | rfl | (simp only [nats];rfl)
theorem zmI (h:Nat) (W:World):TW 177 #[.int .u32 (h:Nat)] W (.int .u32 ((zdN h:Nat):Int)):=by
 by_cases h0:(za2 h)=0
 ·rw [show zdN h=0 from by unfold zdN;rw [beqT h0,cond_true]]
  exact zAw h W h0
 ·by_cases h1:(zah h)=2
  ·rw [show zdN h=(zaA (zeR h) 2 0 2 19) from by unfold zdN;rw [beqF h0,cond_false,beqT h1,cond_true]]
   exact zv2 h W h0 h1
  ·rw [show zdN h=(zgl (za2 h) (zah h)) from by unfold zdN;rw [beqF h0,cond_false,beqF h1,cond_false]]
   exact zAe h W h0 h1
def zcm (h:Nat):Nat:=(bif Nat.beq (cutN h 12 1) 0 then (bif Nat.beq (cutN h 5 2) 0 then (zbi 32 (zav h) (zae h) 0 (zae h) 51) else (bif Nat.beq (cutN h 5 2) 1 then (zbi 0 (zav h) (zae h) 4 (zae h) 51) else (bif Nat.beq (cutN h 5 2) 2 then (zbi 0 (zav h) (zae h) 6 (zae h) 51) else (bif Nat.beq (cutN h 5 2) 3 then (zbi 0 (zav h) (zae h) 7 (zae h) 51) else 0)))) else (bif Nat.beq (cutN h 12 1) 1 then (bif Nat.beq (cutN h 5 2) 0 then (zbi 32 (zav h) (zae h) 0 (zae h) 59) else (bif Nat.beq (cutN h 5 2) 1 then (zbi 0 (zav h) (zae h) 0 (zae h) 59) else 0)) else 0))
theorem zpq (h:Nat) (W:World) (h0:(cutN h 12 1)=0) (h1:(cutN h 5 2)=0):TW 217 #[.int .u32 (h:Nat)] W (.int .u32 (zbi 32 (zav h) (zae h) 0 (zae h) 51)):=by
 have c2:∀ W,TW 117 #[.int .u32 h,.int .u64 12,.int .u64 12] W (.int .u32 0):=fun W=>by
  have h:=zar h 12 12 W (by omega) (by omega);rw [h0] at h;exact h
 have c3:∀ W,TW 117 #[.int .u32 h,.int .u64 6,.int .u64 5] W (.int .u32 0):=fun W=>by
  have h:=zar h 6 5 W (by omega) (by omega);rw [h1] at h;exact h
 have c4:∀ W,TW 218 #[.int .u32 32,.int .u32 (zav h),.int .u32 (zae h),.int .u32 0,.int .u32 (zae h),.int .u32 51] W (.int .u32 (zbi 32 (zav h) (zae h) 0 (zae h) 51)):=fun W=>zen 32 (zav h) (zae h) 0 (zae h) 51 W
 go_enter func217,ntmps217;go_wp2_with ((first | (go_at_call 168;with_reducible refine (zbY h _).tq ?_) | (go_at_call 169;with_reducible refine (zcw h _).tq ?_) | (go_at_call 117;with_reducible refine (c2 _).tq ?_) | (go_at_call 117;with_reducible refine (c3 _).tq ?_) | (go_at_call 218;with_reducible refine (c4 _).tq ?_)));go_ret;refine ⟨zam ?_,rfl⟩
 first | rfl | (simp only [nats];rfl)
theorem zst (h:Nat) (W:World) (h0:(cutN h 12 1)=0) (h1:(cutN h 5 2)=1):TW 217 #[.int .u32 (h:Nat)] W (.int .u32 (zbi 0 (zav h) (zae h) 4 (zae h) 51)):=by
 have c2:∀ W,TW 117 #[.int .u32 h,.int .u64 12,.int .u64 12] W (.int .u32 0):=fun W=>by
  have h:=zar h 12 12 W (by omega) (by omega);rw [h0] at h;exact h
 have c3:∀ W,TW 117 #[.int .u32 h,.int .u64 6,.int .u64 5] W (.int .u32 1):=fun W=>by
  have h:=zar h 6 5 W (by omega) (by omega);rw [h1] at h;exact h
 have c4:∀ W,TW 218 #[.int .u32 0,.int .u32 (zav h),.int .u32 (zae h),.int .u32 4,.int .u32 (zae h),.int .u32 51] W (.int .u32 (zbi 0 (zav h) (zae h) 4 (zae h) 51)):=fun W=>zen 0 (zav h) (zae h) 4 (zae h) 51 W
 go_enter func217,ntmps217;go_wp2_with ((first | (go_at_call 168;with_reducible refine (zbY h _).tq ?_) | (go_at_call 169;with_reducible refine (zcw h _).tq ?_) | (go_at_call 117;with_reducible refine (c2 _).tq ?_) | (go_at_call 117;with_reducible refine (c3 _).tq ?_) | (go_at_call 218;with_reducible refine (c4 _).tq ?_)));go_ret;refine ⟨zam ?_,rfl⟩
 first | rfl | (simp only [nats];rfl)
theorem zqG (h:Nat) (W:World) (h0:(cutN h 12 1)=0) (h1:(cutN h 5 2)=2):TW 217 #[.int .u32 (h:Nat)] W (.int .u32 (zbi 0 (zav h) (zae h) 6 (zae h) 51)):=by
 have c2:∀ W,TW 117 #[.int .u32 h,.int .u64 12,.int .u64 12] W (.int .u32 0):=fun W=>by
  have h:=zar h 12 12 W (by omega) (by omega);rw [h0] at h;exact h
 have c3:∀ W,TW 117 #[.int .u32 h,.int .u64 6,.int .u64 5] W (.int .u32 2):=fun W=>by
  have h:=zar h 6 5 W (by omega) (by omega);rw [h1] at h;exact h
 have c4:∀ W,TW 218 #[.int .u32 0,.int .u32 (zav h),.int .u32 (zae h),.int .u32 6,.int .u32 (zae h),.int .u32 51] W (.int .u32 (zbi 0 (zav h) (zae h) 6 (zae h) 51)):=fun W=>zen 0 (zav h) (zae h) 6 (zae h) 51 W
 go_enter func217,ntmps217;go_wp2_with ((first | (go_at_call 168;with_reducible refine (zbY h _).tq ?_) | (go_at_call 169;with_reducible refine (zcw h _).tq ?_) | (go_at_call 117;with_reducible refine (c2 _).tq ?_) | (go_at_call 117;with_reducible refine (c3 _).tq ?_) | (go_at_call 218;with_reducible refine (c4 _).tq ?_)));go_ret;refine ⟨zam ?_,rfl⟩
 first | rfl | (simp only [nats];rfl)
theorem znf (h:Nat) (W:World) (h0:(cutN h 12 1)=0) (h1:(cutN h 5 2)=3):TW 217 #[.int .u32 (h:Nat)] W (.int .u32 (zbi 0 (zav h) (zae h) 7 (zae h) 51)):=by
 have c2:∀ W,TW 117 #[.int .u32 h,.int .u64 12,.int .u64 12] W (.int .u32 0):=fun W=>by
  have h:=zar h 12 12 W (by omega) (by omega);rw [h0] at h;exact h
 have c3:∀ W,TW 117 #[.int .u32 h,.int .u64 6,.int .u64 5] W (.int .u32 3):=fun W=>by
  have h:=zar h 6 5 W (by omega) (by omega);rw [h1] at h;exact h
 have c4:∀ W,TW 218 #[.int .u32 0,.int .u32 (zav h),.int .u32 (zae h),.int .u32 7,.int .u32 (zae h),.int .u32 51] W (.int .u32 (zbi 0 (zav h) (zae h) 7 (zae h) 51)):=fun W=>zen 0 (zav h) (zae h) 7 (zae h) 51 W
 go_enter func217,ntmps217;go_wp2_with ((first | (go_at_call 168;with_reducible refine (zbY h _).tq ?_) | (go_at_call 169;with_reducible refine (zcw h _).tq ?_) | (go_at_call 117;with_reducible refine (c2 _).tq ?_) | (go_at_call 117;with_reducible refine (c3 _).tq ?_) | (go_at_call 218;with_reducible refine (c4 _).tq ?_)));go_ret;refine ⟨zam ?_,rfl⟩
 first | rfl | (simp only [nats];rfl)
theorem zvB (h:Nat) (W:World) (h0:(cutN h 12 1)=1) (h1:(cutN h 5 2)=0):TW 217 #[.int .u32 (h:Nat)] W (.int .u32 (zbi 32 (zav h) (zae h) 0 (zae h) 59)):=by
 have c2:∀ W,TW 117 #[.int .u32 h,.int .u64 12,.int .u64 12] W (.int .u32 1):=fun W=>by
  have h:=zar h 12 12 W (by omega) (by omega);rw [h0] at h;exact h
 have c3:∀ W,TW 117 #[.int .u32 h,.int .u64 6,.int .u64 5] W (.int .u32 0):=fun W=>by
  have h:=zar h 6 5 W (by omega) (by omega);rw [h1] at h;exact h
 have c4:∀ W,TW 218 #[.int .u32 32,.int .u32 (zav h),.int .u32 (zae h),.int .u32 0,.int .u32 (zae h),.int .u32 59] W (.int .u32 (zbi 32 (zav h) (zae h) 0 (zae h) 59)):=fun W=>zen 32 (zav h) (zae h) 0 (zae h) 59 W
 go_enter func217,ntmps217;go_wp2_with ((first | (go_at_call 168;with_reducible refine (zbY h _).tq ?_) | (go_at_call 169;with_reducible refine (zcw h _).tq ?_) | (go_at_call 117;with_reducible refine (c2 _).tq ?_) | (go_at_call 117;with_reducible refine (c3 _).tq ?_) | (go_at_call 218;with_reducible refine (c4 _).tq ?_)));go_ret;refine ⟨zam ?_,rfl⟩
 first | rfl | (simp only [nats];rfl)
theorem zqC (h:Nat) (W:World) (h0:(cutN h 12 1)=1) (h1:(cutN h 5 2)=1):TW 217 #[.int .u32 (h:Nat)] W (.int .u32 (zbi 0 (zav h) (zae h) 0 (zae h) 59)):=by
 have c2:∀ W,TW 117 #[.int .u32 h,.int .u64 12,.int .u64 12] W (.int .u32 1):=fun W=>by
  have h:=zar h 12 12 W (by omega) (by omega);rw [h0] at h;exact h
 have c3:∀ W,TW 117 #[.int .u32 h,.int .u64 6,.int .u64 5] W (.int .u32 1):=fun W=>by
  have h:=zar h 6 5 W (by omega) (by omega);rw [h1] at h;exact h
 have c4:∀ W,TW 218 #[.int .u32 0,.int .u32 (zav h),.int .u32 (zae h),.int .u32 0,.int .u32 (zae h),.int .u32 59] W (.int .u32 (zbi 0 (zav h) (zae h) 0 (zae h) 59)):=fun W=>zen 0 (zav h) (zae h) 0 (zae h) 59 W
 go_enter func217,ntmps217;go_wp2_with ((first | (go_at_call 168;with_reducible refine (zbY h _).tq ?_) | (go_at_call 169;with_reducible refine (zcw h _).tq ?_) | (go_at_call 117;with_reducible refine (c2 _).tq ?_) | (go_at_call 117;with_reducible refine (c3 _).tq ?_) | (go_at_call 218;with_reducible refine (c4 _).tq ?_)));go_ret;refine ⟨zam ?_,rfl⟩
 first | rfl | (simp only [nats];rfl)
theorem zsu (h:Nat) (W:World) (h0:(cutN h 12 1)=1) (h1:(cutN h 5 2)=2):TW 217 #[.int .u32 (h:Nat)] W (.int .u32 0):=by
 have c2:∀ W,TW 117 #[.int .u32 h,.int .u64 12,.int .u64 12] W (.int .u32 1):=fun W=>by
  have h:=zar h 12 12 W (by omega) (by omega);rw [h0] at h;exact h
 have c3:∀ W,TW 117 #[.int .u32 h,.int .u64 6,.int .u64 5] W (.int .u32 2):=fun W=>by
  have h:=zar h 6 5 W (by omega) (by omega);rw [h1] at h;exact h
 go_enter func217,ntmps217;go_wp2_with ((first | (go_at_call 168;with_reducible refine (zbY h _).tq ?_) | (go_at_call 169;with_reducible refine (zcw h _).tq ?_) | (go_at_call 117;with_reducible refine (c2 _).tq ?_) | (go_at_call 117;with_reducible refine (c3 _).tq ?_)));go_ret;exact ⟨rfl,rfl⟩
theorem zxX (h:Nat) (W:World) (h0:(cutN h 12 1)=1) (h1:(cutN h 5 2)=3):TW 217 #[.int .u32 (h:Nat)] W (.int .u32 0):=by
 have c2:∀ W,TW 117 #[.int .u32 h,.int .u64 12,.int .u64 12] W (.int .u32 1):=fun W=>by
  have h:=zar h 12 12 W (by omega) (by omega);rw [h0] at h;exact h
 have c3:∀ W,TW 117 #[.int .u32 h,.int .u64 6,.int .u64 5] W (.int .u32 3):=fun W=>by
  have h:=zar h 6 5 W (by omega) (by omega);rw [h1] at h;exact h
 go_enter func217,ntmps217;go_wp2_with ((first | (go_at_call 168;with_reducible refine (zbY h _).tq ?_) | (go_at_call 169;with_reducible refine (zcw h _).tq ?_) | (go_at_call 117;with_reducible refine (c2 _).tq ?_) | (go_at_call 117;with_reducible refine (c3 _).tq ?_)));go_ret;exact ⟨rfl,rfl⟩
theorem zzv (h:Nat) (W:World):TW 217 #[.int .u32 (h:Nat)] W (.int .u32 ((zcm h:Nat):Int)):=by
 have l0:=zbk h 12 1;have b0:(cutN h 12 1)=0∨(cutN h 12 1)=1:=by omega
 rcases b0 with h0 | h0
 ·have l1:=zbk h 5 2
  have b1:(cutN h 5 2)=0∨(cutN h 5 2)=1∨(cutN h 5 2)=2∨(cutN h 5 2)=3:=by omega
  rcases b1 with h1 | h1 | h1 | h1
  ·rw [show zcm h=(zbi 32 (zav h) (zae h) 0 (zae h) 51) from by unfold zcm;rw [beqT h0,cond_true,beqT h1,cond_true]]
   exact zpq h W h0 h1
  ·rw [show zcm h=(zbi 0 (zav h) (zae h) 4 (zae h) 51) from by unfold zcm;rw [beqT h0,cond_true,beqF (show (cutN h 5 2)≠0 by omega),cond_false,beqT h1,cond_true]]
   exact zst h W h0 h1
  ·rw [show zcm h=(zbi 0 (zav h) (zae h) 6 (zae h) 51) from by unfold zcm;rw [beqT h0,cond_true,beqF (show (cutN h 5 2)≠0 by omega),cond_false,beqF (show (cutN h 5 2)≠1 by omega),cond_false,beqT h1,cond_true]]
   exact zqG h W h0 h1
  ·rw [show zcm h=(zbi 0 (zav h) (zae h) 7 (zae h) 51) from by unfold zcm;rw [beqT h0,cond_true,beqF (show (cutN h 5 2)≠0 by omega),cond_false,beqF (show (cutN h 5 2)≠1 by omega),cond_false,beqF (show (cutN h 5 2)≠2 by omega),cond_false,beqT h1,cond_true]]
   exact znf h W h0 h1
 ·have l1:=zbk h 5 2
  have b1:(cutN h 5 2)=0∨(cutN h 5 2)=1∨(cutN h 5 2)=2∨(cutN h 5 2)=3:=by omega
  rcases b1 with h1 | h1 | h1 | h1
  ·rw [show zcm h=(zbi 32 (zav h) (zae h) 0 (zae h) 59) from by unfold zcm;rw [beqF (show (cutN h 12 1)≠0 by omega),cond_false,beqT h0,cond_true,beqT h1,cond_true]]
   exact zvB h W h0 h1
  ·rw [show zcm h=(zbi 0 (zav h) (zae h) 0 (zae h) 59) from by unfold zcm;rw [beqF (show (cutN h 12 1)≠0 by omega),cond_false,beqT h0,cond_true,beqF (show (cutN h 5 2)≠0 by omega),cond_false,beqT h1,cond_true]]
   exact zqC h W h0 h1
  ·rw [show zcm h=0 from by unfold zcm;rw [beqF (show (cutN h 12 1)≠0 by omega),cond_false,beqT h0,cond_true,beqF (show (cutN h 5 2)≠0 by omega),cond_false,beqF (show (cutN h 5 2)≠1 by omega),cond_false]]
   exact zsu h W h0 h1
  ·rw [show zcm h=0 from by unfold zcm;rw [beqF (show (cutN h 12 1)≠0 by omega),cond_false,beqT h0,cond_true,beqF (show (cutN h 5 2)≠0 by omega),cond_false,beqF (show (cutN h 5 2)≠1 by omega),cond_false]]
   exact zxX h W h0 h1
def zdq (h:Nat):Nat:=(bif Nat.beq (cutN h 10 2) 0 then (zaA (zcc h) (zae h) 5 (zae h) 19) else (bif Nat.beq (cutN h 10 2) 1 then (zaA (((zcc h)+1024) % 4294967296) (zae h) 5 (zae h) 19) else (bif Nat.beq (cutN h 10 2) 2 then (zaA (za2 h) (zae h) 7 (zae h) 19) else (bif Nat.beq (cutN h 10 2) 3 then (zcm h) else 0))))
theorem zv6 (h:Nat) (W:World) (h0:(cutN h 10 2)=0):TW 178 #[.int .u32 (h:Nat)] W (.int .u32 (zaA (zcc h) (zae h) 5 (zae h) 19)):=by
 have c1:∀ W,TW 117 #[.int .u32 h,.int .u64 11,.int .u64 10] W (.int .u32 0):=fun W=>by
  have h:=zar h 11 10 W (by omega) (by omega);rw [h0] at h;exact h
 have c3:∀ W,TW 171 #[.int .u32 (zcc h),.int .u32 (zae h),.int .u32 5,.int .u32 (zae h),.int .u32 19] W (.int .u32 (zaA (zcc h) (zae h) 5 (zae h) 19)):=fun W=>zcT (zcc h) (zae h) 5 (zae h) 19 W
 go_enter func178,ntmps178;go_wp2_with ((first | (go_at_call 168;with_reducible refine (zbY h _).tq ?_) | (go_at_call 117;with_reducible refine (c1 _).tq ?_) | (go_at_call 184;with_reducible refine (zhe h _).tq ?_) | (go_at_call 171;with_reducible refine (c3 _).tq ?_)));go_ret;refine ⟨zam ?_,rfl⟩
 first | rfl | (simp only [nats];rfl)
theorem zvJ (h:Nat) (W:World) (h0:(cutN h 10 2)=1):TW 178 #[.int .u32 (h:Nat)] W (.int .u32 (zaA (((zcc h)+1024) % 4294967296) (zae h) 5 (zae h) 19)):=by
 have c1:∀ W,TW 117 #[.int .u32 h,.int .u64 11,.int .u64 10] W (.int .u32 1):=fun W=>by
  have h:=zar h 11 10 W (by omega) (by omega);rw [h0] at h;exact h
 have c3:∀ W,TW 171 #[.int .u32 (((zcc h)+1024) % 4294967296),.int .u32 (zae h),.int .u32 5,.int .u32 (zae h),.int .u32 19] W (.int .u32 (zaA (((zcc h)+1024) % 4294967296) (zae h) 5 (zae h) 19)):=fun W=>by
  have h:=zcT (((zcc h)+1024) % 4294967296) (zae h) 5 (zae h) 19 W;simp only [nats];exact h
 go_enter func178,ntmps178;go_wp2_with ((first | (go_at_call 168;with_reducible refine (zbY h _).tq ?_) | (go_at_call 117;with_reducible refine (c1 _).tq ?_) | (go_at_call 184;with_reducible refine (zhe h _).tq ?_) | (go_at_call 171;with_reducible refine (c3 _).tq ?_)));go_ret;refine ⟨zam ?_,rfl⟩
 first | rfl | (simp only [nats];rfl)
theorem zuf (h:Nat) (W:World) (h0:(cutN h 10 2)=2):TW 178 #[.int .u32 (h:Nat)] W (.int .u32 (zaA (za2 h) (zae h) 7 (zae h) 19)):=by
 have c1:∀ W,TW 117 #[.int .u32 h,.int .u64 11,.int .u64 10] W (.int .u32 2):=fun W=>by
  have h:=zar h 11 10 W (by omega) (by omega);rw [h0] at h;exact h
 have c3:∀ W,TW 171 #[.int .u32 (za2 h),.int .u32 (zae h),.int .u32 7,.int .u32 (zae h),.int .u32 19] W (.int .u32 (zaA (za2 h) (zae h) 7 (zae h) 19)):=fun W=>zcT (za2 h) (zae h) 7 (zae h) 19 W
 go_enter func178,ntmps178;go_wp2_with ((first | (go_at_call 168;with_reducible refine (zbY h _).tq ?_) | (go_at_call 117;with_reducible refine (c1 _).tq ?_) | (go_at_call 176;with_reducible refine (zcZ h _).tq ?_) | (go_at_call 171;with_reducible refine (c3 _).tq ?_)));go_ret;refine ⟨zam ?_,rfl⟩
 first | rfl | (simp only [nats];rfl)
theorem zwq (h:Nat) (W:World) (h0:(cutN h 10 2)=3):TW 178 #[.int .u32 (h:Nat)] W (.int .u32 (zcm h)):=by
 have c1:∀ W,TW 117 #[.int .u32 h,.int .u64 11,.int .u64 10] W (.int .u32 3):=fun W=>by
  have h:=zar h 11 10 W (by omega) (by omega);rw [h0] at h;exact h
 go_enter func178,ntmps178;go_wp2_with ((first | (go_at_call 168;with_reducible refine (zbY h _).tq ?_) | (go_at_call 117;with_reducible refine (c1 _).tq ?_) | (go_at_call 217;with_reducible refine (zzv h _).tq ?_)));go_ret;refine ⟨zam ?_,rfl⟩
 first | rfl | (simp only [nats];rfl)
theorem zne (h:Nat) (W:World):TW 178 #[.int .u32 (h:Nat)] W (.int .u32 ((zdq h:Nat):Int)):=by
 have l0:=zbk h 10 2;have b0:(cutN h 10 2)=0∨(cutN h 10 2)=1∨(cutN h 10 2)=2∨(cutN h 10 2)=3:=by omega
 rcases b0 with h0 | h0 | h0 | h0
 ·rw [show zdq h=(zaA (zcc h) (zae h) 5 (zae h) 19) from by unfold zdq;rw [beqT h0,cond_true]]
  exact zv6 h W h0
 ·rw [show zdq h=(zaA (((zcc h)+1024) % 4294967296) (zae h) 5 (zae h) 19) from by unfold zdq;rw [beqF (show (cutN h 10 2)≠0 by omega),cond_false,beqT h0,cond_true]]
  exact zvJ h W h0
 ·rw [show zdq h=(zaA (za2 h) (zae h) 7 (zae h) 19) from by unfold zdq;rw [beqF (show (cutN h 10 2)≠0 by omega),cond_false,beqF (show (cutN h 10 2)≠1 by omega),cond_false,beqT h0,cond_true]]
  exact zuf h W h0
 ·rw [show zdq h=(zcm h) from by unfold zdq;rw [beqF (show (cutN h 10 2)≠0 by omega),cond_false,beqF (show (cutN h 10 2)≠1 by omega),cond_false,beqF (show (cutN h 10 2)≠2 by omega),cond_false,beqT h0,cond_true]]
  exact zwq h W h0
def zb6 (h:Nat):Nat:=(bif Nat.beq (cutN h 13 3) 0 then (zaA (za2 h) (zah h) 0 (zah h) 19) else (bif Nat.beq (cutN h 13 3) 1 then (bif Nat.beq (zah h) 0 then 0 else (zaA (za2 h) (zah h) 0 (zah h) 27)) else (bif Nat.beq (cutN h 13 3) 2 then (zaA (za2 h) 0 0 (zah h) 19) else (bif Nat.beq (cutN h 13 3) 3 then (zdN h) else (bif Nat.beq (cutN h 13 3) 4 then (zdq h) else (bif Nat.beq (cutN h 13 3) 5 then (zgb (zeN h) 0) else (bif Nat.beq (cutN h 13 3) 6 then (zeg (zc4 h) 0 (zae h) 0) else (bif Nat.beq (cutN h 13 3) 7 then (zeg (zc4 h) 0 (zae h) 1) else 0))))))))
theorem zvN (h:Nat) (W:World) (h0:(cutN h 13 3)=0):TW 119 #[.int .u32 (h:Nat)] W (.int .u32 (zaA (za2 h) (zah h) 0 (zah h) 19)):=by
 have c2:∀ W,TW 117 #[.int .u32 h,.int .u64 15,.int .u64 13] W (.int .u32 0):=fun W=>by
  have h:=zar h 15 13 W (by omega) (by omega);rw [h0] at h;exact h
 have c3:∀ W,TW 171 #[.int .u32 (za2 h),.int .u32 (zah h),.int .u32 0,.int .u32 (zah h),.int .u32 19] W (.int .u32 (zaA (za2 h) (zah h) 0 (zah h) 19)):=fun W=>zcT (za2 h) (zah h) 0 (zah h) 19 W
 go_enter func119,ntmps119;go_wp2_with ((first | (go_at_call 175;with_reducible refine (zbs h _).tq ?_) | (go_at_call 176;with_reducible refine (zcZ h _).tq ?_) | (go_at_call 117;with_reducible refine (c2 _).tq ?_) | (go_at_call 171;with_reducible refine (c3 _).tq ?_)));go_ret;refine ⟨zam ?_,rfl⟩
 first | rfl | (simp only [nats];rfl)
theorem ztx (h:Nat) (W:World) (h0:(cutN h 13 3)=1) (h1:(zah h)=0):TW 119 #[.int .u32 (h:Nat)] W (.int .u32 0):=by
 have c2:∀ W,TW 117 #[.int .u32 h,.int .u64 15,.int .u64 13] W (.int .u32 1):=fun W=>by
  have h:=zar h 15 13 W (by omega) (by omega);rw [h0] at h;exact h
 have p1:(((zah h):Int)==0)=true:=by rw [beq_iff_eq];rw [h1];rfl
 have q1:(((zah h):Int) != 0)=false:=by rw [bne,p1];rfl
 go_enter func119,ntmps119;go_wp2_with ((first | (go_at_call 175;with_reducible refine (zbs h _).tq ?_) | (go_at_call 176;with_reducible refine (zcZ h _).tq ?_) | (go_at_call 117;with_reducible refine (c2 _).tq ?_)));go_ret;exact ⟨rfl,rfl⟩
theorem zux (h:Nat) (W:World) (h0:(cutN h 13 3)=1) (h1:(zah h)≠0):TW 119 #[.int .u32 (h:Nat)] W (.int .u32 (zaA (za2 h) (zah h) 0 (zah h) 27)):=by
 have c2:∀ W,TW 117 #[.int .u32 h,.int .u64 15,.int .u64 13] W (.int .u32 1):=fun W=>by
  have h:=zar h 15 13 W (by omega) (by omega);rw [h0] at h;exact h
 have c3:∀ W,TW 171 #[.int .u32 (za2 h),.int .u32 (zah h),.int .u32 0,.int .u32 (zah h),.int .u32 27] W (.int .u32 (zaA (za2 h) (zah h) 0 (zah h) 27)):=fun W=>zcT (za2 h) (zah h) 0 (zah h) 27 W
 have p1:(((zah h):Int)==0)=false:=by rw [beq_eq_false_iff_ne];omega
 have q1:(((zah h):Int) != 0)=true:=by rw [bne,p1];rfl
 go_enter func119,ntmps119;go_wp2_with ((first | (go_at_call 175;with_reducible refine (zbs h _).tq ?_) | (go_at_call 176;with_reducible refine (zcZ h _).tq ?_) | (go_at_call 117;with_reducible refine (c2 _).tq ?_) | (go_at_call 171;with_reducible refine (c3 _).tq ?_)));go_ret;refine ⟨zam ?_,rfl⟩
 first | rfl | (simp only [nats];rfl)
theorem zqh (h:Nat) (W:World) (h0:(cutN h 13 3)=2):TW 119 #[.int .u32 (h:Nat)] W (.int .u32 (zaA (za2 h) 0 0 (zah h) 19)):=by
 have c2:∀ W,TW 117 #[.int .u32 h,.int .u64 15,.int .u64 13] W (.int .u32 2):=fun W=>by
  have h:=zar h 15 13 W (by omega) (by omega);rw [h0] at h;exact h
 have c3:∀ W,TW 171 #[.int .u32 (za2 h),.int .u32 0,.int .u32 0,.int .u32 (zah h),.int .u32 19] W (.int .u32 (zaA (za2 h) 0 0 (zah h) 19)):=fun W=>zcT (za2 h) 0 0 (zah h) 19 W
 go_enter func119,ntmps119;go_wp2_with ((first | (go_at_call 175;with_reducible refine (zbs h _).tq ?_) | (go_at_call 176;with_reducible refine (zcZ h _).tq ?_) | (go_at_call 117;with_reducible refine (c2 _).tq ?_) | (go_at_call 171;with_reducible refine (c3 _).tq ?_)));go_ret;refine ⟨zam ?_,rfl⟩
 first | rfl | (simp only [nats];rfl)
theorem zAh (h:Nat) (W:World) (h0:(cutN h 13 3)=3):TW 119 #[.int .u32 (h:Nat)] W (.int .u32 (zdN h)):=by
 have c2:∀ W,TW 117 #[.int .u32 h,.int .u64 15,.int .u64 13] W (.int .u32 3):=fun W=>by
  have h:=zar h 15 13 W (by omega) (by omega);rw [h0] at h;exact h
 go_enter func119,ntmps119;go_wp2_with ((first | (go_at_call 175;with_reducible refine (zbs h _).tq ?_) | (go_at_call 176;with_reducible refine (zcZ h _).tq ?_) | (go_at_call 117;with_reducible refine (c2 _).tq ?_) | (go_at_call 177;with_reducible refine (zmI h _).tq ?_)));go_ret;refine ⟨zam ?_,rfl⟩
 first | rfl | (simp only [nats];rfl)
theorem zxW (h:Nat) (W:World) (h0:(cutN h 13 3)=4):TW 119 #[.int .u32 (h:Nat)] W (.int .u32 (zdq h)):=by
 have c2:∀ W,TW 117 #[.int .u32 h,.int .u64 15,.int .u64 13] W (.int .u32 4):=fun W=>by
  have h:=zar h 15 13 W (by omega) (by omega);rw [h0] at h;exact h
 go_enter func119,ntmps119;go_wp2_with ((first | (go_at_call 175;with_reducible refine (zbs h _).tq ?_) | (go_at_call 176;with_reducible refine (zcZ h _).tq ?_) | (go_at_call 117;with_reducible refine (c2 _).tq ?_) | (go_at_call 178;with_reducible refine (zne h _).tq ?_)));go_ret;refine ⟨zam ?_,rfl⟩
 first | rfl | (simp only [nats];rfl)
theorem zr5 (h:Nat) (W:World) (h0:(cutN h 13 3)=5):TW 119 #[.int .u32 (h:Nat)] W (.int .u32 (zgb (zeN h) 0)):=by
 have c2:∀ W,TW 117 #[.int .u32 h,.int .u64 15,.int .u64 13] W (.int .u32 5):=fun W=>by
  have h:=zar h 15 13 W (by omega) (by omega);rw [h0] at h;exact h
 have c4:∀ W,TW 179 #[.int .u32 (zeN h),.int .u32 0] W (.int .u32 (zgb (zeN h) 0)):=fun W=>znJ (zeN h) 0 W
 go_enter func119,ntmps119;go_wp2_with ((first | (go_at_call 175;with_reducible refine (zbs h _).tq ?_) | (go_at_call 176;with_reducible refine (zcZ h _).tq ?_) | (go_at_call 117;with_reducible refine (c2 _).tq ?_) | (go_at_call 180;with_reducible refine (zrY h _).tq ?_) | (go_at_call 179;with_reducible refine (c4 _).tq ?_)));go_ret;refine ⟨zam ?_,rfl⟩
 first | rfl | (simp only [nats];rfl)
theorem zoD (h:Nat) (W:World) (h0:(cutN h 13 3)=6):TW 119 #[.int .u32 (h:Nat)] W (.int .u32 (zeg (zc4 h) 0 (zae h) 0)):=by
 have c2:∀ W,TW 117 #[.int .u32 h,.int .u64 15,.int .u64 13] W (.int .u32 6):=fun W=>by
  have h:=zar h 15 13 W (by omega) (by omega);rw [h0] at h;exact h
 have c5:∀ W,TW 181 #[.int .u32 (zc4 h),.int .u32 0,.int .u32 (zae h),.int .u32 0] W (.int .u32 (zeg (zc4 h) 0 (zae h) 0)):=fun W=>zkn (zc4 h) 0 (zae h) 0 W
 go_enter func119,ntmps119;go_wp2_with ((first | (go_at_call 175;with_reducible refine (zbs h _).tq ?_) | (go_at_call 176;with_reducible refine (zcZ h _).tq ?_) | (go_at_call 117;with_reducible refine (c2 _).tq ?_) | (go_at_call 182;with_reducible refine (zkc h _).tq ?_) | (go_at_call 168;with_reducible refine (zbY h _).tq ?_) | (go_at_call 181;with_reducible refine (c5 _).tq ?_)));go_ret;refine ⟨zam ?_,rfl⟩
 first | rfl | (simp only [nats];rfl)
theorem znA (h:Nat) (W:World) (h0:(cutN h 13 3)=7):TW 119 #[.int .u32 (h:Nat)] W (.int .u32 (zeg (zc4 h) 0 (zae h) 1)):=by
 have c2:∀ W,TW 117 #[.int .u32 h,.int .u64 15,.int .u64 13] W (.int .u32 7):=fun W=>by
  have h:=zar h 15 13 W (by omega) (by omega);rw [h0] at h;exact h
 have c5:∀ W,TW 181 #[.int .u32 (zc4 h),.int .u32 0,.int .u32 (zae h),.int .u32 1] W (.int .u32 (zeg (zc4 h) 0 (zae h) 1)):=fun W=>zkn (zc4 h) 0 (zae h) 1 W
 go_enter func119,ntmps119;go_wp2_with ((first | (go_at_call 175;with_reducible refine (zbs h _).tq ?_) | (go_at_call 176;with_reducible refine (zcZ h _).tq ?_) | (go_at_call 117;with_reducible refine (c2 _).tq ?_) | (go_at_call 182;with_reducible refine (zkc h _).tq ?_) | (go_at_call 168;with_reducible refine (zbY h _).tq ?_) | (go_at_call 181;with_reducible refine (c5 _).tq ?_)));go_ret;refine ⟨zam ?_,rfl⟩
 first | rfl | (simp only [nats];rfl)
theorem zpV (h:Nat) (W:World):TW 119 #[.int .u32 (h:Nat)] W (.int .u32 ((zb6 h:Nat):Int)):=by
 have l0:=zbk h 13 3;have b0:(cutN h 13 3)=0∨(cutN h 13 3)=1∨(cutN h 13 3)=2∨(cutN h 13 3)=3∨(cutN h 13 3)=4∨(cutN h 13 3)=5∨(cutN h 13 3)=6∨(cutN h 13 3)=7:=by omega
 rcases b0 with h0 | h0 | h0 | h0 | h0 | h0 | h0 | h0
 ·rw [show zb6 h=(zaA (za2 h) (zah h) 0 (zah h) 19) from by unfold zb6;rw [beqT h0,cond_true]]
  exact zvN h W h0
 ·by_cases h1:(zah h)=0
  ·rw [show zb6 h=0 from by unfold zb6;rw [beqF (show (cutN h 13 3)≠0 by omega),cond_false,beqT h0,cond_true,beqT h1,cond_true]]
   exact ztx h W h0 h1
  ·rw [show zb6 h=(zaA (za2 h) (zah h) 0 (zah h) 27) from by unfold zb6;rw [beqF (show (cutN h 13 3)≠0 by omega),cond_false,beqT h0,cond_true,beqF h1,cond_false]]
   exact zux h W h0 h1
 ·rw [show zb6 h=(zaA (za2 h) 0 0 (zah h) 19) from by unfold zb6;rw [beqF (show (cutN h 13 3)≠0 by omega),cond_false,beqF (show (cutN h 13 3)≠1 by omega),cond_false,beqT h0,cond_true]]
  exact zqh h W h0
 ·rw [show zb6 h=(zdN h) from by unfold zb6;rw [beqF (show (cutN h 13 3)≠0 by omega),cond_false,beqF (show (cutN h 13 3)≠1 by omega),cond_false,beqF (show (cutN h 13 3)≠2 by omega),cond_false,beqT h0,cond_true]]
  exact zAh h W h0
 ·rw [show zb6 h=(zdq h) from by unfold zb6;rw [beqF (show (cutN h 13 3)≠0 by omega),cond_false,beqF (show (cutN h 13 3)≠1 by omega),cond_false,beqF (show (cutN h 13 3)≠2 by omega),cond_false,beqF (show (cutN h 13 3)≠3 by omega),cond_false,beqT h0,cond_true]]
  exact zxW h W h0
 ·rw [show zb6 h=(zgb (zeN h) 0) from by unfold zb6;rw [beqF (show (cutN h 13 3)≠0 by omega),cond_false,beqF (show (cutN h 13 3)≠1 by omega),cond_false,beqF (show (cutN h 13 3)≠2 by omega),cond_false,beqF (show (cutN h 13 3)≠3 by omega),cond_false,beqF (show (cutN h 13 3)≠4 by omega),cond_false,beqT h0,cond_true]]
  exact zr5 h W h0
 ·rw [show zb6 h=(zeg (zc4 h) 0 (zae h) 0) from by unfold zb6;rw [beqF (show (cutN h 13 3)≠0 by omega),cond_false,beqF (show (cutN h 13 3)≠1 by omega),cond_false,beqF (show (cutN h 13 3)≠2 by omega),cond_false,beqF (show (cutN h 13 3)≠3 by omega),cond_false,beqF (show (cutN h 13 3)≠4 by omega),cond_false,beqF (show (cutN h 13 3)≠5 by omega),cond_false,beqT h0,cond_true]]
  exact zoD h W h0
 ·rw [show zb6 h=(zeg (zc4 h) 0 (zae h) 1) from by unfold zb6;rw [beqF (show (cutN h 13 3)≠0 by omega),cond_false,beqF (show (cutN h 13 3)≠1 by omega),cond_false,beqF (show (cutN h 13 3)≠2 by omega),cond_false,beqF (show (cutN h 13 3)≠3 by omega),cond_false,beqF (show (cutN h 13 3)≠4 by omega),cond_false,beqF (show (cutN h 13 3)≠5 by omega),cond_false,beqF (show (cutN h 13 3)≠6 by omega),cond_false,beqT h0,cond_true]]
  exact znA h W h0
def zcF (h:Nat):Nat:=(bif Nat.beq (cutN h 12 1) 0 then (bif Nat.beq (zaV h) 0 then (bif Nat.beq (zah h) 0 then 0 else (zaA 0 (zah h) 0 0 103)) else (zbi 0 (zaV h) 0 0 (zah h) 51)) else (bif Nat.beq (cutN h 12 1) 1 then (bif Nat.beq (zaV h) 0 then (bif Nat.beq (zah h) 0 then 1048691 else (zaA 0 (zah h) 0 1 103)) else (zbi 0 (zaV h) (zah h) 0 (zah h) 51)) else 0))
theorem zv4 (h:Nat) (W:World) (h0:(cutN h 12 1)=0) (h1:(zaV h)=0) (h2:(zah h)=0):TW 187 #[.int .u32 (h:Nat)] W (.int .u32 0):=by
 have c2:∀ W,TW 117 #[.int .u32 h,.int .u64 12,.int .u64 12] W (.int .u32 0):=fun W=>by
  have h:=zar h 12 12 W (by omega) (by omega);rw [h0] at h;exact h
 have p1:(((zaV h):Int)==0)=true:=by rw [beq_iff_eq];rw [h1];rfl
 have q1:(((zaV h):Int) != 0)=false:=by rw [bne,p1];rfl
 have p2:(((zah h):Int)==0)=true:=by rw [beq_iff_eq];rw [h2];rfl
 have q2:(((zah h):Int) != 0)=false:=by rw [bne,p2];rfl
 go_enter func187,ntmps187;go_wp2_with ((first | (go_at_call 175;with_reducible refine (zbs h _).tq ?_) | (go_at_call 183;with_reducible refine (zcN h _).tq ?_) | (go_at_call 117;with_reducible refine (c2 _).tq ?_)));go_ret;exact ⟨rfl,rfl⟩
theorem zwo (h:Nat) (W:World) (h0:(cutN h 12 1)=0) (h1:(zaV h)=0) (h2:(zah h)≠0):TW 187 #[.int .u32 (h:Nat)] W (.int .u32 (zaA 0 (zah h) 0 0 103)):=by
 have c2:∀ W,TW 117 #[.int .u32 h,.int .u64 12,.int .u64 12] W (.int .u32 0):=fun W=>by
  have h:=zar h 12 12 W (by omega) (by omega);rw [h0] at h;exact h
 have c3:∀ W,TW 171 #[.int .u32 0,.int .u32 (zah h),.int .u32 0,.int .u32 0,.int .u32 103] W (.int .u32 (zaA 0 (zah h) 0 0 103)):=fun W=>zcT 0 (zah h) 0 0 103 W
 have p1:(((zaV h):Int)==0)=true:=by rw [beq_iff_eq];rw [h1];rfl
 have q1:(((zaV h):Int) != 0)=false:=by rw [bne,p1];rfl
 have p2:(((zah h):Int)==0)=false:=by rw [beq_eq_false_iff_ne];omega
 have q2:(((zah h):Int) != 0)=true:=by rw [bne,p2];rfl
 go_enter func187,ntmps187;go_wp2_with ((first | (go_at_call 175;with_reducible refine (zbs h _).tq ?_) | (go_at_call 183;with_reducible refine (zcN h _).tq ?_) | (go_at_call 117;with_reducible refine (c2 _).tq ?_) | (go_at_call 171;with_reducible refine (c3 _).tq ?_)));go_ret;refine ⟨zam ?_,rfl⟩
 first | rfl | (simp only [nats];rfl)
theorem zqY (h:Nat) (W:World) (h0:(cutN h 12 1)=0) (h1:(zaV h)≠0):TW 187 #[.int .u32 (h:Nat)] W (.int .u32 (zbi 0 (zaV h) 0 0 (zah h) 51)):=by
 have c2:∀ W,TW 117 #[.int .u32 h,.int .u64 12,.int .u64 12] W (.int .u32 0):=fun W=>by
  have h:=zar h 12 12 W (by omega) (by omega);rw [h0] at h;exact h
 have c3:∀ W,TW 218 #[.int .u32 0,.int .u32 (zaV h),.int .u32 0,.int .u32 0,.int .u32 (zah h),.int .u32 51] W (.int .u32 (zbi 0 (zaV h) 0 0 (zah h) 51)):=fun W=>zen 0 (zaV h) 0 0 (zah h) 51 W
 have p1:(((zaV h):Int)==0)=false:=by rw [beq_eq_false_iff_ne];omega
 have q1:(((zaV h):Int) != 0)=true:=by rw [bne,p1];rfl
 go_enter func187,ntmps187;go_wp2_with ((first | (go_at_call 175;with_reducible refine (zbs h _).tq ?_) | (go_at_call 183;with_reducible refine (zcN h _).tq ?_) | (go_at_call 117;with_reducible refine (c2 _).tq ?_) | (go_at_call 218;with_reducible refine (c3 _).tq ?_)));go_ret;refine ⟨zam ?_,rfl⟩
 first | rfl | (simp only [nats];rfl)
theorem zp2 (h:Nat) (W:World) (h0:(cutN h 12 1)=1) (h1:(zaV h)=0) (h2:(zah h)=0):TW 187 #[.int .u32 (h:Nat)] W (.int .u32 ((1048691:Nat):Int)):=by
 have c2:∀ W,TW 117 #[.int .u32 h,.int .u64 12,.int .u64 12] W (.int .u32 1):=fun W=>by
  have h:=zar h 12 12 W (by omega) (by omega);rw [h0] at h;exact h
 have p1:(((zaV h):Int)==0)=true:=by rw [beq_iff_eq];rw [h1];rfl
 have q1:(((zaV h):Int) != 0)=false:=by rw [bne,p1];rfl
 have p2:(((zah h):Int)==0)=true:=by rw [beq_iff_eq];rw [h2];rfl
 have q2:(((zah h):Int) != 0)=false:=by rw [bne,p2];rfl
 go_enter func187,ntmps187;go_wp2_with ((first | (go_at_call 175;with_reducible refine (zbs h _).tq ?_) | (go_at_call 183;with_reducible refine (zcN h _).tq ?_) | (go_at_call 117;with_reducible refine (c2 _).tq ?_)));go_ret;refine ⟨zam ?_,rfl⟩
 first | rfl | (simp only [nats];rfl)
theorem zsS (h:Nat) (W:World) (h0:(cutN h 12 1)=1) (h1:(zaV h)=0) (h2:(zah h)≠0):TW 187 #[.int .u32 (h:Nat)] W (.int .u32 (zaA 0 (zah h) 0 1 103)):=by
 have c2:∀ W,TW 117 #[.int .u32 h,.int .u64 12,.int .u64 12] W (.int .u32 1):=fun W=>by
  have h:=zar h 12 12 W (by omega) (by omega);rw [h0] at h;exact h
 have c3:∀ W,TW 171 #[.int .u32 0,.int .u32 (zah h),.int .u32 0,.int .u32 1,.int .u32 103] W (.int .u32 (zaA 0 (zah h) 0 1 103)):=fun W=>zcT 0 (zah h) 0 1 103 W
 have p1:(((zaV h):Int)==0)=true:=by rw [beq_iff_eq];rw [h1];rfl
 have q1:(((zaV h):Int) != 0)=false:=by rw [bne,p1];rfl
 have p2:(((zah h):Int)==0)=false:=by rw [beq_eq_false_iff_ne];omega
 have q2:(((zah h):Int) != 0)=true:=by rw [bne,p2];rfl
 go_enter func187,ntmps187;go_wp2_with ((first | (go_at_call 175;with_reducible refine (zbs h _).tq ?_) | (go_at_call 183;with_reducible refine (zcN h _).tq ?_) | (go_at_call 117;with_reducible refine (c2 _).tq ?_) | (go_at_call 171;with_reducible refine (c3 _).tq ?_)));go_ret;refine ⟨zam ?_,rfl⟩
 first | rfl | (simp only [nats];rfl)
theorem zqe (h:Nat) (W:World) (h0:(cutN h 12 1)=1) (h1:(zaV h)≠0):TW 187 #[.int .u32 (h:Nat)] W (.int .u32 (zbi 0 (zaV h) (zah h) 0 (zah h) 51)):=by
 have c2:∀ W,TW 117 #[.int .u32 h,.int .u64 12,.int .u64 12] W (.int .u32 1):=fun W=>by
  have h:=zar h 12 12 W (by omega) (by omega);rw [h0] at h;exact h
 have c3:∀ W,TW 218 #[.int .u32 0,.int .u32 (zaV h),.int .u32 (zah h),.int .u32 0,.int .u32 (zah h),.int .u32 51] W (.int .u32 (zbi 0 (zaV h) (zah h) 0 (zah h) 51)):=fun W=>zen 0 (zaV h) (zah h) 0 (zah h) 51 W
 have p1:(((zaV h):Int)==0)=false:=by rw [beq_eq_false_iff_ne];omega
 have q1:(((zaV h):Int) != 0)=true:=by rw [bne,p1];rfl
 go_enter func187,ntmps187;go_wp2_with ((first | (go_at_call 175;with_reducible refine (zbs h _).tq ?_) | (go_at_call 183;with_reducible refine (zcN h _).tq ?_) | (go_at_call 117;with_reducible refine (c2 _).tq ?_) | (go_at_call 218;with_reducible refine (c3 _).tq ?_)));go_ret;refine ⟨zam ?_,rfl⟩
 first | rfl | (simp only [nats];rfl)
theorem zzO (h:Nat) (W:World):TW 187 #[.int .u32 (h:Nat)] W (.int .u32 ((zcF h:Nat):Int)):=by
 have l0:=zbk h 12 1;have b0:(cutN h 12 1)=0∨(cutN h 12 1)=1:=by omega
 rcases b0 with h0 | h0
 ·by_cases h1:(zaV h)=0
  ·by_cases h2:(zah h)=0
   ·rw [show zcF h=0 from by unfold zcF;rw [beqT h0,cond_true,beqT h1,cond_true,beqT h2,cond_true]]
    exact zv4 h W h0 h1 h2
   ·rw [show zcF h=(zaA 0 (zah h) 0 0 103) from by unfold zcF;rw [beqT h0,cond_true,beqT h1,cond_true,beqF h2,cond_false]]
    exact zwo h W h0 h1 h2
  ·rw [show zcF h=(zbi 0 (zaV h) 0 0 (zah h) 51) from by unfold zcF;rw [beqT h0,cond_true,beqF h1,cond_false]]
   exact zqY h W h0 h1
 ·by_cases h1:(zaV h)=0
  ·by_cases h2:(zah h)=0
   ·rw [show zcF h=1048691 from by unfold zcF;rw [beqF (show (cutN h 12 1)≠0 by omega),cond_false,beqT h0,cond_true,beqT h1,cond_true,beqT h2,cond_true]]
    exact zp2 h W h0 h1 h2
   ·rw [show zcF h=(zaA 0 (zah h) 0 1 103) from by unfold zcF;rw [beqF (show (cutN h 12 1)≠0 by omega),cond_false,beqT h0,cond_true,beqT h1,cond_true,beqF h2,cond_false]]
    exact zsS h W h0 h1 h2
  ·rw [show zcF h=(zbi 0 (zaV h) (zah h) 0 (zah h) 51) from by unfold zcF;rw [beqF (show (cutN h 12 1)≠0 by omega),cond_false,beqT h0,cond_true,beqF h1,cond_false]]
   exact zqe h W h0 h1
def zbS (h:Nat):Nat:=(bif Nat.beq (cutN h 13 3) 0 then (zaA (zcc h) (zah h) 1 (zah h) 19) else (bif Nat.beq (cutN h 13 3) 2 then (bif Nat.beq (zah h) 0 then 0 else (zaA (zeF h) 2 2 (zah h) 3)) else (bif Nat.beq (cutN h 13 3) 3 then (bif Nat.beq (zah h) 0 then 0 else (zaA (zeC h) 2 3 (zah h) 3)) else (bif Nat.beq (cutN h 13 3) 4 then (zcF h) else (bif Nat.beq (cutN h 13 3) 6 then (zcz (zeO h) (zaV h) 2 2 35) else (bif Nat.beq (cutN h 13 3) 7 then (zcz (zeE h) (zaV h) 2 3 35) else 0))))))
theorem zsm (h:Nat) (W:World) (h0:(cutN h 13 3)=0):TW 120 #[.int .u32 (h:Nat)] W (.int .u32 (zaA (zcc h) (zah h) 1 (zah h) 19)):=by
 have c2:∀ W,TW 117 #[.int .u32 h,.int .u64 15,.int .u64 13] W (.int .u32 0):=fun W=>by
  have h:=zar h 15 13 W (by omega) (by omega);rw [h0] at h;exact h
 have c4:∀ W,TW 171 #[.int .u32 (zcc h),.int .u32 (zah h),.int .u32 1,.int .u32 (zah h),.int .u32 19] W (.int .u32 (zaA (zcc h) (zah h) 1 (zah h) 19)):=fun W=>zcT (zcc h) (zah h) 1 (zah h) 19 W
 go_enter func120,ntmps120;go_wp2_with ((first | (go_at_call 175;with_reducible refine (zbs h _).tq ?_) | (go_at_call 183;with_reducible refine (zcN h _).tq ?_) | (go_at_call 117;with_reducible refine (c2 _).tq ?_) | (go_at_call 184;with_reducible refine (zhe h _).tq ?_) | (go_at_call 171;with_reducible refine (c4 _).tq ?_)));go_ret;refine ⟨zam ?_,rfl⟩
 first | rfl | (simp only [nats];rfl)
theorem zyx (h:Nat) (W:World) (h0:(cutN h 13 3)=1):TW 120 #[.int .u32 (h:Nat)] W (.int .u32 0):=by
 have c2:∀ W,TW 117 #[.int .u32 h,.int .u64 15,.int .u64 13] W (.int .u32 1):=fun W=>by
  have h:=zar h 15 13 W (by omega) (by omega);rw [h0] at h;exact h
 go_enter func120,ntmps120;go_wp2_with ((first | (go_at_call 175;with_reducible refine (zbs h _).tq ?_) | (go_at_call 183;with_reducible refine (zcN h _).tq ?_) | (go_at_call 117;with_reducible refine (c2 _).tq ?_)));go_ret;exact ⟨rfl,rfl⟩
theorem zwG (h:Nat) (W:World) (h0:(cutN h 13 3)=2) (h1:(zah h)=0):TW 120 #[.int .u32 (h:Nat)] W (.int .u32 0):=by
 have c2:∀ W,TW 117 #[.int .u32 h,.int .u64 15,.int .u64 13] W (.int .u32 2):=fun W=>by
  have h:=zar h 15 13 W (by omega) (by omega);rw [h0] at h;exact h
 have p1:(((zah h):Int)==0)=true:=by rw [beq_iff_eq];rw [h1];rfl
 have q1:(((zah h):Int) != 0)=false:=by rw [bne,p1];rfl
 go_enter func120,ntmps120;go_wp2_with ((first | (go_at_call 175;with_reducible refine (zbs h _).tq ?_) | (go_at_call 183;with_reducible refine (zcN h _).tq ?_) | (go_at_call 117;with_reducible refine (c2 _).tq ?_)));go_ret;exact ⟨rfl,rfl⟩
theorem zmA (h:Nat) (W:World) (h0:(cutN h 13 3)=2) (h1:(zah h)≠0):TW 120 #[.int .u32 (h:Nat)] W (.int .u32 (zaA (zeF h) 2 2 (zah h) 3)):=by
 have c2:∀ W,TW 117 #[.int .u32 h,.int .u64 15,.int .u64 13] W (.int .u32 2):=fun W=>by
  have h:=zar h 15 13 W (by omega) (by omega);rw [h0] at h;exact h
 have c4:∀ W,TW 171 #[.int .u32 (zeF h),.int .u32 2,.int .u32 2,.int .u32 (zah h),.int .u32 3] W (.int .u32 (zaA (zeF h) 2 2 (zah h) 3)):=fun W=>zcT (zeF h) 2 2 (zah h) 3 W
 have p1:(((zah h):Int)==0)=false:=by rw [beq_eq_false_iff_ne];omega
 have q1:(((zah h):Int) != 0)=true:=by rw [bne,p1];rfl
 go_enter func120,ntmps120;go_wp2_with ((first | (go_at_call 175;with_reducible refine (zbs h _).tq ?_) | (go_at_call 183;with_reducible refine (zcN h _).tq ?_) | (go_at_call 117;with_reducible refine (c2 _).tq ?_) | (go_at_call 185;with_reducible refine (zyW h _).tq ?_) | (go_at_call 171;with_reducible refine (c4 _).tq ?_)));go_ret;refine ⟨zam ?_,rfl⟩
 first | rfl | (simp only [nats];rfl)
theorem zny (h:Nat) (W:World) (h0:(cutN h 13 3)=3) (h1:(zah h)=0):TW 120 #[.int .u32 (h:Nat)] W (.int .u32 0):=by
 have c2:∀ W,TW 117 #[.int .u32 h,.int .u64 15,.int .u64 13] W (.int .u32 3):=fun W=>by
  have h:=zar h 15 13 W (by omega) (by omega);rw [h0] at h;exact h
 have p1:(((zah h):Int)==0)=true:=by rw [beq_iff_eq];rw [h1];rfl
 have q1:(((zah h):Int) != 0)=false:=by rw [bne,p1];rfl
 go_enter func120,ntmps120;go_wp2_with ((first | (go_at_call 175;with_reducible refine (zbs h _).tq ?_) | (go_at_call 183;with_reducible refine (zcN h _).tq ?_) | (go_at_call 117;with_reducible refine (c2 _).tq ?_)));go_ret;exact ⟨rfl,rfl⟩
theorem zta (h:Nat) (W:World) (h0:(cutN h 13 3)=3) (h1:(zah h)≠0):TW 120 #[.int .u32 (h:Nat)] W (.int .u32 (zaA (zeC h) 2 3 (zah h) 3)):=by
 have c2:∀ W,TW 117 #[.int .u32 h,.int .u64 15,.int .u64 13] W (.int .u32 3):=fun W=>by
  have h:=zar h 15 13 W (by omega) (by omega);rw [h0] at h;exact h
 have c4:∀ W,TW 171 #[.int .u32 (zeC h),.int .u32 2,.int .u32 3,.int .u32 (zah h),.int .u32 3] W (.int .u32 (zaA (zeC h) 2 3 (zah h) 3)):=fun W=>zcT (zeC h) 2 3 (zah h) 3 W
 have p1:(((zah h):Int)==0)=false:=by rw [beq_eq_false_iff_ne];omega
 have q1:(((zah h):Int) != 0)=true:=by rw [bne,p1];rfl
 go_enter func120,ntmps120;go_wp2_with ((first | (go_at_call 175;with_reducible refine (zbs h _).tq ?_) | (go_at_call 183;with_reducible refine (zcN h _).tq ?_) | (go_at_call 117;with_reducible refine (c2 _).tq ?_) | (go_at_call 186;with_reducible refine (ztX h _).tq ?_) | (go_at_call 171;with_reducible refine (c4 _).tq ?_)));go_ret;refine ⟨zam ?_,rfl⟩
 first | rfl | (simp only [nats];rfl)
theorem zzZ (h:Nat) (W:World) (h0:(cutN h 13 3)=4):TW 120 #[.int .u32 (h:Nat)] W (.int .u32 (zcF h)):=by
 have c2:∀ W,TW 117 #[.int .u32 h,.int .u64 15,.int .u64 13] W (.int .u32 4):=fun W=>by
  have h:=zar h 15 13 W (by omega) (by omega);rw [h0] at h;exact h
 go_enter func120,ntmps120;go_wp2_with ((first | (go_at_call 175;with_reducible refine (zbs h _).tq ?_) | (go_at_call 183;with_reducible refine (zcN h _).tq ?_) | (go_at_call 117;with_reducible refine (c2 _).tq ?_) | (go_at_call 187;with_reducible refine (zzO h _).tq ?_)));go_ret;refine ⟨zam ?_,rfl⟩
 first | rfl | (simp only [nats];rfl)
theorem zuS (h:Nat) (W:World) (h0:(cutN h 13 3)=5):TW 120 #[.int .u32 (h:Nat)] W (.int .u32 0):=by
 have c2:∀ W,TW 117 #[.int .u32 h,.int .u64 15,.int .u64 13] W (.int .u32 5):=fun W=>by
  have h:=zar h 15 13 W (by omega) (by omega);rw [h0] at h;exact h
 go_enter func120,ntmps120;go_wp2_with ((first | (go_at_call 175;with_reducible refine (zbs h _).tq ?_) | (go_at_call 183;with_reducible refine (zcN h _).tq ?_) | (go_at_call 117;with_reducible refine (c2 _).tq ?_)));go_ret;exact ⟨rfl,rfl⟩
theorem zyf (h:Nat) (W:World) (h0:(cutN h 13 3)=6):TW 120 #[.int .u32 (h:Nat)] W (.int .u32 (zcz (zeO h) (zaV h) 2 2 35)):=by
 have c2:∀ W,TW 117 #[.int .u32 h,.int .u64 15,.int .u64 13] W (.int .u32 6):=fun W=>by
  have h:=zar h 15 13 W (by omega) (by omega);rw [h0] at h;exact h
 have c4:∀ W,TW 174 #[.int .u32 (zeO h),.int .u32 (zaV h),.int .u32 2,.int .u32 2,.int .u32 35] W (.int .u32 (zcz (zeO h) (zaV h) 2 2 35)):=fun W=>zhb (zeO h) (zaV h) 2 2 35 W
 go_enter func120,ntmps120;go_wp2_with ((first | (go_at_call 175;with_reducible refine (zbs h _).tq ?_) | (go_at_call 183;with_reducible refine (zcN h _).tq ?_) | (go_at_call 117;with_reducible refine (c2 _).tq ?_) | (go_at_call 188;with_reducible refine (zxB h _).tq ?_) | (go_at_call 174;with_reducible refine (c4 _).tq ?_)));go_ret;refine ⟨zam ?_,rfl⟩
 first | rfl | (simp only [nats];rfl)
theorem zq1 (h:Nat) (W:World) (h0:(cutN h 13 3)=7):TW 120 #[.int .u32 (h:Nat)] W (.int .u32 (zcz (zeE h) (zaV h) 2 3 35)):=by
 have c2:∀ W,TW 117 #[.int .u32 h,.int .u64 15,.int .u64 13] W (.int .u32 7):=fun W=>by
  have h:=zar h 15 13 W (by omega) (by omega);rw [h0] at h;exact h
 have c4:∀ W,TW 174 #[.int .u32 (zeE h),.int .u32 (zaV h),.int .u32 2,.int .u32 3,.int .u32 35] W (.int .u32 (zcz (zeE h) (zaV h) 2 3 35)):=fun W=>zhb (zeE h) (zaV h) 2 3 35 W
 go_enter func120,ntmps120;go_wp2_with ((first | (go_at_call 175;with_reducible refine (zbs h _).tq ?_) | (go_at_call 183;with_reducible refine (zcN h _).tq ?_) | (go_at_call 117;with_reducible refine (c2 _).tq ?_) | (go_at_call 189;with_reducible refine (zoy h _).tq ?_) | (go_at_call 174;with_reducible refine (c4 _).tq ?_)));go_ret;refine ⟨zam ?_,rfl⟩
 first | rfl | (simp only [nats];rfl)
theorem zpQ (h:Nat) (W:World):TW 120 #[.int .u32 (h:Nat)] W (.int .u32 ((zbS h:Nat):Int)):=by
 have l0:=zbk h 13 3;have b0:(cutN h 13 3)=0∨(cutN h 13 3)=1∨(cutN h 13 3)=2∨(cutN h 13 3)=3∨(cutN h 13 3)=4∨(cutN h 13 3)=5∨(cutN h 13 3)=6∨(cutN h 13 3)=7:=by omega
 rcases b0 with h0 | h0 | h0 | h0 | h0 | h0 | h0 | h0
 ·rw [show zbS h=(zaA (zcc h) (zah h) 1 (zah h) 19) from by unfold zbS;rw [beqT h0,cond_true]]
  exact zsm h W h0
 ·rw [show zbS h=0 from by unfold zbS;rw [beqF (show (cutN h 13 3)≠0 by omega),cond_false,beqF (show (cutN h 13 3)≠2 by omega),cond_false,beqF (show (cutN h 13 3)≠3 by omega),cond_false,beqF (show (cutN h 13 3)≠4 by omega),cond_false,beqF (show (cutN h 13 3)≠6 by omega),cond_false,beqF (show (cutN h 13 3)≠7 by omega),cond_false]]
  exact zyx h W h0
 ·by_cases h1:(zah h)=0
  ·rw [show zbS h=0 from by unfold zbS;rw [beqF (show (cutN h 13 3)≠0 by omega),cond_false,beqT h0,cond_true,beqT h1,cond_true]]
   exact zwG h W h0 h1
  ·rw [show zbS h=(zaA (zeF h) 2 2 (zah h) 3) from by unfold zbS;rw [beqF (show (cutN h 13 3)≠0 by omega),cond_false,beqT h0,cond_true,beqF h1,cond_false]]
   exact zmA h W h0 h1
 ·by_cases h1:(zah h)=0
  ·rw [show zbS h=0 from by unfold zbS;rw [beqF (show (cutN h 13 3)≠0 by omega),cond_false,beqF (show (cutN h 13 3)≠2 by omega),cond_false,beqT h0,cond_true,beqT h1,cond_true]]
   exact zny h W h0 h1
  ·rw [show zbS h=(zaA (zeC h) 2 3 (zah h) 3) from by unfold zbS;rw [beqF (show (cutN h 13 3)≠0 by omega),cond_false,beqF (show (cutN h 13 3)≠2 by omega),cond_false,beqT h0,cond_true,beqF h1,cond_false]]
   exact zta h W h0 h1
 ·rw [show zbS h=(zcF h) from by unfold zbS;rw [beqF (show (cutN h 13 3)≠0 by omega),cond_false,beqF (show (cutN h 13 3)≠2 by omega),cond_false,beqF (show (cutN h 13 3)≠3 by omega),cond_false,beqT h0,cond_true]]
  exact zzZ h W h0
 ·rw [show zbS h=0 from by unfold zbS;rw [beqF (show (cutN h 13 3)≠0 by omega),cond_false,beqF (show (cutN h 13 3)≠2 by omega),cond_false,beqF (show (cutN h 13 3)≠3 by omega),cond_false,beqF (show (cutN h 13 3)≠4 by omega),cond_false,beqF (show (cutN h 13 3)≠6 by omega),cond_false,beqF (show (cutN h 13 3)≠7 by omega),cond_false]]
  exact zuS h W h0
 ·rw [show zbS h=(zcz (zeO h) (zaV h) 2 2 35) from by unfold zbS;rw [beqF (show (cutN h 13 3)≠0 by omega),cond_false,beqF (show (cutN h 13 3)≠2 by omega),cond_false,beqF (show (cutN h 13 3)≠3 by omega),cond_false,beqF (show (cutN h 13 3)≠4 by omega),cond_false,beqT h0,cond_true]]
  exact zyf h W h0
 ·rw [show zbS h=(zcz (zeE h) (zaV h) 2 3 35) from by unfold zbS;rw [beqF (show (cutN h 13 3)≠0 by omega),cond_false,beqF (show (cutN h 13 3)≠2 by omega),cond_false,beqF (show (cutN h 13 3)≠3 by omega),cond_false,beqF (show (cutN h 13 3)≠4 by omega),cond_false,beqF (show (cutN h 13 3)≠6 by omega),cond_false,beqT h0,cond_true]]
  exact zq1 h W h0
def zbw (h:Nat):Nat:=(bif Nat.beq (cutN h 0 2) 0 then (zb9 h) else (bif Nat.beq (cutN h 0 2) 1 then (zb6 h) else (bif Nat.beq (cutN h 0 2) 2 then (zbS h) else 0)))
theorem zyD (h:Nat) (W:World) (h0:(cutN h 0 2)=0):TW 98 #[.int .u32 (h:Nat)] W (.int .u32 (zb9 h)):=by
 have c0:∀ W,TW 117 #[.int .u32 h,.int .u64 1,.int .u64 0] W (.int .u32 0):=fun W=>by
  have h:=zar h 1 0 W (by omega) (by omega);rw [h0] at h;exact h
 go_enter func98,ntmps98;go_wp2_with ((first | (go_at_call 117;with_reducible refine (c0 _).tq ?_) | (go_at_call 118;with_reducible refine (zqj h _).tq ?_)));go_ret;refine ⟨zam ?_,rfl⟩
 first | rfl | (simp only [nats];rfl)
theorem zqK (h:Nat) (W:World) (h0:(cutN h 0 2)=1):TW 98 #[.int .u32 (h:Nat)] W (.int .u32 (zb6 h)):=by
 have c0:∀ W,TW 117 #[.int .u32 h,.int .u64 1,.int .u64 0] W (.int .u32 1):=fun W=>by
  have h:=zar h 1 0 W (by omega) (by omega);rw [h0] at h;exact h
 go_enter func98,ntmps98;go_wp2_with ((first | (go_at_call 117;with_reducible refine (c0 _).tq ?_) | (go_at_call 119;with_reducible refine (zpV h _).tq ?_)));go_ret;refine ⟨zam ?_,rfl⟩
 first | rfl | (simp only [nats];rfl)
theorem zpc (h:Nat) (W:World) (h0:(cutN h 0 2)=2):TW 98 #[.int .u32 (h:Nat)] W (.int .u32 (zbS h)):=by
 have c0:∀ W,TW 117 #[.int .u32 h,.int .u64 1,.int .u64 0] W (.int .u32 2):=fun W=>by
  have h:=zar h 1 0 W (by omega) (by omega);rw [h0] at h;exact h
 go_enter func98,ntmps98;go_wp2_with ((first | (go_at_call 117;with_reducible refine (c0 _).tq ?_) | (go_at_call 120;with_reducible refine (zpQ h _).tq ?_)));go_ret;refine ⟨zam ?_,rfl⟩
 first | rfl | (simp only [nats];rfl)
theorem zxm (h:Nat) (W:World) (h0:(cutN h 0 2)=3):TW 98 #[.int .u32 (h:Nat)] W (.int .u32 0):=by
 have c0:∀ W,TW 117 #[.int .u32 h,.int .u64 1,.int .u64 0] W (.int .u32 3):=fun W=>by
  have h:=zar h 1 0 W (by omega) (by omega);rw [h0] at h;exact h
 go_enter func98,ntmps98;go_wp2_with (go_at_call 117;with_reducible refine (c0 _).tq ?_);go_ret;exact ⟨rfl,rfl⟩
theorem zcl (h:Nat) (W:World):TW 98 #[.int .u32 (h:Nat)] W (.int .u32 ((zbw h:Nat):Int)):=by
 have l0:=zbk h 0 2;have b0:(cutN h 0 2)=0∨(cutN h 0 2)=1∨(cutN h 0 2)=2∨(cutN h 0 2)=3:=by omega
 rcases b0 with h0 | h0 | h0 | h0
 ·rw [show zbw h=(zb9 h) from by unfold zbw;rw [beqT h0,cond_true]]
  exact zyD h W h0
 ·rw [show zbw h=(zb6 h) from by unfold zbw;rw [beqF (show (cutN h 0 2)≠0 by omega),cond_false,beqT h0,cond_true]]
  exact zqK h W h0
 ·rw [show zbw h=(zbS h) from by unfold zbw;rw [beqF (show (cutN h 0 2)≠0 by omega),cond_false,beqF (show (cutN h 0 2)≠1 by omega),cond_false,beqT h0,cond_true]]
  exact zpc h W h0
 ·rw [show zbw h=0 from by unfold zbw;rw [beqF (show (cutN h 0 2)≠0 by omega),cond_false,beqF (show (cutN h 0 2)≠1 by omega),cond_false,beqF (show (cutN h 0 2)≠2 by omega),cond_false]]
  exact zxm h W h0
end Go.Proofs.YtplcfdnfeclpmaaGreatDoor.Br
