/- MachineNumbers, part 11. -/
import Derived.Test.YtplcfdnfeclpmaaGreatDoorV10
set_option maxHeartbeats 4000000
set_option maxRecDepth 100000
open Go.Lib (hid)
open Go Go.RowKit Go.Deep Go.Joins Go.Proofs.Tryz
namespace Go.Proofs.YtplcfdnfeclpmaaGreatDoor.Br
def zbW (h:Nat):Nat:=(bif Nat.beq (cutN h 13 3) 0 then (bif Nat.beq (zcI h) 0 then 0 else (zaA (zcI h) 2 0 (zau h) 19)) else (bif Nat.beq (cutN h 13 3) 2 then (zaA (zcV h) (zaf h) 2 (zau h) 3) else (bif Nat.beq (cutN h 13 3) 3 then (zaA (zcU h) (zaf h) 3 (zau h) 3) else (bif Nat.beq (cutN h 13 3) 6 then (zcq (zcV h) (zau h) (zaf h) 2 35) else (bif Nat.beq (cutN h 13 3) 7 then (zcq (zcU h) (zau h) (zaf h) 3 35) else 0)))))
theorem zxN (h:Nat) (W:World) (h0:(cutN h 13 3)=0) (h1:(zcI h)=0):TW 118 #[.int .u32 (h:Nat)] W (.int .u32 0):=by
 have c2:∀ W,TW 117 #[.int .u32 h,.int .u64 15,.int .u64 13] W (.int .u32 0):=fun W=>by
  have h:=zaq h 15 13 W (by omega) (by omega);rw [h0] at h;exact h
 have p1:(((zcI h):Int)==0)=true:=by rw [beq_iff_eq];rw [h1];rfl
 have q1:(((zcI h):Int) != 0)=false:=by rw [bne,p1];rfl
 go_enter func118,ntmps118;go_wp2_with ((first | (go_at_call 168;with_reducible refine (zbS h _).tq ?_) | (go_at_call 169;with_reducible refine (zcu h _).tq ?_) | (go_at_call 117;with_reducible refine (c2 _).tq ?_) | (go_at_call 170;with_reducible refine (ziU h _).tq ?_)));go_ret;exact ⟨rfl,rfl⟩
theorem zlY (h:Nat) (W:World) (h0:(cutN h 13 3)=0) (h1:(zcI h)≠0):TW 118 #[.int .u32 (h:Nat)] W (.int .u32 (zaA (zcI h) 2 0 (zau h) 19)):=by
 have c2:∀ W,TW 117 #[.int .u32 h,.int .u64 15,.int .u64 13] W (.int .u32 0):=fun W=>by
  have h:=zaq h 15 13 W (by omega) (by omega);rw [h0] at h;exact h
 have c4:∀ W,TW 171 #[.int .u32 (zcI h),.int .u32 2,.int .u32 0,.int .u32 (zau h),.int .u32 19] W (.int .u32 (zaA (zcI h) 2 0 (zau h) 19)):=fun W=>zcO (zcI h) 2 0 (zau h) 19 W
 have p1:(((zcI h):Int)==0)=false:=by rw [beq_eq_false_iff_ne];omega
 have q1:(((zcI h):Int) != 0)=true:=by rw [bne,p1];rfl
 go_enter func118,ntmps118;go_wp2_with ((first | (go_at_call 168;with_reducible refine (zbS h _).tq ?_) | (go_at_call 169;with_reducible refine (zcu h _).tq ?_) | (go_at_call 117;with_reducible refine (c2 _).tq ?_) | (go_at_call 170;with_reducible refine (ziU h _).tq ?_) | (go_at_call 171;with_reducible refine (c4 _).tq ?_)));go_ret;refine ⟨zal ?_,rfl⟩
 first | rfl | (simp only [nats];rfl)
theorem zvT (h:Nat) (W:World) (h0:(cutN h 13 3)=1):TW 118 #[.int .u32 (h:Nat)] W (.int .u32 0):=by
 have c2:∀ W,TW 117 #[.int .u32 h,.int .u64 15,.int .u64 13] W (.int .u32 1):=fun W=>by
  have h:=zaq h 15 13 W (by omega) (by omega);rw [h0] at h;exact h
 go_enter func118,ntmps118;go_wp2_with ((first | (go_at_call 168;with_reducible refine (zbS h _).tq ?_) | (go_at_call 169;with_reducible refine (zcu h _).tq ?_) | (go_at_call 117;with_reducible refine (c2 _).tq ?_)));go_ret;exact ⟨rfl,rfl⟩
theorem zsH (h:Nat) (W:World) (h0:(cutN h 13 3)=2):TW 118 #[.int .u32 (h:Nat)] W (.int .u32 (zaA (zcV h) (zaf h) 2 (zau h) 3)):=by
 have c2:∀ W,TW 117 #[.int .u32 h,.int .u64 15,.int .u64 13] W (.int .u32 2):=fun W=>by
  have h:=zaq h 15 13 W (by omega) (by omega);rw [h0] at h;exact h
 have c4:∀ W,TW 171 #[.int .u32 (zcV h),.int .u32 (zaf h),.int .u32 2,.int .u32 (zau h),.int .u32 3] W (.int .u32 (zaA (zcV h) (zaf h) 2 (zau h) 3)):=fun W=>zcO (zcV h) (zaf h) 2 (zau h) 3 W
 go_enter func118,ntmps118;go_wp2_with ((first | (go_at_call 168;with_reducible refine (zbS h _).tq ?_) | (go_at_call 169;with_reducible refine (zcu h _).tq ?_) | (go_at_call 117;with_reducible refine (c2 _).tq ?_) | (go_at_call 172;with_reducible refine (zlb h _).tq ?_) | (go_at_call 171;with_reducible refine (c4 _).tq ?_)));go_ret;refine ⟨zal ?_,rfl⟩
 first | rfl | (simp only [nats];rfl)
theorem zsv (h:Nat) (W:World) (h0:(cutN h 13 3)=3):TW 118 #[.int .u32 (h:Nat)] W (.int .u32 (zaA (zcU h) (zaf h) 3 (zau h) 3)):=by
 have c2:∀ W,TW 117 #[.int .u32 h,.int .u64 15,.int .u64 13] W (.int .u32 3):=fun W=>by
  have h:=zaq h 15 13 W (by omega) (by omega);rw [h0] at h;exact h
 have c4:∀ W,TW 171 #[.int .u32 (zcU h),.int .u32 (zaf h),.int .u32 3,.int .u32 (zau h),.int .u32 3] W (.int .u32 (zaA (zcU h) (zaf h) 3 (zau h) 3)):=fun W=>zcO (zcU h) (zaf h) 3 (zau h) 3 W
 go_enter func118,ntmps118;go_wp2_with ((first | (go_at_call 168;with_reducible refine (zbS h _).tq ?_) | (go_at_call 169;with_reducible refine (zcu h _).tq ?_) | (go_at_call 117;with_reducible refine (c2 _).tq ?_) | (go_at_call 173;with_reducible refine (zjE h _).tq ?_) | (go_at_call 171;with_reducible refine (c4 _).tq ?_)));go_ret;refine ⟨zal ?_,rfl⟩
 first | rfl | (simp only [nats];rfl)
theorem zuL (h:Nat) (W:World) (h0:(cutN h 13 3)=4):TW 118 #[.int .u32 (h:Nat)] W (.int .u32 0):=by
 have c2:∀ W,TW 117 #[.int .u32 h,.int .u64 15,.int .u64 13] W (.int .u32 4):=fun W=>by
  have h:=zaq h 15 13 W (by omega) (by omega);rw [h0] at h;exact h
 go_enter func118,ntmps118;go_wp2_with ((first | (go_at_call 168;with_reducible refine (zbS h _).tq ?_) | (go_at_call 169;with_reducible refine (zcu h _).tq ?_) | (go_at_call 117;with_reducible refine (c2 _).tq ?_)));go_ret;exact ⟨rfl,rfl⟩
theorem znr (h:Nat) (W:World) (h0:(cutN h 13 3)=5):TW 118 #[.int .u32 (h:Nat)] W (.int .u32 0):=by
 have c2:∀ W,TW 117 #[.int .u32 h,.int .u64 15,.int .u64 13] W (.int .u32 5):=fun W=>by
  have h:=zaq h 15 13 W (by omega) (by omega);rw [h0] at h;exact h
 go_enter func118,ntmps118;go_wp2_with ((first | (go_at_call 168;with_reducible refine (zbS h _).tq ?_) | (go_at_call 169;with_reducible refine (zcu h _).tq ?_) | (go_at_call 117;with_reducible refine (c2 _).tq ?_)));go_ret;exact ⟨rfl,rfl⟩
theorem zop (h:Nat) (W:World) (h0:(cutN h 13 3)=6):TW 118 #[.int .u32 (h:Nat)] W (.int .u32 (zcq (zcV h) (zau h) (zaf h) 2 35)):=by
 have c2:∀ W,TW 117 #[.int .u32 h,.int .u64 15,.int .u64 13] W (.int .u32 6):=fun W=>by
  have h:=zaq h 15 13 W (by omega) (by omega);rw [h0] at h;exact h
 have c4:∀ W,TW 174 #[.int .u32 (zcV h),.int .u32 (zau h),.int .u32 (zaf h),.int .u32 2,.int .u32 35] W (.int .u32 (zcq (zcV h) (zau h) (zaf h) 2 35)):=fun W=>zgd (zcV h) (zau h) (zaf h) 2 35 W
 go_enter func118,ntmps118;go_wp2_with ((first | (go_at_call 168;with_reducible refine (zbS h _).tq ?_) | (go_at_call 169;with_reducible refine (zcu h _).tq ?_) | (go_at_call 117;with_reducible refine (c2 _).tq ?_) | (go_at_call 172;with_reducible refine (zlb h _).tq ?_) | (go_at_call 174;with_reducible refine (c4 _).tq ?_)));go_ret;refine ⟨zal ?_,rfl⟩
 first | rfl | (simp only [nats];rfl)
theorem zzQ (h:Nat) (W:World) (h0:(cutN h 13 3)=7):TW 118 #[.int .u32 (h:Nat)] W (.int .u32 (zcq (zcU h) (zau h) (zaf h) 3 35)):=by
 have c2:∀ W,TW 117 #[.int .u32 h,.int .u64 15,.int .u64 13] W (.int .u32 7):=fun W=>by
  have h:=zaq h 15 13 W (by omega) (by omega);rw [h0] at h;exact h
 have c4:∀ W,TW 174 #[.int .u32 (zcU h),.int .u32 (zau h),.int .u32 (zaf h),.int .u32 3,.int .u32 35] W (.int .u32 (zcq (zcU h) (zau h) (zaf h) 3 35)):=fun W=>zgd (zcU h) (zau h) (zaf h) 3 35 W
 go_enter func118,ntmps118;go_wp2_with ((first | (go_at_call 168;with_reducible refine (zbS h _).tq ?_) | (go_at_call 169;with_reducible refine (zcu h _).tq ?_) | (go_at_call 117;with_reducible refine (c2 _).tq ?_) | (go_at_call 173;with_reducible refine (zjE h _).tq ?_) | (go_at_call 174;with_reducible refine (c4 _).tq ?_)));go_ret;refine ⟨zal ?_,rfl⟩
 first | rfl | (simp only [nats];rfl)
theorem znF (h:Nat) (W:World):TW 118 #[.int .u32 (h:Nat)] W (.int .u32 ((zbW h:Nat):Int)):=by
 have l0:=zbh h 13 3;have b0:(cutN h 13 3)=0∨(cutN h 13 3)=1∨(cutN h 13 3)=2∨(cutN h 13 3)=3∨(cutN h 13 3)=4∨(cutN h 13 3)=5∨(cutN h 13 3)=6∨(cutN h 13 3)=7:=by omega
 rcases b0 with h0 | h0 | h0 | h0 | h0 | h0 | h0 | h0
 ·by_cases h1:(zcI h)=0
  ·rw [show zbW h=0 from by unfold zbW;rw [beqT h0,cond_true,beqT h1,cond_true]]
   exact zxN h W h0 h1
  ·rw [show zbW h=(zaA (zcI h) 2 0 (zau h) 19) from by unfold zbW;rw [beqT h0,cond_true,beqF h1,cond_false]]
   exact zlY h W h0 h1
 ·rw [show zbW h=0 from by unfold zbW;rw [beqF (show (cutN h 13 3)≠0 by omega),cond_false,beqF (show (cutN h 13 3)≠2 by omega),cond_false,beqF (show (cutN h 13 3)≠3 by omega),cond_false,beqF (show (cutN h 13 3)≠6 by omega),cond_false,beqF (show (cutN h 13 3)≠7 by omega),cond_false]]
  exact zvT h W h0
 ·rw [show zbW h=(zaA (zcV h) (zaf h) 2 (zau h) 3) from by unfold zbW;rw [beqF (show (cutN h 13 3)≠0 by omega),cond_false,beqT h0,cond_true]]
  exact zsH h W h0
 ·rw [show zbW h=(zaA (zcU h) (zaf h) 3 (zau h) 3) from by unfold zbW;rw [beqF (show (cutN h 13 3)≠0 by omega),cond_false,beqF (show (cutN h 13 3)≠2 by omega),cond_false,beqT h0,cond_true]]
  exact zsv h W h0
 ·rw [show zbW h=0 from by unfold zbW;rw [beqF (show (cutN h 13 3)≠0 by omega),cond_false,beqF (show (cutN h 13 3)≠2 by omega),cond_false,beqF (show (cutN h 13 3)≠3 by omega),cond_false,beqF (show (cutN h 13 3)≠6 by omega),cond_false,beqF (show (cutN h 13 3)≠7 by omega),cond_false]]
  exact zuL h W h0
 ·rw [show zbW h=0 from by unfold zbW;rw [beqF (show (cutN h 13 3)≠0 by omega),cond_false,beqF (show (cutN h 13 3)≠2 by omega),cond_false,beqF (show (cutN h 13 3)≠3 by omega),cond_false,beqF (show (cutN h 13 3)≠6 by omega),cond_false,beqF (show (cutN h 13 3)≠7 by omega),cond_false]]
  exact znr h W h0
 ·rw [show zbW h=(zcq (zcV h) (zau h) (zaf h) 2 35) from by unfold zbW;rw [beqF (show (cutN h 13 3)≠0 by omega),cond_false,beqF (show (cutN h 13 3)≠2 by omega),cond_false,beqF (show (cutN h 13 3)≠3 by omega),cond_false,beqT h0,cond_true]]
  exact zop h W h0
 ·rw [show zbW h=(zcq (zcU h) (zau h) (zaf h) 3 35) from by unfold zbW;rw [beqF (show (cutN h 13 3)≠0 by omega),cond_false,beqF (show (cutN h 13 3)≠2 by omega),cond_false,beqF (show (cutN h 13 3)≠3 by omega),cond_false,beqF (show (cutN h 13 3)≠6 by omega),cond_false,beqT h0,cond_true]]
  exact zzQ h W h0
def zdN (h:Nat):Nat:=(bif Nat.beq (zaY h) 0 then 0 else (bif Nat.beq (zag h) 2 then (zaA (zeH h) 2 0 2 19) else (zg3 (zaY h) (zag h))))
theorem zoQ (h:Nat) (W:World) (h0:(zaY h)=0):TW 177 #[.int .u32 (h:Nat)] W (.int .u32 0):=by
 have p0:(((zaY h):Int)==0)=true:=by rw [beq_iff_eq];rw [h0];rfl
 have q0:(((zaY h):Int) != 0)=false:=by rw [bne,p0];rfl
 go_enter func177,ntmps177;go_wp2_with ((first | (go_at_call 176;with_reducible refine (zcZ h _).tq ?_) | (go_at_call 175;with_reducible refine (zbq h _).tq ?_)));go_ret;exact ⟨rfl,rfl⟩
theorem zuy (h:Nat) (W:World) (h0:(zaY h)≠0) (h1:(zag h)=2):TW 177 #[.int .u32 (h:Nat)] W (.int .u32 (zaA (zeH h) 2 0 2 19)):=by
 have c3:∀ W,TW 171 #[.int .u32 (zeH h),.int .u32 2,.int .u32 0,.int .u32 2,.int .u32 19] W (.int .u32 (zaA (zeH h) 2 0 2 19)):=fun W=>zcO (zeH h) 2 0 2 19 W
 have p0:(((zaY h):Int)==0)=false:=by rw [beq_eq_false_iff_ne];omega
 have q0:(((zaY h):Int) != 0)=true:=by rw [bne,p0];rfl
 have p1:(((zag h):Int)==2)=true:=by rw [beq_iff_eq];rw [h1];rfl
 have q1:(((zag h):Int) != 2)=false:=by rw [bne,p1];rfl
 go_enter func177,ntmps177;go_wp2_with ((first | (go_at_call 176;with_reducible refine (zcZ h _).tq ?_) | (go_at_call 175;with_reducible refine (zbq h _).tq ?_) | (go_at_call 215;with_reducible refine (zs8 h _).tq ?_) | (go_at_call 171;with_reducible refine (c3 _).tq ?_)));go_ret;refine ⟨zal ?_,rfl⟩
 first | rfl | (simp only [nats];rfl)
theorem zyq (h:Nat) (W:World) (h0:(zaY h)≠0) (h1:(zag h)≠2):TW 177 #[.int .u32 (h:Nat)] W (.int .u32 (zg3 (zaY h) (zag h))):=by
 have p0:(((zaY h):Int)==0)=false:=by rw [beq_eq_false_iff_ne];omega
 have q0:(((zaY h):Int) != 0)=true:=by rw [bne,p0];rfl
 have p1:(((zag h):Int)==2)=false:=by rw [beq_eq_false_iff_ne];omega
 have q1:(((zag h):Int) != 2)=true:=by rw [bne,p1];rfl
 go_enter func177,ntmps177;go_wp2_with ((first | (go_at_call 176;with_reducible refine (zcZ h _).tq ?_) | (go_at_call 175;with_reducible refine (zbq h _).tq ?_) | (go_at_call 216;with_reducible refine (zpz (zaY h) (zag h) _).tq ?_)));go_ret;refine ⟨zal ?_,rfl⟩
 first | rfl | (simp only [nats];rfl)
theorem znN (h:Nat) (W:World):TW 177 #[.int .u32 (h:Nat)] W (.int .u32 ((zdN h:Nat):Int)):=by
 by_cases h0:(zaY h)=0
 ·rw [show zdN h=0 from by unfold zdN;rw [beqT h0,cond_true]]
  exact zoQ h W h0
 ·by_cases h1:(zag h)=2
  ·rw [show zdN h=(zaA (zeH h) 2 0 2 19) from by unfold zdN;rw [beqF h0,cond_false,beqT h1,cond_true]]
   exact zuy h W h0 h1
  ·rw [show zdN h=(zg3 (zaY h) (zag h)) from by unfold zdN;rw [beqF h0,cond_false,beqF h1,cond_false]]
   exact zyq h W h0 h1
def zcc (h:Nat):Nat:=(bif Nat.beq (cutN h 12 1) 0 then (bif Nat.beq (cutN h 5 2) 0 then (zbf 32 (zau h) (zaf h) 0 (zaf h) 51) else (bif Nat.beq (cutN h 5 2) 1 then (zbf 0 (zau h) (zaf h) 4 (zaf h) 51) else (bif Nat.beq (cutN h 5 2) 2 then (zbf 0 (zau h) (zaf h) 6 (zaf h) 51) else (bif Nat.beq (cutN h 5 2) 3 then (zbf 0 (zau h) (zaf h) 7 (zaf h) 51) else 0)))) else (bif Nat.beq (cutN h 12 1) 1 then (bif Nat.beq (cutN h 5 2) 0 then (zbf 32 (zau h) (zaf h) 0 (zaf h) 59) else (bif Nat.beq (cutN h 5 2) 1 then (zbf 0 (zau h) (zaf h) 0 (zaf h) 59) else 0)) else 0))
theorem zw7 (h:Nat) (W:World) (h0:(cutN h 12 1)=0) (h1:(cutN h 5 2)=0):TW 217 #[.int .u32 (h:Nat)] W (.int .u32 (zbf 32 (zau h) (zaf h) 0 (zaf h) 51)):=by
 have c2:∀ W,TW 117 #[.int .u32 h,.int .u64 12,.int .u64 12] W (.int .u32 0):=fun W=>by
  have h:=zaq h 12 12 W (by omega) (by omega);rw [h0] at h;exact h
 have c3:∀ W,TW 117 #[.int .u32 h,.int .u64 6,.int .u64 5] W (.int .u32 0):=fun W=>by
  have h:=zaq h 6 5 W (by omega) (by omega);rw [h1] at h;exact h
 have c4:∀ W,TW 218 #[.int .u32 32,.int .u32 (zau h),.int .u32 (zaf h),.int .u32 0,.int .u32 (zaf h),.int .u32 51] W (.int .u32 (zbf 32 (zau h) (zaf h) 0 (zaf h) 51)):=fun W=>zel 32 (zau h) (zaf h) 0 (zaf h) 51 W
 go_enter func217,ntmps217;go_wp2_with ((first | (go_at_call 168;with_reducible refine (zbS h _).tq ?_) | (go_at_call 169;with_reducible refine (zcu h _).tq ?_) | (go_at_call 117;with_reducible refine (c2 _).tq ?_) | (go_at_call 117;with_reducible refine (c3 _).tq ?_) | (go_at_call 218;with_reducible refine (c4 _).tq ?_)));go_ret;refine ⟨zal ?_,rfl⟩
 first | rfl | (simp only [nats];rfl)
theorem zmT (h:Nat) (W:World) (h0:(cutN h 12 1)=0) (h1:(cutN h 5 2)=1):TW 217 #[.int .u32 (h:Nat)] W (.int .u32 (zbf 0 (zau h) (zaf h) 4 (zaf h) 51)):=by
 have c2:∀ W,TW 117 #[.int .u32 h,.int .u64 12,.int .u64 12] W (.int .u32 0):=fun W=>by
  have h:=zaq h 12 12 W (by omega) (by omega);rw [h0] at h;exact h
 have c3:∀ W,TW 117 #[.int .u32 h,.int .u64 6,.int .u64 5] W (.int .u32 1):=fun W=>by
  have h:=zaq h 6 5 W (by omega) (by omega);rw [h1] at h;exact h
 have c4:∀ W,TW 218 #[.int .u32 0,.int .u32 (zau h),.int .u32 (zaf h),.int .u32 4,.int .u32 (zaf h),.int .u32 51] W (.int .u32 (zbf 0 (zau h) (zaf h) 4 (zaf h) 51)):=fun W=>zel 0 (zau h) (zaf h) 4 (zaf h) 51 W
 go_enter func217,ntmps217;go_wp2_with ((first | (go_at_call 168;with_reducible refine (zbS h _).tq ?_) | (go_at_call 169;with_reducible refine (zcu h _).tq ?_) | (go_at_call 117;with_reducible refine (c2 _).tq ?_) | (go_at_call 117;with_reducible refine (c3 _).tq ?_) | (go_at_call 218;with_reducible refine (c4 _).tq ?_)));go_ret;refine ⟨zal ?_,rfl⟩
 first | rfl | (simp only [nats];rfl)
theorem zqK (h:Nat) (W:World) (h0:(cutN h 12 1)=0) (h1:(cutN h 5 2)=2):TW 217 #[.int .u32 (h:Nat)] W (.int .u32 (zbf 0 (zau h) (zaf h) 6 (zaf h) 51)):=by
 have c2:∀ W,TW 117 #[.int .u32 h,.int .u64 12,.int .u64 12] W (.int .u32 0):=fun W=>by
  have h:=zaq h 12 12 W (by omega) (by omega);rw [h0] at h;exact h
 have c3:∀ W,TW 117 #[.int .u32 h,.int .u64 6,.int .u64 5] W (.int .u32 2):=fun W=>by
  have h:=zaq h 6 5 W (by omega) (by omega);rw [h1] at h;exact h
 have c4:∀ W,TW 218 #[.int .u32 0,.int .u32 (zau h),.int .u32 (zaf h),.int .u32 6,.int .u32 (zaf h),.int .u32 51] W (.int .u32 (zbf 0 (zau h) (zaf h) 6 (zaf h) 51)):=fun W=>zel 0 (zau h) (zaf h) 6 (zaf h) 51 W
 go_enter func217,ntmps217;go_wp2_with ((first | (go_at_call 168;with_reducible refine (zbS h _).tq ?_) | (go_at_call 169;with_reducible refine (zcu h _).tq ?_) | (go_at_call 117;with_reducible refine (c2 _).tq ?_) | (go_at_call 117;with_reducible refine (c3 _).tq ?_) | (go_at_call 218;with_reducible refine (c4 _).tq ?_)));go_ret;refine ⟨zal ?_,rfl⟩
 first | rfl | (simp only [nats];rfl)
theorem zud (h:Nat) (W:World) (h0:(cutN h 12 1)=0) (h1:(cutN h 5 2)=3):TW 217 #[.int .u32 (h:Nat)] W (.int .u32 (zbf 0 (zau h) (zaf h) 7 (zaf h) 51)):=by
 have c2:∀ W,TW 117 #[.int .u32 h,.int .u64 12,.int .u64 12] W (.int .u32 0):=fun W=>by
  have h:=zaq h 12 12 W (by omega) (by omega);rw [h0] at h;exact h
 have c3:∀ W,TW 117 #[.int .u32 h,.int .u64 6,.int .u64 5] W (.int .u32 3):=fun W=>by
  have h:=zaq h 6 5 W (by omega) (by omega);rw [h1] at h;exact h
 have c4:∀ W,TW 218 #[.int .u32 0,.int .u32 (zau h),.int .u32 (zaf h),.int .u32 7,.int .u32 (zaf h),.int .u32 51] W (.int .u32 (zbf 0 (zau h) (zaf h) 7 (zaf h) 51)):=fun W=>zel 0 (zau h) (zaf h) 7 (zaf h) 51 W
 go_enter func217,ntmps217;go_wp2_with ((first | (go_at_call 168;with_reducible refine (zbS h _).tq ?_) | (go_at_call 169;with_reducible refine (zcu h _).tq ?_) | (go_at_call 117;with_reducible refine (c2 _).tq ?_) | (go_at_call 117;with_reducible refine (c3 _).tq ?_) | (go_at_call 218;with_reducible refine (c4 _).tq ?_)));go_ret;refine ⟨zal ?_,rfl⟩
 first | rfl | (simp only [nats];rfl)
theorem zmW (h:Nat) (W:World) (h0:(cutN h 12 1)=1) (h1:(cutN h 5 2)=0):TW 217 #[.int .u32 (h:Nat)] W (.int .u32 (zbf 32 (zau h) (zaf h) 0 (zaf h) 59)):=by
 have c2:∀ W,TW 117 #[.int .u32 h,.int .u64 12,.int .u64 12] W (.int .u32 1):=fun W=>by
  have h:=zaq h 12 12 W (by omega) (by omega);rw [h0] at h;exact h
 have c3:∀ W,TW 117 #[.int .u32 h,.int .u64 6,.int .u64 5] W (.int .u32 0):=fun W=>by
  have h:=zaq h 6 5 W (by omega) (by omega);rw [h1] at h;exact h
 have c4:∀ W,TW 218 #[.int .u32 32,.int .u32 (zau h),.int .u32 (zaf h),.int .u32 0,.int .u32 (zaf h),.int .u32 59] W (.int .u32 (zbf 32 (zau h) (zaf h) 0 (zaf h) 59)):=fun W=>zel 32 (zau h) (zaf h) 0 (zaf h) 59 W
 go_enter func217,ntmps217;go_wp2_with ((first | (go_at_call 168;with_reducible refine (zbS h _).tq ?_) | (go_at_call 169;with_reducible refine (zcu h _).tq ?_) | (go_at_call 117;with_reducible refine (c2 _).tq ?_) | (go_at_call 117;with_reducible refine (c3 _).tq ?_) | (go_at_call 218;with_reducible refine (c4 _).tq ?_)));go_ret;refine ⟨zal ?_,rfl⟩
 first | rfl | (simp only [nats];rfl)
theorem zu3 (h:Nat) (W:World) (h0:(cutN h 12 1)=1) (h1:(cutN h 5 2)=1):TW 217 #[.int .u32 (h:Nat)] W (.int .u32 (zbf 0 (zau h) (zaf h) 0 (zaf h) 59)):=by
 have c2:∀ W,TW 117 #[.int .u32 h,.int .u64 12,.int .u64 12] W (.int .u32 1):=fun W=>by
  have h:=zaq h 12 12 W (by omega) (by omega);rw [h0] at h;exact h
 have c3:∀ W,TW 117 #[.int .u32 h,.int .u64 6,.int .u64 5] W (.int .u32 1):=fun W=>by
  have h:=zaq h 6 5 W (by omega) (by omega);rw [h1] at h;exact h
 have c4:∀ W,TW 218 #[.int .u32 0,.int .u32 (zau h),.int .u32 (zaf h),.int .u32 0,.int .u32 (zaf h),.int .u32 59] W (.int .u32 (zbf 0 (zau h) (zaf h) 0 (zaf h) 59)):=fun W=>zel 0 (zau h) (zaf h) 0 (zaf h) 59 W
 go_enter func217,ntmps217;go_wp2_with ((first | (go_at_call 168;with_reducible refine (zbS h _).tq ?_) | (go_at_call 169;with_reducible refine (zcu h _).tq ?_) | (go_at_call 117;with_reducible refine (c2 _).tq ?_) | (go_at_call 117;with_reducible refine (c3 _).tq ?_) | (go_at_call 218;with_reducible refine (c4 _).tq ?_)));go_ret;refine ⟨zal ?_,rfl⟩
 first | rfl | (simp only [nats];rfl)
theorem zpZ (h:Nat) (W:World) (h0:(cutN h 12 1)=1) (h1:(cutN h 5 2)=2):TW 217 #[.int .u32 (h:Nat)] W (.int .u32 0):=by
 have c2:∀ W,TW 117 #[.int .u32 h,.int .u64 12,.int .u64 12] W (.int .u32 1):=fun W=>by
  have h:=zaq h 12 12 W (by omega) (by omega);rw [h0] at h;exact h
 have c3:∀ W,TW 117 #[.int .u32 h,.int .u64 6,.int .u64 5] W (.int .u32 2):=fun W=>by
  have h:=zaq h 6 5 W (by omega) (by omega);rw [h1] at h;exact h
 go_enter func217,ntmps217;go_wp2_with ((first | (go_at_call 168;with_reducible refine (zbS h _).tq ?_) | (go_at_call 169;with_reducible refine (zcu h _).tq ?_) | (go_at_call 117;with_reducible refine (c2 _).tq ?_) | (go_at_call 117;with_reducible refine (c3 _).tq ?_)));go_ret;exact ⟨rfl,rfl⟩
theorem zzk (h:Nat) (W:World) (h0:(cutN h 12 1)=1) (h1:(cutN h 5 2)=3):TW 217 #[.int .u32 (h:Nat)] W (.int .u32 0):=by
 have c2:∀ W,TW 117 #[.int .u32 h,.int .u64 12,.int .u64 12] W (.int .u32 1):=fun W=>by
  have h:=zaq h 12 12 W (by omega) (by omega);rw [h0] at h;exact h
 have c3:∀ W,TW 117 #[.int .u32 h,.int .u64 6,.int .u64 5] W (.int .u32 3):=fun W=>by
  have h:=zaq h 6 5 W (by omega) (by omega);rw [h1] at h;exact h
 go_enter func217,ntmps217;go_wp2_with ((first | (go_at_call 168;with_reducible refine (zbS h _).tq ?_) | (go_at_call 169;with_reducible refine (zcu h _).tq ?_) | (go_at_call 117;with_reducible refine (c2 _).tq ?_) | (go_at_call 117;with_reducible refine (c3 _).tq ?_)));go_ret;exact ⟨rfl,rfl⟩
theorem zmt (h:Nat) (W:World):TW 217 #[.int .u32 (h:Nat)] W (.int .u32 ((zcc h:Nat):Int)):=by
 have l0:=zbh h 12 1;have b0:(cutN h 12 1)=0∨(cutN h 12 1)=1:=by omega
 rcases b0 with h0 | h0
 ·have l1:=zbh h 5 2
  have b1:(cutN h 5 2)=0∨(cutN h 5 2)=1∨(cutN h 5 2)=2∨(cutN h 5 2)=3:=by omega
  rcases b1 with h1 | h1 | h1 | h1
  ·rw [show zcc h=(zbf 32 (zau h) (zaf h) 0 (zaf h) 51) from by unfold zcc;rw [beqT h0,cond_true,beqT h1,cond_true]]
   exact zw7 h W h0 h1
  ·rw [show zcc h=(zbf 0 (zau h) (zaf h) 4 (zaf h) 51) from by unfold zcc;rw [beqT h0,cond_true,beqF (show (cutN h 5 2)≠0 by omega),cond_false,beqT h1,cond_true]]
   exact zmT h W h0 h1
  ·rw [show zcc h=(zbf 0 (zau h) (zaf h) 6 (zaf h) 51) from by unfold zcc;rw [beqT h0,cond_true,beqF (show (cutN h 5 2)≠0 by omega),cond_false,beqF (show (cutN h 5 2)≠1 by omega),cond_false,beqT h1,cond_true]]
   exact zqK h W h0 h1
  ·rw [show zcc h=(zbf 0 (zau h) (zaf h) 7 (zaf h) 51) from by unfold zcc;rw [beqT h0,cond_true,beqF (show (cutN h 5 2)≠0 by omega),cond_false,beqF (show (cutN h 5 2)≠1 by omega),cond_false,beqF (show (cutN h 5 2)≠2 by omega),cond_false,beqT h1,cond_true]]
   exact zud h W h0 h1
 ·have l1:=zbh h 5 2
  have b1:(cutN h 5 2)=0∨(cutN h 5 2)=1∨(cutN h 5 2)=2∨(cutN h 5 2)=3:=by omega
  rcases b1 with h1 | h1 | h1 | h1
  ·rw [show zcc h=(zbf 32 (zau h) (zaf h) 0 (zaf h) 59) from by unfold zcc;rw [beqF (show (cutN h 12 1)≠0 by omega),cond_false,beqT h0,cond_true,beqT h1,cond_true]]
   exact zmW h W h0 h1
  ·rw [show zcc h=(zbf 0 (zau h) (zaf h) 0 (zaf h) 59) from by unfold zcc;rw [beqF (show (cutN h 12 1)≠0 by omega),cond_false,beqT h0,cond_true,beqF (show (cutN h 5 2)≠0 by omega),cond_false,beqT h1,cond_true]]
   exact zu3 h W h0 h1
  ·rw [show zcc h=0 from by unfold zcc;rw [beqF (show (cutN h 12 1)≠0 by omega),cond_false,beqT h0,cond_true,beqF (show (cutN h 5 2)≠0 by omega),cond_false,beqF (show (cutN h 5 2)≠1 by omega),cond_false]]
   exact zpZ h W h0 h1
  ·rw [show zcc h=0 from by unfold zcc;rw [beqF (show (cutN h 12 1)≠0 by omega),cond_false,beqT h0,cond_true,beqF (show (cutN h 5 2)≠0 by omega),cond_false,beqF (show (cutN h 5 2)≠1 by omega),cond_false]]
   exact zzk h W h0 h1
def zdh (h:Nat):Nat:=(bif Nat.beq (cutN h 10 2) 0 then (zaA (zb6 h) (zaf h) 5 (zaf h) 19) else (bif Nat.beq (cutN h 10 2) 1 then (zaA (((zb6 h)+1024) % 4294967296) (zaf h) 5 (zaf h) 19) else (bif Nat.beq (cutN h 10 2) 2 then (zaA (zaY h) (zaf h) 7 (zaf h) 19) else (bif Nat.beq (cutN h 10 2) 3 then (zcc h) else 0))))
theorem zoi (h:Nat) (W:World) (h0:(cutN h 10 2)=0):TW 178 #[.int .u32 (h:Nat)] W (.int .u32 (zaA (zb6 h) (zaf h) 5 (zaf h) 19)):=by
 have c1:∀ W,TW 117 #[.int .u32 h,.int .u64 11,.int .u64 10] W (.int .u32 0):=fun W=>by
  have h:=zaq h 11 10 W (by omega) (by omega);rw [h0] at h;exact h
 have c3:∀ W,TW 171 #[.int .u32 (zb6 h),.int .u32 (zaf h),.int .u32 5,.int .u32 (zaf h),.int .u32 19] W (.int .u32 (zaA (zb6 h) (zaf h) 5 (zaf h) 19)):=fun W=>zcO (zb6 h) (zaf h) 5 (zaf h) 19 W
 go_enter func178,ntmps178;go_wp2_with ((first | (go_at_call 168;with_reducible refine (zbS h _).tq ?_) | (go_at_call 117;with_reducible refine (c1 _).tq ?_) | (go_at_call 184;with_reducible refine (zgU h _).tq ?_) | (go_at_call 171;with_reducible refine (c3 _).tq ?_)));go_ret;refine ⟨zal ?_,rfl⟩
 first | rfl | (simp only [nats];rfl)
theorem ztm (h:Nat) (W:World) (h0:(cutN h 10 2)=1):TW 178 #[.int .u32 (h:Nat)] W (.int .u32 (zaA (((zb6 h)+1024) % 4294967296) (zaf h) 5 (zaf h) 19)):=by
 have c1:∀ W,TW 117 #[.int .u32 h,.int .u64 11,.int .u64 10] W (.int .u32 1):=fun W=>by
  have h:=zaq h 11 10 W (by omega) (by omega);rw [h0] at h;exact h
 have c3:∀ W,TW 171 #[.int .u32 (((zb6 h)+1024) % 4294967296),.int .u32 (zaf h),.int .u32 5,.int .u32 (zaf h),.int .u32 19] W (.int .u32 (zaA (((zb6 h)+1024) % 4294967296) (zaf h) 5 (zaf h) 19)):=fun W=>by
  have h:=zcO (((zb6 h)+1024) % 4294967296) (zaf h) 5 (zaf h) 19 W;simp only [nats];exact h
 go_enter func178,ntmps178;go_wp2_with ((first | (go_at_call 168;with_reducible refine (zbS h _).tq ?_) | (go_at_call 117;with_reducible refine (c1 _).tq ?_) | (go_at_call 184;with_reducible refine (zgU h _).tq ?_) | (go_at_call 171;with_reducible refine (c3 _).tq ?_)));go_ret;refine ⟨zal ?_,rfl⟩
 first | rfl | (simp only [nats];rfl)
theorem zyY (h:Nat) (W:World) (h0:(cutN h 10 2)=2):TW 178 #[.int .u32 (h:Nat)] W (.int .u32 (zaA (zaY h) (zaf h) 7 (zaf h) 19)):=by
 have c1:∀ W,TW 117 #[.int .u32 h,.int .u64 11,.int .u64 10] W (.int .u32 2):=fun W=>by
  have h:=zaq h 11 10 W (by omega) (by omega);rw [h0] at h;exact h
 have c3:∀ W,TW 171 #[.int .u32 (zaY h),.int .u32 (zaf h),.int .u32 7,.int .u32 (zaf h),.int .u32 19] W (.int .u32 (zaA (zaY h) (zaf h) 7 (zaf h) 19)):=fun W=>zcO (zaY h) (zaf h) 7 (zaf h) 19 W
 go_enter func178,ntmps178;go_wp2_with ((first | (go_at_call 168;with_reducible refine (zbS h _).tq ?_) | (go_at_call 117;with_reducible refine (c1 _).tq ?_) | (go_at_call 176;with_reducible refine (zcZ h _).tq ?_) | (go_at_call 171;with_reducible refine (c3 _).tq ?_)));go_ret;refine ⟨zal ?_,rfl⟩
 first | rfl | (simp only [nats];rfl)
theorem zoJ (h:Nat) (W:World) (h0:(cutN h 10 2)=3):TW 178 #[.int .u32 (h:Nat)] W (.int .u32 (zcc h)):=by
 have c1:∀ W,TW 117 #[.int .u32 h,.int .u64 11,.int .u64 10] W (.int .u32 3):=fun W=>by
  have h:=zaq h 11 10 W (by omega) (by omega);rw [h0] at h;exact h
 go_enter func178,ntmps178;go_wp2_with ((first | (go_at_call 168;with_reducible refine (zbS h _).tq ?_) | (go_at_call 117;with_reducible refine (c1 _).tq ?_) | (go_at_call 217;with_reducible refine (zmt h _).tq ?_)));go_ret;refine ⟨zal ?_,rfl⟩
 first | rfl | (simp only [nats];rfl)
theorem zt8 (h:Nat) (W:World):TW 178 #[.int .u32 (h:Nat)] W (.int .u32 ((zdh h:Nat):Int)):=by
 have l0:=zbh h 10 2;have b0:(cutN h 10 2)=0∨(cutN h 10 2)=1∨(cutN h 10 2)=2∨(cutN h 10 2)=3:=by omega
 rcases b0 with h0 | h0 | h0 | h0
 ·rw [show zdh h=(zaA (zb6 h) (zaf h) 5 (zaf h) 19) from by unfold zdh;rw [beqT h0,cond_true]]
  exact zoi h W h0
 ·rw [show zdh h=(zaA (((zb6 h)+1024) % 4294967296) (zaf h) 5 (zaf h) 19) from by unfold zdh;rw [beqF (show (cutN h 10 2)≠0 by omega),cond_false,beqT h0,cond_true]]
  exact ztm h W h0
 ·rw [show zdh h=(zaA (zaY h) (zaf h) 7 (zaf h) 19) from by unfold zdh;rw [beqF (show (cutN h 10 2)≠0 by omega),cond_false,beqF (show (cutN h 10 2)≠1 by omega),cond_false,beqT h0,cond_true]]
  exact zyY h W h0
 ·rw [show zdh h=(zcc h) from by unfold zdh;rw [beqF (show (cutN h 10 2)≠0 by omega),cond_false,beqF (show (cutN h 10 2)≠1 by omega),cond_false,beqF (show (cutN h 10 2)≠2 by omega),cond_false,beqT h0,cond_true]]
  exact zoJ h W h0
def zbY (h:Nat):Nat:=(bif Nat.beq (cutN h 13 3) 0 then (zaA (zaY h) (zag h) 0 (zag h) 19) else (bif Nat.beq (cutN h 13 3) 1 then (bif Nat.beq (zag h) 0 then 0 else (zaA (zaY h) (zag h) 0 (zag h) 27)) else (bif Nat.beq (cutN h 13 3) 2 then (zaA (zaY h) 0 0 (zag h) 19) else (bif Nat.beq (cutN h 13 3) 3 then (zdN h) else (bif Nat.beq (cutN h 13 3) 4 then (zdh h) else (bif Nat.beq (cutN h 13 3) 5 then (zfF (zex h) 0) else (bif Nat.beq (cutN h 13 3) 6 then (zd5 (zcS h) 0 (zaf h) 0) else (bif Nat.beq (cutN h 13 3) 7 then (zd5 (zcS h) 0 (zaf h) 1) else 0))))))))
theorem zAa (h:Nat) (W:World) (h0:(cutN h 13 3)=0):TW 119 #[.int .u32 (h:Nat)] W (.int .u32 (zaA (zaY h) (zag h) 0 (zag h) 19)):=by
 have c2:∀ W,TW 117 #[.int .u32 h,.int .u64 15,.int .u64 13] W (.int .u32 0):=fun W=>by
  have h:=zaq h 15 13 W (by omega) (by omega);rw [h0] at h;exact h
 have c3:∀ W,TW 171 #[.int .u32 (zaY h),.int .u32 (zag h),.int .u32 0,.int .u32 (zag h),.int .u32 19] W (.int .u32 (zaA (zaY h) (zag h) 0 (zag h) 19)):=fun W=>zcO (zaY h) (zag h) 0 (zag h) 19 W
 go_enter func119,ntmps119;go_wp2_with ((first | (go_at_call 175;with_reducible refine (zbq h _).tq ?_) | (go_at_call 176;with_reducible refine (zcZ h _).tq ?_) | (go_at_call 117;with_reducible refine (c2 _).tq ?_) | (go_at_call 171;with_reducible refine (c3 _).tq ?_)));go_ret;refine ⟨zal ?_,rfl⟩
 first | rfl | (simp only [nats];rfl)
theorem zqo (h:Nat) (W:World) (h0:(cutN h 13 3)=1) (h1:(zag h)=0):TW 119 #[.int .u32 (h:Nat)] W (.int .u32 0):=by
 have c2:∀ W,TW 117 #[.int .u32 h,.int .u64 15,.int .u64 13] W (.int .u32 1):=fun W=>by
  have h:=zaq h 15 13 W (by omega) (by omega);rw [h0] at h;exact h
 have p1:(((zag h):Int)==0)=true:=by rw [beq_iff_eq];rw [h1];rfl
 have q1:(((zag h):Int) != 0)=false:=by rw [bne,p1];rfl
 go_enter func119,ntmps119;go_wp2_with ((first | (go_at_call 175;with_reducible refine (zbq h _).tq ?_) | (go_at_call 176;with_reducible refine (zcZ h _).tq ?_) | (go_at_call 117;with_reducible refine (c2 _).tq ?_)));go_ret;exact ⟨rfl,rfl⟩
theorem zoM (h:Nat) (W:World) (h0:(cutN h 13 3)=1) (h1:(zag h)≠0):TW 119 #[.int .u32 (h:Nat)] W (.int .u32 (zaA (zaY h) (zag h) 0 (zag h) 27)):=by
 have c2:∀ W,TW 117 #[.int .u32 h,.int .u64 15,.int .u64 13] W (.int .u32 1):=fun W=>by
  have h:=zaq h 15 13 W (by omega) (by omega);rw [h0] at h;exact h
 have c3:∀ W,TW 171 #[.int .u32 (zaY h),.int .u32 (zag h),.int .u32 0,.int .u32 (zag h),.int .u32 27] W (.int .u32 (zaA (zaY h) (zag h) 0 (zag h) 27)):=fun W=>zcO (zaY h) (zag h) 0 (zag h) 27 W
 have p1:(((zag h):Int)==0)=false:=by rw [beq_eq_false_iff_ne];omega
 have q1:(((zag h):Int) != 0)=true:=by rw [bne,p1];rfl
 go_enter func119,ntmps119;go_wp2_with ((first | (go_at_call 175;with_reducible refine (zbq h _).tq ?_) | (go_at_call 176;with_reducible refine (zcZ h _).tq ?_) | (go_at_call 117;with_reducible refine (c2 _).tq ?_) | (go_at_call 171;with_reducible refine (c3 _).tq ?_)));go_ret;refine ⟨zal ?_,rfl⟩
 first | rfl | (simp only [nats];rfl)
theorem zlu (h:Nat) (W:World) (h0:(cutN h 13 3)=2):TW 119 #[.int .u32 (h:Nat)] W (.int .u32 (zaA (zaY h) 0 0 (zag h) 19)):=by
 have c2:∀ W,TW 117 #[.int .u32 h,.int .u64 15,.int .u64 13] W (.int .u32 2):=fun W=>by
  have h:=zaq h 15 13 W (by omega) (by omega);rw [h0] at h;exact h
 have c3:∀ W,TW 171 #[.int .u32 (zaY h),.int .u32 0,.int .u32 0,.int .u32 (zag h),.int .u32 19] W (.int .u32 (zaA (zaY h) 0 0 (zag h) 19)):=fun W=>zcO (zaY h) 0 0 (zag h) 19 W
 go_enter func119,ntmps119;go_wp2_with ((first | (go_at_call 175;with_reducible refine (zbq h _).tq ?_) | (go_at_call 176;with_reducible refine (zcZ h _).tq ?_) | (go_at_call 117;with_reducible refine (c2 _).tq ?_) | (go_at_call 171;with_reducible refine (c3 _).tq ?_)));go_ret;refine ⟨zal ?_,rfl⟩
 first | rfl | (simp only [nats];rfl)
theorem znu (h:Nat) (W:World) (h0:(cutN h 13 3)=3):TW 119 #[.int .u32 (h:Nat)] W (.int .u32 (zdN h)):=by
 have c2:∀ W,TW 117 #[.int .u32 h,.int .u64 15,.int .u64 13] W (.int .u32 3):=fun W=>by
  have h:=zaq h 15 13 W (by omega) (by omega);rw [h0] at h;exact h
 go_enter func119,ntmps119;go_wp2_with ((first | (go_at_call 175;with_reducible refine (zbq h _).tq ?_) | (go_at_call 176;with_reducible refine (zcZ h _).tq ?_) | (go_at_call 117;with_reducible refine (c2 _).tq ?_) | (go_at_call 177;with_reducible refine (znN h _).tq ?_)));go_ret;refine ⟨zal ?_,rfl⟩
 first | rfl | (simp only [nats];rfl)
theorem zxX (h:Nat) (W:World) (h0:(cutN h 13 3)=4):TW 119 #[.int .u32 (h:Nat)] W (.int .u32 (zdh h)):=by
 have c2:∀ W,TW 117 #[.int .u32 h,.int .u64 15,.int .u64 13] W (.int .u32 4):=fun W=>by
  have h:=zaq h 15 13 W (by omega) (by omega);rw [h0] at h;exact h
 go_enter func119,ntmps119;go_wp2_with ((first | (go_at_call 175;with_reducible refine (zbq h _).tq ?_) | (go_at_call 176;with_reducible refine (zcZ h _).tq ?_) | (go_at_call 117;with_reducible refine (c2 _).tq ?_) | (go_at_call 178;with_reducible refine (zt8 h _).tq ?_)));go_ret;refine ⟨zal ?_,rfl⟩
 first | rfl | (simp only [nats];rfl)
theorem zzN (h:Nat) (W:World) (h0:(cutN h 13 3)=5):TW 119 #[.int .u32 (h:Nat)] W (.int .u32 (zfF (zex h) 0)):=by
 have c2:∀ W,TW 117 #[.int .u32 h,.int .u64 15,.int .u64 13] W (.int .u32 5):=fun W=>by
  have h:=zaq h 15 13 W (by omega) (by omega);rw [h0] at h;exact h
 have c4:∀ W,TW 179 #[.int .u32 (zex h),.int .u32 0] W (.int .u32 (zfF (zex h) 0)):=fun W=>zpT (zex h) 0 W
 go_enter func119,ntmps119;go_wp2_with ((first | (go_at_call 175;with_reducible refine (zbq h _).tq ?_) | (go_at_call 176;with_reducible refine (zcZ h _).tq ?_) | (go_at_call 117;with_reducible refine (c2 _).tq ?_) | (go_at_call 180;with_reducible refine (zx3 h _).tq ?_) | (go_at_call 179;with_reducible refine (c4 _).tq ?_)));go_ret;refine ⟨zal ?_,rfl⟩
 first | rfl | (simp only [nats];rfl)
theorem zvB (h:Nat) (W:World) (h0:(cutN h 13 3)=6):TW 119 #[.int .u32 (h:Nat)] W (.int .u32 (zd5 (zcS h) 0 (zaf h) 0)):=by
 have c2:∀ W,TW 117 #[.int .u32 h,.int .u64 15,.int .u64 13] W (.int .u32 6):=fun W=>by
  have h:=zaq h 15 13 W (by omega) (by omega);rw [h0] at h;exact h
 have c5:∀ W,TW 181 #[.int .u32 (zcS h),.int .u32 0,.int .u32 (zaf h),.int .u32 0] W (.int .u32 (zd5 (zcS h) 0 (zaf h) 0)):=fun W=>zj5 (zcS h) 0 (zaf h) 0 W
 go_enter func119,ntmps119;go_wp2_with ((first | (go_at_call 175;with_reducible refine (zbq h _).tq ?_) | (go_at_call 176;with_reducible refine (zcZ h _).tq ?_) | (go_at_call 117;with_reducible refine (c2 _).tq ?_) | (go_at_call 182;with_reducible refine (zkj h _).tq ?_) | (go_at_call 168;with_reducible refine (zbS h _).tq ?_) | (go_at_call 181;with_reducible refine (c5 _).tq ?_)));go_ret;refine ⟨zal ?_,rfl⟩
 first | rfl | (simp only [nats];rfl)
theorem zri (h:Nat) (W:World) (h0:(cutN h 13 3)=7):TW 119 #[.int .u32 (h:Nat)] W (.int .u32 (zd5 (zcS h) 0 (zaf h) 1)):=by
 have c2:∀ W,TW 117 #[.int .u32 h,.int .u64 15,.int .u64 13] W (.int .u32 7):=fun W=>by
  have h:=zaq h 15 13 W (by omega) (by omega);rw [h0] at h;exact h
 have c5:∀ W,TW 181 #[.int .u32 (zcS h),.int .u32 0,.int .u32 (zaf h),.int .u32 1] W (.int .u32 (zd5 (zcS h) 0 (zaf h) 1)):=fun W=>zj5 (zcS h) 0 (zaf h) 1 W
 go_enter func119,ntmps119;go_wp2_with ((first | (go_at_call 175;with_reducible refine (zbq h _).tq ?_) | (go_at_call 176;with_reducible refine (zcZ h _).tq ?_) | (go_at_call 117;with_reducible refine (c2 _).tq ?_) | (go_at_call 182;with_reducible refine (zkj h _).tq ?_) | (go_at_call 168;with_reducible refine (zbS h _).tq ?_) | (go_at_call 181;with_reducible refine (c5 _).tq ?_)));go_ret;refine ⟨zal ?_,rfl⟩
 first | rfl | (simp only [nats];rfl)
theorem zvz (h:Nat) (W:World):TW 119 #[.int .u32 (h:Nat)] W (.int .u32 ((zbY h:Nat):Int)):=by
 have l0:=zbh h 13 3;have b0:(cutN h 13 3)=0∨(cutN h 13 3)=1∨(cutN h 13 3)=2∨(cutN h 13 3)=3∨(cutN h 13 3)=4∨(cutN h 13 3)=5∨(cutN h 13 3)=6∨(cutN h 13 3)=7:=by omega
 rcases b0 with h0 | h0 | h0 | h0 | h0 | h0 | h0 | h0
 ·rw [show zbY h=(zaA (zaY h) (zag h) 0 (zag h) 19) from by unfold zbY;rw [beqT h0,cond_true]]
  exact zAa h W h0
 ·by_cases h1:(zag h)=0
  ·rw [show zbY h=0 from by unfold zbY;rw [beqF (show (cutN h 13 3)≠0 by omega),cond_false,beqT h0,cond_true,beqT h1,cond_true]]
   exact zqo h W h0 h1
  ·rw [show zbY h=(zaA (zaY h) (zag h) 0 (zag h) 27) from by unfold zbY;rw [beqF (show (cutN h 13 3)≠0 by omega),cond_false,beqT h0,cond_true,beqF h1,cond_false]]
   exact zoM h W h0 h1
 ·rw [show zbY h=(zaA (zaY h) 0 0 (zag h) 19) from by unfold zbY;rw [beqF (show (cutN h 13 3)≠0 by omega),cond_false,beqF (show (cutN h 13 3)≠1 by omega),cond_false,beqT h0,cond_true]]
  exact zlu h W h0
 ·rw [show zbY h=(zdN h) from by unfold zbY;rw [beqF (show (cutN h 13 3)≠0 by omega),cond_false,beqF (show (cutN h 13 3)≠1 by omega),cond_false,beqF (show (cutN h 13 3)≠2 by omega),cond_false,beqT h0,cond_true]]
  exact znu h W h0
 ·rw [show zbY h=(zdh h) from by unfold zbY;rw [beqF (show (cutN h 13 3)≠0 by omega),cond_false,beqF (show (cutN h 13 3)≠1 by omega),cond_false,beqF (show (cutN h 13 3)≠2 by omega),cond_false,beqF (show (cutN h 13 3)≠3 by omega),cond_false,beqT h0,cond_true]]
  exact zxX h W h0
 ·rw [show zbY h=(zfF (zex h) 0) from by unfold zbY;rw [beqF (show (cutN h 13 3)≠0 by omega),cond_false,beqF (show (cutN h 13 3)≠1 by omega),cond_false,beqF (show (cutN h 13 3)≠2 by omega),cond_false,beqF (show (cutN h 13 3)≠3 by omega),cond_false,beqF (show (cutN h 13 3)≠4 by omega),cond_false,beqT h0,cond_true]]
  exact zzN h W h0
 ·rw [show zbY h=(zd5 (zcS h) 0 (zaf h) 0) from by unfold zbY;rw [beqF (show (cutN h 13 3)≠0 by omega),cond_false,beqF (show (cutN h 13 3)≠1 by omega),cond_false,beqF (show (cutN h 13 3)≠2 by omega),cond_false,beqF (show (cutN h 13 3)≠3 by omega),cond_false,beqF (show (cutN h 13 3)≠4 by omega),cond_false,beqF (show (cutN h 13 3)≠5 by omega),cond_false,beqT h0,cond_true]]
  exact zvB h W h0
 ·rw [show zbY h=(zd5 (zcS h) 0 (zaf h) 1) from by unfold zbY;rw [beqF (show (cutN h 13 3)≠0 by omega),cond_false,beqF (show (cutN h 13 3)≠1 by omega),cond_false,beqF (show (cutN h 13 3)≠2 by omega),cond_false,beqF (show (cutN h 13 3)≠3 by omega),cond_false,beqF (show (cutN h 13 3)≠4 by omega),cond_false,beqF (show (cutN h 13 3)≠5 by omega),cond_false,beqF (show (cutN h 13 3)≠6 by omega),cond_false,beqT h0,cond_true]]
  exact zri h W h0
def zcx (h:Nat):Nat:=(bif Nat.beq (cutN h 12 1) 0 then (bif Nat.beq (zaS h) 0 then (bif Nat.beq (zag h) 0 then 0 else (zaA 0 (zag h) 0 0 103)) else (zbf 0 (zaS h) 0 0 (zag h) 51)) else (bif Nat.beq (cutN h 12 1) 1 then (bif Nat.beq (zaS h) 0 then (bif Nat.beq (zag h) 0 then 1048691 else (zaA 0 (zag h) 0 1 103)) else (zbf 0 (zaS h) (zag h) 0 (zag h) 51)) else 0))
theorem zmQ (h:Nat) (W:World) (h0:(cutN h 12 1)=0) (h1:(zaS h)=0) (h2:(zag h)=0):TW 187 #[.int .u32 (h:Nat)] W (.int .u32 0):=by
 have c2:∀ W,TW 117 #[.int .u32 h,.int .u64 12,.int .u64 12] W (.int .u32 0):=fun W=>by
  have h:=zaq h 12 12 W (by omega) (by omega);rw [h0] at h;exact h
 have p1:(((zaS h):Int)==0)=true:=by rw [beq_iff_eq];rw [h1];rfl
 have q1:(((zaS h):Int) != 0)=false:=by rw [bne,p1];rfl
 have p2:(((zag h):Int)==0)=true:=by rw [beq_iff_eq];rw [h2];rfl
 have q2:(((zag h):Int) != 0)=false:=by rw [bne,p2];rfl
 go_enter func187,ntmps187;go_wp2_with ((first | (go_at_call 175;with_reducible refine (zbq h _).tq ?_) | (go_at_call 183;with_reducible refine (zcC h _).tq ?_) | (go_at_call 117;with_reducible refine (c2 _).tq ?_)));go_ret;exact ⟨rfl,rfl⟩
theorem zlK (h:Nat) (W:World) (h0:(cutN h 12 1)=0) (h1:(zaS h)=0) (h2:(zag h)≠0):TW 187 #[.int .u32 (h:Nat)] W (.int .u32 (zaA 0 (zag h) 0 0 103)):=by
 have c2:∀ W,TW 117 #[.int .u32 h,.int .u64 12,.int .u64 12] W (.int .u32 0):=fun W=>by
  have h:=zaq h 12 12 W (by omega) (by omega);rw [h0] at h;exact h
 have c3:∀ W,TW 171 #[.int .u32 0,.int .u32 (zag h),.int .u32 0,.int .u32 0,.int .u32 103] W (.int .u32 (zaA 0 (zag h) 0 0 103)):=fun W=>zcO 0 (zag h) 0 0 103 W
 have p1:(((zaS h):Int)==0)=true:=by rw [beq_iff_eq];rw [h1];rfl
 have q1:(((zaS h):Int) != 0)=false:=by rw [bne,p1];rfl
 have p2:(((zag h):Int)==0)=false:=by rw [beq_eq_false_iff_ne];omega
 have q2:(((zag h):Int) != 0)=true:=by rw [bne,p2];rfl
 go_enter func187,ntmps187;go_wp2_with ((first | (go_at_call 175;with_reducible refine (zbq h _).tq ?_) | (go_at_call 183;with_reducible refine (zcC h _).tq ?_) | (go_at_call 117;with_reducible refine (c2 _).tq ?_) | (go_at_call 171;with_reducible refine (c3 _).tq ?_)));go_ret;refine ⟨zal ?_,rfl⟩
 first | rfl | (simp only [nats];rfl)
theorem zzj (h:Nat) (W:World) (h0:(cutN h 12 1)=0) (h1:(zaS h)≠0):TW 187 #[.int .u32 (h:Nat)] W (.int .u32 (zbf 0 (zaS h) 0 0 (zag h) 51)):=by
 have c2:∀ W,TW 117 #[.int .u32 h,.int .u64 12,.int .u64 12] W (.int .u32 0):=fun W=>by
  have h:=zaq h 12 12 W (by omega) (by omega);rw [h0] at h;exact h
 have c3:∀ W,TW 218 #[.int .u32 0,.int .u32 (zaS h),.int .u32 0,.int .u32 0,.int .u32 (zag h),.int .u32 51] W (.int .u32 (zbf 0 (zaS h) 0 0 (zag h) 51)):=fun W=>zel 0 (zaS h) 0 0 (zag h) 51 W
 have p1:(((zaS h):Int)==0)=false:=by rw [beq_eq_false_iff_ne];omega
 have q1:(((zaS h):Int) != 0)=true:=by rw [bne,p1];rfl
 go_enter func187,ntmps187;go_wp2_with ((first | (go_at_call 175;with_reducible refine (zbq h _).tq ?_) | (go_at_call 183;with_reducible refine (zcC h _).tq ?_) | (go_at_call 117;with_reducible refine (c2 _).tq ?_) | (go_at_call 218;with_reducible refine (c3 _).tq ?_)));go_ret;refine ⟨zal ?_,rfl⟩
 first | rfl | (simp only [nats];rfl)
theorem ztf (h:Nat) (W:World) (h0:(cutN h 12 1)=1) (h1:(zaS h)=0) (h2:(zag h)=0):TW 187 #[.int .u32 (h:Nat)] W (.int .u32 ((1048691:Nat):Int)):=by
 have c2:∀ W,TW 117 #[.int .u32 h,.int .u64 12,.int .u64 12] W (.int .u32 1):=fun W=>by
  have h:=zaq h 12 12 W (by omega) (by omega);rw [h0] at h;exact h
 have p1:(((zaS h):Int)==0)=true:=by rw [beq_iff_eq];rw [h1];rfl
 have q1:(((zaS h):Int) != 0)=false:=by rw [bne,p1];rfl
 have p2:(((zag h):Int)==0)=true:=by rw [beq_iff_eq];rw [h2];rfl
 have q2:(((zag h):Int) != 0)=false:=by rw [bne,p2];rfl
 go_enter func187,ntmps187;go_wp2_with ((first | (go_at_call 175;with_reducible refine (zbq h _).tq ?_) | (go_at_call 183;with_reducible refine (zcC h _).tq ?_) | (go_at_call 117;with_reducible refine (c2 _).tq ?_)));go_ret;refine ⟨zal ?_,rfl⟩
 first | rfl | (simp only [nats];rfl)
theorem zyD (h:Nat) (W:World) (h0:(cutN h 12 1)=1) (h1:(zaS h)=0) (h2:(zag h)≠0):TW 187 #[.int .u32 (h:Nat)] W (.int .u32 (zaA 0 (zag h) 0 1 103)):=by
 have c2:∀ W,TW 117 #[.int .u32 h,.int .u64 12,.int .u64 12] W (.int .u32 1):=fun W=>by
  have h:=zaq h 12 12 W (by omega) (by omega);rw [h0] at h;exact h
 have c3:∀ W,TW 171 #[.int .u32 0,.int .u32 (zag h),.int .u32 0,.int .u32 1,.int .u32 103] W (.int .u32 (zaA 0 (zag h) 0 1 103)):=fun W=>zcO 0 (zag h) 0 1 103 W
 have p1:(((zaS h):Int)==0)=true:=by rw [beq_iff_eq];rw [h1];rfl
 have q1:(((zaS h):Int) != 0)=false:=by rw [bne,p1];rfl
 have p2:(((zag h):Int)==0)=false:=by rw [beq_eq_false_iff_ne];omega
 have q2:(((zag h):Int) != 0)=true:=by rw [bne,p2];rfl
 go_enter func187,ntmps187;go_wp2_with ((first | (go_at_call 175;with_reducible refine (zbq h _).tq ?_) | (go_at_call 183;with_reducible refine (zcC h _).tq ?_) | (go_at_call 117;with_reducible refine (c2 _).tq ?_) | (go_at_call 171;with_reducible refine (c3 _).tq ?_)));go_ret;refine ⟨zal ?_,rfl⟩
 first | rfl | (simp only [nats];rfl)
theorem zow (h:Nat) (W:World) (h0:(cutN h 12 1)=1) (h1:(zaS h)≠0):TW 187 #[.int .u32 (h:Nat)] W (.int .u32 (zbf 0 (zaS h) (zag h) 0 (zag h) 51)):=by
 have c2:∀ W,TW 117 #[.int .u32 h,.int .u64 12,.int .u64 12] W (.int .u32 1):=fun W=>by
  have h:=zaq h 12 12 W (by omega) (by omega);rw [h0] at h;exact h
 have c3:∀ W,TW 218 #[.int .u32 0,.int .u32 (zaS h),.int .u32 (zag h),.int .u32 0,.int .u32 (zag h),.int .u32 51] W (.int .u32 (zbf 0 (zaS h) (zag h) 0 (zag h) 51)):=fun W=>zel 0 (zaS h) (zag h) 0 (zag h) 51 W
 have p1:(((zaS h):Int)==0)=false:=by rw [beq_eq_false_iff_ne];omega
 have q1:(((zaS h):Int) != 0)=true:=by rw [bne,p1];rfl
 go_enter func187,ntmps187;go_wp2_with ((first | (go_at_call 175;with_reducible refine (zbq h _).tq ?_) | (go_at_call 183;with_reducible refine (zcC h _).tq ?_) | (go_at_call 117;with_reducible refine (c2 _).tq ?_) | (go_at_call 218;with_reducible refine (c3 _).tq ?_)));go_ret;refine ⟨zal ?_,rfl⟩
 first | rfl | (simp only [nats];rfl)
theorem ztw (h:Nat) (W:World):TW 187 #[.int .u32 (h:Nat)] W (.int .u32 ((zcx h:Nat):Int)):=by
 have l0:=zbh h 12 1;have b0:(cutN h 12 1)=0∨(cutN h 12 1)=1:=by omega
 rcases b0 with h0 | h0
 ·by_cases h1:(zaS h)=0
  ·by_cases h2:(zag h)=0
   ·rw [show zcx h=0 from by unfold zcx;rw [beqT h0,cond_true,beqT h1,cond_true,beqT h2,cond_true]]
    exact zmQ h W h0 h1 h2
   ·rw [show zcx h=(zaA 0 (zag h) 0 0 103) from by unfold zcx;rw [beqT h0,cond_true,beqT h1,cond_true,beqF h2,cond_false]]
    exact zlK h W h0 h1 h2
  ·rw [show zcx h=(zbf 0 (zaS h) 0 0 (zag h) 51) from by unfold zcx;rw [beqT h0,cond_true,beqF h1,cond_false]]
   exact zzj h W h0 h1
 ·by_cases h1:(zaS h)=0
  ·by_cases h2:(zag h)=0
   ·rw [show zcx h=1048691 from by unfold zcx;rw [beqF (show (cutN h 12 1)≠0 by omega),cond_false,beqT h0,cond_true,beqT h1,cond_true,beqT h2,cond_true]]
    exact ztf h W h0 h1 h2
   ·rw [show zcx h=(zaA 0 (zag h) 0 1 103) from by unfold zcx;rw [beqF (show (cutN h 12 1)≠0 by omega),cond_false,beqT h0,cond_true,beqT h1,cond_true,beqF h2,cond_false]]
    exact zyD h W h0 h1 h2
  ·rw [show zcx h=(zbf 0 (zaS h) (zag h) 0 (zag h) 51) from by unfold zcx;rw [beqF (show (cutN h 12 1)≠0 by omega),cond_false,beqT h0,cond_true,beqF h1,cond_false]]
   exact zow h W h0 h1
def zbN (h:Nat):Nat:=(bif Nat.beq (cutN h 13 3) 0 then (zaA (zb6 h) (zag h) 1 (zag h) 19) else (bif Nat.beq (cutN h 13 3) 2 then (bif Nat.beq (zag h) 0 then 0 else (zaA (zeu h) 2 2 (zag h) 3)) else (bif Nat.beq (cutN h 13 3) 3 then (bif Nat.beq (zag h) 0 then 0 else (zaA (zev h) 2 3 (zag h) 3)) else (bif Nat.beq (cutN h 13 3) 4 then (zcx h) else (bif Nat.beq (cutN h 13 3) 6 then (zcq (zez h) (zaS h) 2 2 35) else (bif Nat.beq (cutN h 13 3) 7 then (zcq (zeI h) (zaS h) 2 3 35) else 0))))))
theorem zmu (h:Nat) (W:World) (h0:(cutN h 13 3)=0):TW 120 #[.int .u32 (h:Nat)] W (.int .u32 (zaA (zb6 h) (zag h) 1 (zag h) 19)):=by
 have c2:∀ W,TW 117 #[.int .u32 h,.int .u64 15,.int .u64 13] W (.int .u32 0):=fun W=>by
  have h:=zaq h 15 13 W (by omega) (by omega);rw [h0] at h;exact h
 have c4:∀ W,TW 171 #[.int .u32 (zb6 h),.int .u32 (zag h),.int .u32 1,.int .u32 (zag h),.int .u32 19] W (.int .u32 (zaA (zb6 h) (zag h) 1 (zag h) 19)):=fun W=>zcO (zb6 h) (zag h) 1 (zag h) 19 W
 go_enter func120,ntmps120;go_wp2_with ((first | (go_at_call 175;with_reducible refine (zbq h _).tq ?_) | (go_at_call 183;with_reducible refine (zcC h _).tq ?_) | (go_at_call 117;with_reducible refine (c2 _).tq ?_) | (go_at_call 184;with_reducible refine (zgU h _).tq ?_) | (go_at_call 171;with_reducible refine (c4 _).tq ?_)));go_ret;refine ⟨zal ?_,rfl⟩
 first | rfl | (simp only [nats];rfl)
theorem zw2 (h:Nat) (W:World) (h0:(cutN h 13 3)=1):TW 120 #[.int .u32 (h:Nat)] W (.int .u32 0):=by
 have c2:∀ W,TW 117 #[.int .u32 h,.int .u64 15,.int .u64 13] W (.int .u32 1):=fun W=>by
  have h:=zaq h 15 13 W (by omega) (by omega);rw [h0] at h;exact h
 go_enter func120,ntmps120;go_wp2_with ((first | (go_at_call 175;with_reducible refine (zbq h _).tq ?_) | (go_at_call 183;with_reducible refine (zcC h _).tq ?_) | (go_at_call 117;with_reducible refine (c2 _).tq ?_)));go_ret;exact ⟨rfl,rfl⟩
theorem ztG (h:Nat) (W:World) (h0:(cutN h 13 3)=2) (h1:(zag h)=0):TW 120 #[.int .u32 (h:Nat)] W (.int .u32 0):=by
 have c2:∀ W,TW 117 #[.int .u32 h,.int .u64 15,.int .u64 13] W (.int .u32 2):=fun W=>by
  have h:=zaq h 15 13 W (by omega) (by omega);rw [h0] at h;exact h
 have p1:(((zag h):Int)==0)=true:=by rw [beq_iff_eq];rw [h1];rfl
 have q1:(((zag h):Int) != 0)=false:=by rw [bne,p1];rfl
 go_enter func120,ntmps120;go_wp2_with ((first | (go_at_call 175;with_reducible refine (zbq h _).tq ?_) | (go_at_call 183;with_reducible refine (zcC h _).tq ?_) | (go_at_call 117;with_reducible refine (c2 _).tq ?_)));go_ret;exact ⟨rfl,rfl⟩
theorem zst (h:Nat) (W:World) (h0:(cutN h 13 3)=2) (h1:(zag h)≠0):TW 120 #[.int .u32 (h:Nat)] W (.int .u32 (zaA (zeu h) 2 2 (zag h) 3)):=by
 have c2:∀ W,TW 117 #[.int .u32 h,.int .u64 15,.int .u64 13] W (.int .u32 2):=fun W=>by
  have h:=zaq h 15 13 W (by omega) (by omega);rw [h0] at h;exact h
 have c4:∀ W,TW 171 #[.int .u32 (zeu h),.int .u32 2,.int .u32 2,.int .u32 (zag h),.int .u32 3] W (.int .u32 (zaA (zeu h) 2 2 (zag h) 3)):=fun W=>zcO (zeu h) 2 2 (zag h) 3 W
 have p1:(((zag h):Int)==0)=false:=by rw [beq_eq_false_iff_ne];omega
 have q1:(((zag h):Int) != 0)=true:=by rw [bne,p1];rfl
 go_enter func120,ntmps120;go_wp2_with ((first | (go_at_call 175;with_reducible refine (zbq h _).tq ?_) | (go_at_call 183;with_reducible refine (zcC h _).tq ?_) | (go_at_call 117;with_reducible refine (c2 _).tq ?_) | (go_at_call 185;with_reducible refine (zwg h _).tq ?_) | (go_at_call 171;with_reducible refine (c4 _).tq ?_)));go_ret;refine ⟨zal ?_,rfl⟩
 first | rfl | (simp only [nats];rfl)
theorem zz6 (h:Nat) (W:World) (h0:(cutN h 13 3)=3) (h1:(zag h)=0):TW 120 #[.int .u32 (h:Nat)] W (.int .u32 0):=by
 have c2:∀ W,TW 117 #[.int .u32 h,.int .u64 15,.int .u64 13] W (.int .u32 3):=fun W=>by
  have h:=zaq h 15 13 W (by omega) (by omega);rw [h0] at h;exact h
 have p1:(((zag h):Int)==0)=true:=by rw [beq_iff_eq];rw [h1];rfl
 have q1:(((zag h):Int) != 0)=false:=by rw [bne,p1];rfl
 go_enter func120,ntmps120;go_wp2_with ((first | (go_at_call 175;with_reducible refine (zbq h _).tq ?_) | (go_at_call 183;with_reducible refine (zcC h _).tq ?_) | (go_at_call 117;with_reducible refine (c2 _).tq ?_)));go_ret;exact ⟨rfl,rfl⟩
theorem zp8 (h:Nat) (W:World) (h0:(cutN h 13 3)=3) (h1:(zag h)≠0):TW 120 #[.int .u32 (h:Nat)] W (.int .u32 (zaA (zev h) 2 3 (zag h) 3)):=by
 have c2:∀ W,TW 117 #[.int .u32 h,.int .u64 15,.int .u64 13] W (.int .u32 3):=fun W=>by
  have h:=zaq h 15 13 W (by omega) (by omega);rw [h0] at h;exact h
 have c4:∀ W,TW 171 #[.int .u32 (zev h),.int .u32 2,.int .u32 3,.int .u32 (zag h),.int .u32 3] W (.int .u32 (zaA (zev h) 2 3 (zag h) 3)):=fun W=>zcO (zev h) 2 3 (zag h) 3 W
 have p1:(((zag h):Int)==0)=false:=by rw [beq_eq_false_iff_ne];omega
 have q1:(((zag h):Int) != 0)=true:=by rw [bne,p1];rfl
 go_enter func120,ntmps120;go_wp2_with ((first | (go_at_call 175;with_reducible refine (zbq h _).tq ?_) | (go_at_call 183;with_reducible refine (zcC h _).tq ?_) | (go_at_call 117;with_reducible refine (c2 _).tq ?_) | (go_at_call 186;with_reducible refine (zyK h _).tq ?_) | (go_at_call 171;with_reducible refine (c4 _).tq ?_)));go_ret;refine ⟨zal ?_,rfl⟩
 first | rfl | (simp only [nats];rfl)
theorem zlO (h:Nat) (W:World) (h0:(cutN h 13 3)=4):TW 120 #[.int .u32 (h:Nat)] W (.int .u32 (zcx h)):=by
 have c2:∀ W,TW 117 #[.int .u32 h,.int .u64 15,.int .u64 13] W (.int .u32 4):=fun W=>by
  have h:=zaq h 15 13 W (by omega) (by omega);rw [h0] at h;exact h
 go_enter func120,ntmps120;go_wp2_with ((first | (go_at_call 175;with_reducible refine (zbq h _).tq ?_) | (go_at_call 183;with_reducible refine (zcC h _).tq ?_) | (go_at_call 117;with_reducible refine (c2 _).tq ?_) | (go_at_call 187;with_reducible refine (ztw h _).tq ?_)));go_ret;refine ⟨zal ?_,rfl⟩
 first | rfl | (simp only [nats];rfl)
theorem zvW (h:Nat) (W:World) (h0:(cutN h 13 3)=5):TW 120 #[.int .u32 (h:Nat)] W (.int .u32 0):=by
 have c2:∀ W,TW 117 #[.int .u32 h,.int .u64 15,.int .u64 13] W (.int .u32 5):=fun W=>by
  have h:=zaq h 15 13 W (by omega) (by omega);rw [h0] at h;exact h
 go_enter func120,ntmps120;go_wp2_with ((first | (go_at_call 175;with_reducible refine (zbq h _).tq ?_) | (go_at_call 183;with_reducible refine (zcC h _).tq ?_) | (go_at_call 117;with_reducible refine (c2 _).tq ?_)));go_ret;exact ⟨rfl,rfl⟩
theorem zuU (h:Nat) (W:World) (h0:(cutN h 13 3)=6):TW 120 #[.int .u32 (h:Nat)] W (.int .u32 (zcq (zez h) (zaS h) 2 2 35)):=by
 have c2:∀ W,TW 117 #[.int .u32 h,.int .u64 15,.int .u64 13] W (.int .u32 6):=fun W=>by
  have h:=zaq h 15 13 W (by omega) (by omega);rw [h0] at h;exact h
 have c4:∀ W,TW 174 #[.int .u32 (zez h),.int .u32 (zaS h),.int .u32 2,.int .u32 2,.int .u32 35] W (.int .u32 (zcq (zez h) (zaS h) 2 2 35)):=fun W=>zgd (zez h) (zaS h) 2 2 35 W
 go_enter func120,ntmps120;go_wp2_with ((first | (go_at_call 175;with_reducible refine (zbq h _).tq ?_) | (go_at_call 183;with_reducible refine (zcC h _).tq ?_) | (go_at_call 117;with_reducible refine (c2 _).tq ?_) | (go_at_call 188;with_reducible refine (zpj h _).tq ?_) | (go_at_call 174;with_reducible refine (c4 _).tq ?_)));go_ret;refine ⟨zal ?_,rfl⟩
 first | rfl | (simp only [nats];rfl)
theorem zxa (h:Nat) (W:World) (h0:(cutN h 13 3)=7):TW 120 #[.int .u32 (h:Nat)] W (.int .u32 (zcq (zeI h) (zaS h) 2 3 35)):=by
 have c2:∀ W,TW 117 #[.int .u32 h,.int .u64 15,.int .u64 13] W (.int .u32 7):=fun W=>by
  have h:=zaq h 15 13 W (by omega) (by omega);rw [h0] at h;exact h
 have c4:∀ W,TW 174 #[.int .u32 (zeI h),.int .u32 (zaS h),.int .u32 2,.int .u32 3,.int .u32 35] W (.int .u32 (zcq (zeI h) (zaS h) 2 3 35)):=fun W=>zgd (zeI h) (zaS h) 2 3 35 W
 go_enter func120,ntmps120;go_wp2_with ((first | (go_at_call 175;with_reducible refine (zbq h _).tq ?_) | (go_at_call 183;with_reducible refine (zcC h _).tq ?_) | (go_at_call 117;with_reducible refine (c2 _).tq ?_) | (go_at_call 189;with_reducible refine (zy9 h _).tq ?_) | (go_at_call 174;with_reducible refine (c4 _).tq ?_)));go_ret;refine ⟨zal ?_,rfl⟩
 first | rfl | (simp only [nats];rfl)
theorem zom (h:Nat) (W:World):TW 120 #[.int .u32 (h:Nat)] W (.int .u32 ((zbN h:Nat):Int)):=by
 have l0:=zbh h 13 3;have b0:(cutN h 13 3)=0∨(cutN h 13 3)=1∨(cutN h 13 3)=2∨(cutN h 13 3)=3∨(cutN h 13 3)=4∨(cutN h 13 3)=5∨(cutN h 13 3)=6∨(cutN h 13 3)=7:=by omega
 rcases b0 with h0 | h0 | h0 | h0 | h0 | h0 | h0 | h0
 ·rw [show zbN h=(zaA (zb6 h) (zag h) 1 (zag h) 19) from by unfold zbN;rw [beqT h0,cond_true]]
  exact zmu h W h0
 ·rw [show zbN h=0 from by unfold zbN;rw [beqF (show (cutN h 13 3)≠0 by omega),cond_false,beqF (show (cutN h 13 3)≠2 by omega),cond_false,beqF (show (cutN h 13 3)≠3 by omega),cond_false,beqF (show (cutN h 13 3)≠4 by omega),cond_false,beqF (show (cutN h 13 3)≠6 by omega),cond_false,beqF (show (cutN h 13 3)≠7 by omega),cond_false]]
  exact zw2 h W h0
 ·by_cases h1:(zag h)=0
  ·rw [show zbN h=0 from by unfold zbN;rw [beqF (show (cutN h 13 3)≠0 by omega),cond_false,beqT h0,cond_true,beqT h1,cond_true]]
   exact ztG h W h0 h1
  ·rw [show zbN h=(zaA (zeu h) 2 2 (zag h) 3) from by unfold zbN;rw [beqF (show (cutN h 13 3)≠0 by omega),cond_false,beqT h0,cond_true,beqF h1,cond_false]]
   exact zst h W h0 h1
 ·by_cases h1:(zag h)=0
  ·rw [show zbN h=0 from by unfold zbN;rw [beqF (show (cutN h 13 3)≠0 by omega),cond_false,beqF (show (cutN h 13 3)≠2 by omega),cond_false,beqT h0,cond_true,beqT h1,cond_true]]
   exact zz6 h W h0 h1
  ·rw [show zbN h=(zaA (zev h) 2 3 (zag h) 3) from by unfold zbN;rw [beqF (show (cutN h 13 3)≠0 by omega),cond_false,beqF (show (cutN h 13 3)≠2 by omega),cond_false,beqT h0,cond_true,beqF h1,cond_false]]
   exact zp8 h W h0 h1
 ·rw [show zbN h=(zcx h) from by unfold zbN;rw [beqF (show (cutN h 13 3)≠0 by omega),cond_false,beqF (show (cutN h 13 3)≠2 by omega),cond_false,beqF (show (cutN h 13 3)≠3 by omega),cond_false,beqT h0,cond_true]]
  exact zlO h W h0
 ·rw [show zbN h=0 from by unfold zbN;rw [beqF (show (cutN h 13 3)≠0 by omega),cond_false,beqF (show (cutN h 13 3)≠2 by omega),cond_false,beqF (show (cutN h 13 3)≠3 by omega),cond_false,beqF (show (cutN h 13 3)≠4 by omega),cond_false,beqF (show (cutN h 13 3)≠6 by omega),cond_false,beqF (show (cutN h 13 3)≠7 by omega),cond_false]]
  exact zvW h W h0
 ·rw [show zbN h=(zcq (zez h) (zaS h) 2 2 35) from by unfold zbN;rw [beqF (show (cutN h 13 3)≠0 by omega),cond_false,beqF (show (cutN h 13 3)≠2 by omega),cond_false,beqF (show (cutN h 13 3)≠3 by omega),cond_false,beqF (show (cutN h 13 3)≠4 by omega),cond_false,beqT h0,cond_true]]
  exact zuU h W h0
 ·rw [show zbN h=(zcq (zeI h) (zaS h) 2 3 35) from by unfold zbN;rw [beqF (show (cutN h 13 3)≠0 by omega),cond_false,beqF (show (cutN h 13 3)≠2 by omega),cond_false,beqF (show (cutN h 13 3)≠3 by omega),cond_false,beqF (show (cutN h 13 3)≠4 by omega),cond_false,beqF (show (cutN h 13 3)≠6 by omega),cond_false,beqT h0,cond_true]]
  exact zxa h W h0
def zbr (h:Nat):Nat:=(bif Nat.beq (cutN h 0 2) 0 then (zbW h) else (bif Nat.beq (cutN h 0 2) 1 then (zbY h) else (bif Nat.beq (cutN h 0 2) 2 then (zbN h) else 0)))
theorem zok (h:Nat) (W:World) (h0:(cutN h 0 2)=0):TW 98 #[.int .u32 (h:Nat)] W (.int .u32 (zbW h)):=by
 have c0:∀ W,TW 117 #[.int .u32 h,.int .u64 1,.int .u64 0] W (.int .u32 0):=fun W=>by
  have h:=zaq h 1 0 W (by omega) (by omega);rw [h0] at h;exact h
 go_enter func98,ntmps98;go_wp2_with ((first | (go_at_call 117;with_reducible refine (c0 _).tq ?_) | (go_at_call 118;with_reducible refine (znF h _).tq ?_)));go_ret;refine ⟨zal ?_,rfl⟩
 first | rfl | (simp only [nats];rfl)
theorem zyP (h:Nat) (W:World) (h0:(cutN h 0 2)=1):TW 98 #[.int .u32 (h:Nat)] W (.int .u32 (zbY h)):=by
 have c0:∀ W,TW 117 #[.int .u32 h,.int .u64 1,.int .u64 0] W (.int .u32 1):=fun W=>by
  have h:=zaq h 1 0 W (by omega) (by omega);rw [h0] at h;exact h
 go_enter func98,ntmps98;go_wp2_with ((first | (go_at_call 117;with_reducible refine (c0 _).tq ?_) | (go_at_call 119;with_reducible refine (zvz h _).tq ?_)));go_ret;refine ⟨zal ?_,rfl⟩
 first | rfl | (simp only [nats];rfl)
theorem ztN (h:Nat) (W:World) (h0:(cutN h 0 2)=2):TW 98 #[.int .u32 (h:Nat)] W (.int .u32 (zbN h)):=by
 have c0:∀ W,TW 117 #[.int .u32 h,.int .u64 1,.int .u64 0] W (.int .u32 2):=fun W=>by
  have h:=zaq h 1 0 W (by omega) (by omega);rw [h0] at h;exact h
 go_enter func98,ntmps98;go_wp2_with ((first | (go_at_call 117;with_reducible refine (c0 _).tq ?_) | (go_at_call 120;with_reducible refine (zom h _).tq ?_)));go_ret;refine ⟨zal ?_,rfl⟩
 first | rfl | (simp only [nats];rfl)
theorem znV (h:Nat) (W:World) (h0:(cutN h 0 2)=3):TW 98 #[.int .u32 (h:Nat)] W (.int .u32 0):=by
 have c0:∀ W,TW 117 #[.int .u32 h,.int .u64 1,.int .u64 0] W (.int .u32 3):=fun W=>by
  have h:=zaq h 1 0 W (by omega) (by omega);rw [h0] at h;exact h
 go_enter func98,ntmps98;go_wp2_with (go_at_call 117;with_reducible refine (c0 _).tq ?_);go_ret;exact ⟨rfl,rfl⟩
theorem zcd (h:Nat) (W:World):TW 98 #[.int .u32 (h:Nat)] W (.int .u32 ((zbr h:Nat):Int)):=by
 have l0:=zbh h 0 2;have b0:(cutN h 0 2)=0∨(cutN h 0 2)=1∨(cutN h 0 2)=2∨(cutN h 0 2)=3:=by omega
 rcases b0 with h0 | h0 | h0 | h0
 ·rw [show zbr h=(zbW h) from by unfold zbr;rw [beqT h0,cond_true]]
  exact zok h W h0
 ·rw [show zbr h=(zbY h) from by unfold zbr;rw [beqF (show (cutN h 0 2)≠0 by omega),cond_false,beqT h0,cond_true]]
  exact zyP h W h0
 ·rw [show zbr h=(zbN h) from by unfold zbr;rw [beqF (show (cutN h 0 2)≠0 by omega),cond_false,beqF (show (cutN h 0 2)≠1 by omega),cond_false,beqT h0,cond_true]]
  exact ztN h W h0
 ·rw [show zbr h=0 from by unfold zbr;rw [beqF (show (cutN h 0 2)≠0 by omega),cond_false,beqF (show (cutN h 0 2)≠1 by omega),cond_false,beqF (show (cutN h 0 2)≠2 by omega),cond_false]]
  exact znV h W h0
end Go.Proofs.YtplcfdnfeclpmaaGreatDoor.Br
