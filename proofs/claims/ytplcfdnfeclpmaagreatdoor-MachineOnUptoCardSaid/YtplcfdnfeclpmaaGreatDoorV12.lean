/- MachineOn, part 12. -/
import Derived.Handy
import Derived.Below
import Derived.Deep.Draws
import Derived.Deep.Slices
import Derived.BigQuiet
import Derived.Carry
import Derived.ChangeMaps
import Derived.Deep.DeepCutAuto
import Derived.Deep.RegionHeld3
import Derived.Deep.RegionWith
import Derived.IntWalk
import Derived.Laws.BitsAllLaws
import Derived.Lib.Hide
import Derived.Lib.SmallJoins
import Derived.OpenShut
import Derived.ProofKit
import Derived.SizedLaws
import Derived.WalkKit
import Derived.WalkLawsBesides
import Derived.Test.YtplcfdnfeclpmaaGreatDoorV07
import Derived.Test.YtplcfdnfeclpmaaGreatDoorV11
set_option maxHeartbeats 4000000
set_option maxRecDepth 100000
open Go.Lib (hid)
open Go Go.RowKit Go.Deep Go.Joins Go.Proofs.Tryz
namespace Go.Proofs.YtplcfdnfeclpmaaGreatDoor.Br
theorem zqm (a:Nat):bits .and .u16 (a:Int) 3=((a % 4:Nat):Int):=by
 show IntKind.u16.wrap ((BitVec.ofInt 16 (a:Int) &&& BitVec.ofInt 16 ((3:Nat):Int)).toNat:Int)=_
 rw [BitVec.ofInt_natCast,BitVec.ofInt_natCast,BitVec.toNat_and,BitVec.toNat_ofNat,BitVec.toNat_ofNat,show 3 % 2 ^ 16=2 ^ 2 - 1 by rfl,Nat.and_two_pow_sub_one_eq_mod,IntKind.wrap_u16];omega
def zdB (h:Nat):Bool:=!Nat.beq (h % 4) 3
def errN (w:Nat):Int:=bif Nat.beq w 0 then 60 else 0
theorem zzl (h:Nat):(bits .and .u16 (h:Int) 3 != 3)=zdB h:=by
 rw [zqm];unfold zdB
 by_cases e:h % 4=3
 ·rw [e];rfl
 ·rw [beqF e]
  have:((((h % 4:Nat):Int))==3)=false:=by rw [beq_eq_false_iff_ne];omega
  rw [bne,this]
theorem zgS (h:Nat) (W:World):TW 73 #[.int .u16 h] W (.bool (zdB h)):=by
 go_enter func73,ntmps73
 go_wp2
 go_ret;exact ⟨zaT (zzl h),rfl⟩
theorem zw3 (h:Nat) (W:World) (hh:h<65536) (z:zbw h=0):TW 74 #[.int .u16 h] W (.tuple #[.int .u32 0,.int .i64 60]):=by
 have p0:(((zbw h:Nat):Int)==0)=true:=by rw [beq_iff_eq];rw [z];rfl
 go_enter func74,ntmps74;go_wp2_with (go_at_call 98;with_reducible refine (zcl h _).tq ?_)
 go_returns
 exact ⟨rfl,rfl⟩
theorem zir (h:Nat) (W:World) (hh:h<65536) (z:zbw h≠0):TW 74 #[.int .u16 h] W (.tuple #[.int .u32 ((zbw h:Nat):Int),.int .i64 0]):=by
 have p0:(((zbw h:Nat):Int)==0)=false:=by rw [beq_eq_false_iff_ne];omega
 go_enter func74,ntmps74;go_wp2_with (go_at_call 98;with_reducible refine (zcl h _).tq ?_)
 go_returns
 exact ⟨rfl,rfl⟩
theorem zAc (h:Nat) (W:World) (hh:h<65536):TW 74 #[.int .u16 h] W (.tuple #[.int .u32 ((zbw h:Nat):Int),.int .i64 (errN (zbw h))]):=by
 by_cases z:zbw h=0
 ·rw [z]
  exact zw3 h W hh z
 ·rw [show errN (zbw h)=0 by unfold errN;rw [beqF z,cond_false]]
  exact zir h W hh z
end Go.Proofs.YtplcfdnfeclpmaaGreatDoor.Br
namespace Go.Proofs.YtplcfdnfeclpmaaGreatDoor.De
theorem zaT {a b:Bool} (h:a=b):Ending.returned (.bool a)=.returned (.bool b):=by rw [h]
theorem zam {k:IntKind} {a b:Int} (h:a=b):Ending.returned (.int k a)=.returned (.int k b):=by rw [h]
theorem zag (w:World) (a:Obj):Below w.heap.size w (w.alloc a):=(Below.refl _ _).alloc (Nat.le_refl _) _
theorem zac {w w1 w2:World} (h:Below w.heap.size w w1) (h2:Below w1.heap.size w1 w2):Below w.heap.size w w2:=h.trans (h2.mono h.size)
def cutN (w l k:Nat):Nat:=w / 2 ^ l % 2 ^ k
theorem zbk (w l k:Nat):cutN w l k<2 ^ k:=Nat.mod_lt _ (Nat.two_pow_pos k)
theorem zij (w h l:Nat) (hl:l≤h) (hh:h≤31):w*2 ^ (31 - h) % 4294967296 / 2 ^ (31 - h+l)=cutN w l (h+1 - l):=by
 unfold cutN
 have e:(4294967296:Nat)=2 ^ (h+1)*2 ^ (31 - h):=by
  rw [← Nat.pow_add,show h+1+(31 - h)=32 by omega]
 rw [e,Nat.mul_mod_mul_right,Nat.pow_add 2 (31 - h) l,← Nat.div_div_eq_div_mul,Nat.mul_div_cancel _ (Nat.two_pow_pos _)];rw [show (2:Nat) ^ (h+1)=2 ^ l*2 ^ (h+1 - l) by rw [← Nat.pow_add,show l+(h+1 - l)=h+1 by omega]];rw [Nat.mod_mul_right_div_self]
theorem zar (w h l:Nat) (W:World) (hh:h≤31) (hl:l≤h) :
  TW 121 #[.int .u32 w,.int .u64 h,.int .u64 l] W (.int .u32 (cutN w l (h+1 - l):Nat)):=by
 have E:=hid (zij w h l hl hh);have e1:(31 - (h:Int)).toNat=31 - h:=by omega
 have e2:(31 - (h:Int)+(l:Int)).toNat=31 - h+l:=by omega
 go_enter func121,ntmps121
 go_wp2
 go_ret;refine ⟨zam ?_,rfl⟩
 rw [← E.out];simp only [Int.natCast_ediv,Int.natCast_emod,Int.natCast_mul,Int.natCast_pow,Int.cast_ofNat_Int]
theorem orN {a b i:Nat} (h:b<2 ^ i):a*2 ^ i ||| b=a*2 ^ i+b:=by
 rw [Nat.mul_comm,← Nat.two_pow_add_eq_or_of_lt h]
theorem zfD {a b:Nat} (i:Nat) (h:b<2 ^ i) (h1:a*2 ^ i+b<4294967296):bits .or .u32 ((a*2 ^ i:Nat):Int) (b:Int)=((a*2 ^ i+b:Nat):Int):=by
 rw [u32_or_nat _ _ (by omega) (by omega),orN h]
theorem zwY {b i:Nat} (h:b<2 ^ i) (hi:i≤62):bits .or .i64 (-((2 ^ i:Nat):Int)) (b:Int)=(b:Int) - ((2 ^ i:Nat):Int):=by
 have hp:(2:Nat) ^ i≤2 ^ 62:=Nat.pow_le_pow_right (by omega) hi;have h0:(0:Nat)<2 ^ i:=Nat.two_pow_pos i;show IntKind.i64.wrap ((BitVec.ofInt 64 (-((2 ^ i:Nat):Int)) ||| BitVec.ofInt 64 (b:Int)).toNat:Int)=_
 have e1:(BitVec.ofInt 64 (-((2 ^ i:Nat):Int))).toNat=(2 ^ (64 - i) - 1)*2 ^ i:=by
  have hm:(2 ^ (64 - i))*2 ^ i=(2:Nat) ^ 64:=by rw [← Nat.pow_add,show 64 - i+i=64 by omega]
  rw [Nat.sub_mul,hm,BitVec.toNat_ofInt];omega
 have e2:(BitVec.ofInt 64 (b:Int)).toNat=b:=by
  rw [BitVec.ofInt_natCast,BitVec.toNat_ofNat];exact Nat.mod_eq_of_lt (by omega)
 have hm:(2 ^ (64 - i))*2 ^ i=(2:Nat) ^ 64:=by rw [← Nat.pow_add,show 64 - i+i=64 by omega]
 rw [BitVec.toNat_or,e1,e2,orN h,Nat.sub_mul,hm,IntKind.wrap_i64];omega
theorem zf5 {s f:Nat} (i:Nat) (hs:s≤1) (h:f<2 ^ i) (hi:i≤62):bits .or .i64 (-(s:Int)*((2 ^ i:Nat):Int)) (f:Int)=(f:Int) - ((2 ^ i:Nat):Int)*(s:Int):=by
 have hp:(2:Nat) ^ i≤2 ^ 62:=Nat.pow_le_pow_right (by omega) hi;rcases (show s=0∨s=1 by omega) with rfl | rfl
 ·show IntKind.i64.wrap ((BitVec.ofInt 64 (-((0:Nat):Int)*((2 ^ i:Nat):Int)) ||| BitVec.ofInt 64 (f:Int)).toNat:Int)=_
  have e2:(BitVec.ofInt 64 (f:Int)).toNat=f:=by
   rw [BitVec.ofInt_natCast,BitVec.toNat_ofNat];exact Nat.mod_eq_of_lt (by omega)
  rw [BitVec.toNat_or,e2,show -((0:Nat):Int)*((2 ^ i:Nat):Int)=0 by simp,show (BitVec.ofInt 64 0).toNat=0 by rfl,Nat.zero_or,IntKind.wrap_i64];omega
 ·rw [show -((1:Nat):Int)*((2 ^ i:Nat):Int)=-((2 ^ i:Nat):Int) by omega,zwY h hi]
  omega
theorem zaR (w:Nat) (W:World):TW 121 #[.int .u32 w,.int .u64 14,.int .u64 12] W (.int .u32 (cutN w 12 3:Nat)):=zar w 14 12 W (by omega) (by omega)
theorem zcH (w:Nat) (W:World):TW 121 #[.int .u32 w,.int .u64 6,.int .u64 0] W (.int .u32 (cutN w 0 7:Nat)):=zar w 6 0 W (by omega) (by omega)
theorem zeW (w:Nat) (W:World):TW 121 #[.int .u32 w,.int .u64 31,.int .u64 26] W (.int .u32 (cutN w 26 6:Nat)):=zar w 31 26 W (by omega) (by omega)
theorem zeX (w:Nat) (W:World):TW 121 #[.int .u32 w,.int .u64 25,.int .u64 20] W (.int .u32 (cutN w 20 6:Nat)):=zar w 25 20 W (by omega) (by omega)
theorem zcp (w:Nat) (W:World):TW 121 #[.int .u32 w,.int .u64 31,.int .u64 25] W (.int .u32 (cutN w 25 7:Nat)):=zar w 31 25 W (by omega) (by omega)
theorem zco (w:Nat) (W:World):TW 121 #[.int .u32 w,.int .u64 24,.int .u64 20] W (.int .u32 (cutN w 20 5:Nat)):=zar w 24 20 W (by omega) (by omega)
theorem zdw (w:Nat) (W:World):TW 121 #[.int .u32 w,.int .u64 31,.int .u64 27] W (.int .u32 (cutN w 27 5:Nat)):=zar w 31 27 W (by omega) (by omega)
theorem zdH (w:Nat) (W:World):TW 121 #[.int .u32 w,.int .u64 31,.int .u64 20] W (.int .u32 (cutN w 20 12:Nat)):=zar w 31 20 W (by omega) (by omega)
theorem zjy (w:Nat) (W:World):TW 121 #[.int .u32 w,.int .u64 11,.int .u64 7] W (.int .u32 (cutN w 7 5:Nat)):=zar w 11 7 W (by omega) (by omega)
theorem zmR (w:Nat) (W:World):TW 121 #[.int .u32 w,.int .u64 19,.int .u64 15] W (.int .u32 (cutN w 15 5:Nat)):=zar w 19 15 W (by omega) (by omega)
theorem zv1 (w:Nat) (W:World):TW 121 #[.int .u32 w,.int .u64 31,.int .u64 31] W (.int .u32 (cutN w 31 1:Nat)):=zar w 31 31 W (by omega) (by omega)
theorem zzB (w:Nat) (W:World):TW 121 #[.int .u32 w,.int .u64 7,.int .u64 7] W (.int .u32 (cutN w 7 1:Nat)):=zar w 7 7 W (by omega) (by omega)
theorem zuz (w:Nat) (W:World):TW 121 #[.int .u32 w,.int .u64 30,.int .u64 25] W (.int .u32 (cutN w 25 6:Nat)):=zar w 30 25 W (by omega) (by omega)
theorem zvQ (w:Nat) (W:World):TW 121 #[.int .u32 w,.int .u64 11,.int .u64 8] W (.int .u32 (cutN w 8 4:Nat)):=zar w 11 8 W (by omega) (by omega)
theorem zvM (w:Nat) (W:World):TW 121 #[.int .u32 w,.int .u64 31,.int .u64 12] W (.int .u32 (cutN w 12 20:Nat)):=zar w 31 12 W (by omega) (by omega)
theorem zoR (w:Nat) (W:World):TW 121 #[.int .u32 w,.int .u64 19,.int .u64 12] W (.int .u32 (cutN w 12 8:Nat)):=zar w 19 12 W (by omega) (by omega)
theorem zu0 (w:Nat) (W:World):TW 121 #[.int .u32 w,.int .u64 20,.int .u64 20] W (.int .u32 (cutN w 20 1:Nat)):=zar w 20 20 W (by omega) (by omega)
theorem zsn (w:Nat) (W:World):TW 121 #[.int .u32 w,.int .u64 30,.int .u64 21] W (.int .u32 (cutN w 21 10:Nat)):=zar w 30 21 W (by omega) (by omega)
theorem zcM (w:Nat):cutN w 0 7<128:=zbk w 0 7
theorem zmh (w:Nat):cutN w 7 1<2:=zbk w 7 1
theorem zlb (w:Nat):cutN w 7 5<32:=zbk w 7 5
theorem zwv (w:Nat):cutN w 8 4<16:=zbk w 8 4
theorem zb1 (w:Nat):cutN w 12 3<8:=zbk w 12 3
theorem zwH (w:Nat):cutN w 12 8<256:=zbk w 12 8
theorem zw5 (w:Nat):cutN w 12 20<1048576:=zbk w 12 20
theorem zpW (w:Nat):cutN w 15 5<32:=zbk w 15 5
theorem zzW (w:Nat):cutN w 20 1<2:=zbk w 20 1
theorem zew (w:Nat):cutN w 20 5<32:=zbk w 20 5
theorem zfg (w:Nat):cutN w 20 6<64:=zbk w 20 6
theorem ziB (w:Nat):cutN w 20 12<4096:=zbk w 20 12
theorem znB (w:Nat):cutN w 21 10<1024:=zbk w 21 10
theorem zsh (w:Nat):cutN w 25 6<64:=zbk w 25 6
theorem zvn (w:Nat):cutN w 25 7<128:=zbk w 25 7
theorem zeV (w:Nat):cutN w 31 1<2:=zbk w 31 1
end Go.Proofs.YtplcfdnfeclpmaaGreatDoor.De
namespace Go.Proofs.YtplcfdnfeclpmaaGreatDoor.De
theorem zft (w:Nat) (W:World) :
  TW 190 #[.int .u32 w] W (.int .i64 (cutN w 7 5:Nat)):=by
 have h:=zlb w;go_enter func190,ntmps190;go_wp2_with (go_at_call 121;(first | (with_reducible refine (zjy w _).tq ?_)));go_ret;exact ⟨rfl,rfl⟩
theorem zhI (w:Nat) (W:World) :
  TW 192 #[.int .u32 w] W (.int .i64 (cutN w 15 5:Nat)):=by
 have h:=zpW w;go_enter func192,ntmps192;go_wp2_with (go_at_call 121;(first | (with_reducible refine (zmR w _).tq ?_)));go_ret;exact ⟨rfl,rfl⟩
theorem zj6 (w:Nat) (W:World) :
  TW 193 #[.int .u32 w] W (.int .i64 (cutN w 20 5:Nat)):=by
 have h:=zew w;go_enter func193,ntmps193;go_wp2_with (go_at_call 121;(first | (with_reducible refine (zco w _).tq ?_)));go_ret;exact ⟨rfl,rfl⟩
theorem zfE (w:Nat) (W:World) :
  TW 191 #[.int .u32 w] W (.int .i64 (-(cutN w 31 1:Nat))):=by
 have h:=zeV w;go_enter func191,ntmps191;go_wp2_with (go_at_call 121;(first | (with_reducible refine (zv1 w _).tq ?_)));go_ret;exact ⟨rfl,rfl⟩
def immI (w:Nat):Int:=(cutN w 20 12:Nat) - 4096*(cutN w 31 1:Nat)
def immS (w:Nat):Int:=(cutN w 25 7*32+cutN w 7 5:Nat) - 4096*(cutN w 31 1:Nat)
def immB (w:Nat):Int:=(cutN w 7 1*2048+cutN w 25 6*32+cutN w 8 4*2:Nat) - 4096*(cutN w 31 1:Nat)
def immU (w:Nat):Int:=(cutN w 12 20*4096:Nat) - 4294967296*(cutN w 31 1:Nat)
def immJ (w:Nat):Int:=(cutN w 12 8*4096+cutN w 20 1*2048+cutN w 21 10*2:Nat) - 1048576*(cutN w 31 1:Nat)
theorem zff (w:Nat) (W:World) :
  TW 126 #[.int .u32 w] W (.int .i64 (immI w)):=by
 have h1:=zeV w;have h2:=ziB w;go_enter func126,ntmps126;go_wp2_with (first | (go_at_call 191;(first | (with_reducible refine (zfE w _).tq ?_))) | (go_at_call 121;(first | (with_reducible refine (zdH w _).tq ?_))));go_ret;refine ⟨zam ?_,rfl⟩
 exact zf5 12 (by omega) (by omega) (by omega)
theorem zr4 (w:Nat) (W:World) :
  TW 129 #[.int .u32 w] W (.int .i64 (immS w)):=by
 have h1:=zeV w;have h2:=zvn w;have h3:=zlb w;go_enter func129,ntmps129;go_wp2_with (first | (go_at_call 191;(first | (with_reducible refine (zfE w _).tq ?_))) | (go_at_call 121;(first | (with_reducible first | refine (zcp w _).tq ?_ | refine (zjy w _).tq ?_))));go_ret;refine ⟨zam ?_,rfl⟩
 have e1:bits .or .u32 ((cutN w 25 7:Nat)*32) ((cutN w 7 5:Nat))=((cutN w 25 7*32+cutN w 7 5):Nat):=by have h:=zfD (a:=cutN w 25 7) (b:=cutN w 7 5) 5 (by omega) (by omega);simpa using h
 rw [e1,IntWalk.wrap64_in _ (by omega)];exact zf5 12 (by omega) (by omega) (by omega)
theorem zpL (w:Nat) (W:World) :
  TW 128 #[.int .u32 w] W (.int .i64 (immB w)):=by
 have h1:=zeV w;have h2:=zmh w;have h3:=zsh w;have h4:=zwv w;go_enter func128,ntmps128;go_wp2_with (first | (go_at_call 191;(first | (with_reducible refine (zfE w _).tq ?_))) | (go_at_call 121;(first | (with_reducible first | refine (zzB w _).tq ?_ | refine (zuz w _).tq ?_ | refine (zvQ w _).tq ?_))));go_ret;refine ⟨zam ?_,rfl⟩
 have e1:bits .or .u32 ((cutN w 7 1:Nat)*2048) ((cutN w 25 6:Nat)*32)=((cutN w 7 1*2048+cutN w 25 6*32:Nat):Int):=by have h:=zfD (a:=cutN w 7 1) (b:=cutN w 25 6*32) 11 (by omega) (by omega);simpa using h
 have e2:bits .or .u32 ((cutN w 7 1*2048+cutN w 25 6*32:Nat):Int) ((cutN w 8 4:Nat)*2)=((cutN w 7 1*2048+cutN w 25 6*32+cutN w 8 4*2:Nat):Int):=by
  have h:=zfD (a:=cutN w 7 1*64+cutN w 25 6) (b:=cutN w 8 4*2) 5 (by omega) (by omega);have e:(cutN w 7 1*64+cutN w 25 6)*2 ^ 5=cutN w 7 1*2048+cutN w 25 6*32:=by omega
  rw [e] at h
  simpa using h
 rw [e1,e2,IntWalk.wrap64_in _ (by omega)];exact zf5 12 (by omega) (by omega) (by omega)
theorem zjP (w:Nat) (W:World) :
  TW 123 #[.int .u32 w] W (.int .i64 (immU w)):=by
 have h1:=zeV w;have h2:=zw5 w;go_enter func123,ntmps123;go_wp2_with (first | (go_at_call 191;(first | (with_reducible refine (zfE w _).tq ?_))) | (go_at_call 121;(first | (with_reducible refine (zvM w _).tq ?_))));go_ret;refine ⟨zam ?_,rfl⟩
 have h:=zf5 (s:=cutN w 31 1) (f:=cutN w 12 20*4096) 32 (by omega) (by omega) (by omega);rw [Int.natCast_mul] at h;exact h
theorem zmM (w:Nat) (W:World) :
  TW 124 #[.int .u32 w] W (.int .i64 (immJ w)):=by
 have h1:=zeV w;have h2:=zwH w;have h3:=zzW w;have h4:=znB w;go_enter func124,ntmps124;go_wp2_with (first | (go_at_call 191;(first | (with_reducible refine (zfE w _).tq ?_))) | (go_at_call 121;(first | (with_reducible first | refine (zoR w _).tq ?_ | refine (zu0 w _).tq ?_ | refine (zsn w _).tq ?_))));go_ret;refine ⟨zam ?_,rfl⟩
 have e1:bits .or .u32 ((cutN w 12 8:Nat)*4096) ((cutN w 20 1:Nat)*2048)=((cutN w 12 8*4096+cutN w 20 1*2048:Nat):Int):=by have h:=zfD (a:=cutN w 12 8) (b:=cutN w 20 1*2048) 12 (by omega) (by omega);simpa using h
 have e2:bits .or .u32 ((cutN w 12 8*4096+cutN w 20 1*2048:Nat):Int) ((cutN w 21 10:Nat)*2)=((cutN w 12 8*4096+cutN w 20 1*2048+cutN w 21 10*2:Nat):Int):=by
  have h:=zfD (a:=cutN w 12 8*2+cutN w 20 1) (b:=cutN w 21 10*2) 11 (by omega) (by omega);have e:(cutN w 12 8*2+cutN w 20 1)*2 ^ 11=cutN w 12 8*4096+cutN w 20 1*2048:=by omega
  rw [e] at h
  simpa using h
 rw [e1,e2,IntWalk.wrap64_in _ (by omega)];exact zf5 20 (by omega) (by omega) (by omega)
end Go.Proofs.YtplcfdnfeclpmaaGreatDoor.De
namespace Go.Proofs.YtplcfdnfeclpmaaGreatDoor.De
theorem zic (w:Nat) (op imm:Int) (W:World) :
  TB 122 #[.int .u32 w,.int .i64 op,.int .i64 imm] W (.agg #[.int .i64 op,.int .i64 (cutN w 7 5:Nat),.int .i64 0,.int .i64 0,.int .i64 imm]):=by
 go_enter func122,ntmps122;go_wp2_with (go_at_call 190;(first | (with_reducible refine (zft w _).tq ?_)))
 go_returns
 exact ⟨rfl,zag W _⟩
theorem zbT (w:Nat) (op imm:Int) (W:World) :
  TB 125 #[.int .u32 w,.int .i64 op,.int .i64 imm] W (.agg #[.int .i64 op,.int .i64 (cutN w 7 5:Nat),.int .i64 (cutN w 15 5:Nat),.int .i64 0,.int .i64 imm]):=by
 go_enter func125,ntmps125;go_wp2_with (first | (go_at_call 190;(first | (with_reducible refine (zft w _).tq ?_))) | (go_at_call 192;(first | (with_reducible refine (zhI w _).tq ?_))))
 go_returns
 exact ⟨rfl,zag W _⟩
theorem zhv (w:Nat) (op imm:Int) (W:World) :
  TB 127 #[.int .u32 w,.int .i64 op,.int .i64 imm] W (.agg #[.int .i64 op,.int .i64 0,.int .i64 (cutN w 15 5:Nat),.int .i64 (cutN w 20 5:Nat),.int .i64 imm]):=by
 go_enter func127,ntmps127;go_wp2_with (first | (go_at_call 192;(first | (with_reducible refine (zhI w _).tq ?_))) | (go_at_call 193;(first | (with_reducible refine (zj6 w _).tq ?_))))
 go_returns
 exact ⟨rfl,zag W _⟩
theorem zc5 (w:Nat) (op:Int) (W:World) :
  TB 132 #[.int .u32 w,.int .i64 op] W (.agg #[.int .i64 op,.int .i64 (cutN w 7 5:Nat),.int .i64 (cutN w 15 5:Nat),.int .i64 (cutN w 20 5:Nat),.int .i64 0]):=by
 go_enter func132,ntmps132;go_wp2_with (first | (go_at_call 190;(first | (with_reducible refine (zft w _).tq ?_))) | (go_at_call 192;(first | (with_reducible refine (zhI w _).tq ?_))) | (go_at_call 193;(first | (with_reducible refine (zj6 w _).tq ?_))))
 go_returns
 exact ⟨rfl,zag W _⟩
end Go.Proofs.YtplcfdnfeclpmaaGreatDoor.De
namespace Go.Proofs.YtplcfdnfeclpmaaGreatDoor.De
def tab:Nat→List Int
 | 0=>[5,6,0,0,7,8,9,10]
 | 1=>[11,12,13,14,15,16,17,0]
 | 2=>[18,19,20,21,0,0,0,0]
 | 3=>[50,51,0,0,0,0,0,0]
 | 4=>[22,0,23,24,25,0,26,27]
 | 5=>[31,33,34,35,36,37,39,40]
 | 6=>[60,61,62,63,64,65,66,67]
 | 7=>[32,0,0,0,0,38,0,0]
 | 8=>[45,47,0,0,0,48,0,0]
 | 9=>[68,0,0,0,69,70,71,72]
 | 10=>[46,0,0,0,0,49,0,0]
 | 11=>[0,54,55,56,0,57,58,59]
 | _=>[]
def row (g j:Nat):Int:=(tab g).getD j 0
def Laid (W:World):Prop:=12≤W.heap.size∧∀ g j:Nat,g<12→j<8→W.cell? ⟨g,j,none⟩=some (.int .i64 (row g j))
theorem Laid.below {W W':World} (h:Laid W) (hb:Below W.heap.size W W'):Laid W' :=
 ⟨by have:=hb.size;have:=h.1;omega,fun g j hg hj=>(hb.cell (p:=⟨g,j,none⟩) (by have:=h.1;show g<_;omega)).trans (h.2 g j hg hj)⟩
def op33 (f3 f7:Nat):Int:=if f7=0 then row 5 f3 else if f7=1 then row 6 f3 else if f7=32 then row 7 f3 else 0
theorem zhs (w:Nat) (W:World) (hL:Laid W) :
  TW 133 #[.int .u32 w] W (.int .i64 (op33 (cutN w 12 3) (cutN w 25 7))):=by
 have h3:=zb1 w;have c5:=hL.2 5 _ (by omega) h3;have c6:=hL.2 6 _ (by omega) h3;have c7:=hL.2 7 _ (by omega) h3;clear hL;go_enter func133,ntmps133;go_wp2_with (go_at_call 121;(first | (with_reducible first | refine (zaR w _).tq ?_ | refine (zcp w _).tq ?_)))
 all_goals go_ret
 all_goals refine ⟨zam ?_,rfl⟩
 all_goals (unfold op33;(try simp only [beq_iff_eq,beq_eq_false_iff_ne,ne_eq] at *);repeat' split)
 all_goals first | rfl | omega
def op3b (f3 f7:Nat):Int:=if f7=0 then row 8 f3 else if f7=1 then row 9 f3 else if f7=32 then row 10 f3 else 0
theorem zAt (w:Nat) (W:World) (hL:Laid W) :
  TW 134 #[.int .u32 w] W (.int .i64 (op3b (cutN w 12 3) (cutN w 25 7))):=by
 have h3:=zb1 w;have c5:=hL.2 8 _ (by omega) h3;have c6:=hL.2 9 _ (by omega) h3;have c7:=hL.2 10 _ (by omega) h3;clear hL;go_enter func134,ntmps134;go_wp2_with (go_at_call 121;(first | (with_reducible first | refine (zaR w _).tq ?_ | refine (zcp w _).tq ?_)))
 all_goals go_ret
 all_goals refine ⟨zam ?_,rfl⟩
 all_goals (unfold op3b;(try simp only [beq_iff_eq,beq_eq_false_iff_ne,ne_eq] at *);repeat' split)
 all_goals first | rfl | omega
def aW (c:Nat):Int:=if c=0 then 76 else if c=1 then 75 else if c=2 then 73 else if c=3 then 74 else if c=4 then 77 else if c=8 then 79 else if c=12 then 78 else if c=16 then 80 else if c=20 then 81 else if c=24 then 82 else if c=28 then 83 else 0
def aD (c:Nat):Int:=if c=0 then 87 else if c=1 then 86 else if c=2 then 84 else if c=3 then 85 else if c=4 then 88 else if c=8 then 90 else if c=12 then 89 else if c=16 then 91 else if c=20 then 92 else if c=24 then 93 else if c=28 then 94 else 0
theorem zm6 (W:World) :
  TW 194 #[.int .u32 0] W (.tuple #[.int .i64 76,.int .i64 87]):=by
 go_enter func194,ntmps194;go_wp2_with fail
 go_returns
 exact ⟨rfl,rfl⟩
theorem ztT (W:World) :
  TW 194 #[.int .u32 1] W (.tuple #[.int .i64 75,.int .i64 86]):=by
 go_enter func194,ntmps194;go_wp2_with fail
 go_returns
 exact ⟨rfl,rfl⟩
theorem zrz (W:World) :
  TW 194 #[.int .u32 2] W (.tuple #[.int .i64 73,.int .i64 84]):=by
 go_enter func194,ntmps194;go_wp2_with fail
 go_returns
 exact ⟨rfl,rfl⟩
theorem zoP (W:World) :
  TW 194 #[.int .u32 3] W (.tuple #[.int .i64 74,.int .i64 85]):=by
 go_enter func194,ntmps194;go_wp2_with fail
 go_returns
 exact ⟨rfl,rfl⟩
theorem zAx (W:World) :
  TW 194 #[.int .u32 4] W (.tuple #[.int .i64 77,.int .i64 88]):=by
 go_enter func194,ntmps194;go_wp2_with fail
 go_returns
 exact ⟨rfl,rfl⟩
theorem zwB (W:World) :
  TW 194 #[.int .u32 8] W (.tuple #[.int .i64 79,.int .i64 90]):=by
 go_enter func194,ntmps194;go_wp2_with fail
 go_returns
 exact ⟨rfl,rfl⟩
theorem zxj (W:World) :
  TW 194 #[.int .u32 12] W (.tuple #[.int .i64 78,.int .i64 89]):=by
 go_enter func194,ntmps194;go_wp2_with fail
 go_returns
 exact ⟨rfl,rfl⟩
theorem zlE (W:World) :
  TW 194 #[.int .u32 16] W (.tuple #[.int .i64 80,.int .i64 91]):=by
 go_enter func194,ntmps194;go_wp2_with fail
 go_returns
 exact ⟨rfl,rfl⟩
theorem zxU (W:World) :
  TW 194 #[.int .u32 20] W (.tuple #[.int .i64 81,.int .i64 92]):=by
 go_enter func194,ntmps194;go_wp2_with fail
 go_returns
 exact ⟨rfl,rfl⟩
theorem zsj (W:World) :
  TW 194 #[.int .u32 24] W (.tuple #[.int .i64 82,.int .i64 93]):=by
 go_enter func194,ntmps194;go_wp2_with fail
 go_returns
 exact ⟨rfl,rfl⟩
theorem zza (W:World) :
  TW 194 #[.int .u32 28] W (.tuple #[.int .i64 83,.int .i64 94]):=by
 go_enter func194,ntmps194;go_wp2_with fail
 go_returns
 exact ⟨rfl,rfl⟩
theorem zoj (c:Nat) (W:World) (n0:¬ c=0) (n1:¬ c=1) (n2:¬ c=2) (n3:¬ c=3) (n4:¬ c=4) (n8:¬ c=8) (n12:¬ c=12) (n16:¬ c=16) (n20:¬ c=20) (n24:¬ c=24) (n28:¬ c=28) :
  TW 194 #[.int .u32 c] W (.tuple #[.int .i64 0,.int .i64 0]):=by
 have m0:((c:Int)==0)=false:=by simp only [beq_eq_false_iff_ne,ne_eq];omega
 have m1:((c:Int)==1)=false:=by simp only [beq_eq_false_iff_ne,ne_eq];omega
 have m2:((c:Int)==2)=false:=by simp only [beq_eq_false_iff_ne,ne_eq];omega
 have m3:((c:Int)==3)=false:=by simp only [beq_eq_false_iff_ne,ne_eq];omega
 have m4:((c:Int)==4)=false:=by simp only [beq_eq_false_iff_ne,ne_eq];omega
 have m8:((c:Int)==8)=false:=by simp only [beq_eq_false_iff_ne,ne_eq];omega
 have m12:((c:Int)==12)=false:=by simp only [beq_eq_false_iff_ne,ne_eq];omega
 have m16:((c:Int)==16)=false:=by simp only [beq_eq_false_iff_ne,ne_eq];omega
 have m20:((c:Int)==20)=false:=by simp only [beq_eq_false_iff_ne,ne_eq];omega
 have m24:((c:Int)==24)=false:=by simp only [beq_eq_false_iff_ne,ne_eq];omega
 have m28:((c:Int)==28)=false:=by simp only [beq_eq_false_iff_ne,ne_eq];omega
 clear n0 n1 n2 n3 n4 n8 n12 n16 n20 n24 n28;go_enter func194,ntmps194;go_wp2_with fail
 go_returns
 exact ⟨rfl,rfl⟩
theorem zl8 (c:Nat) (W:World) :
  TW 194 #[.int .u32 c] W (.tuple #[.int .i64 (aW c),.int .i64 (aD c)]):=by
 by_cases n0:c=0
 ·subst n0;exact zm6 W
 by_cases n1:c=1
 ·subst n1;exact ztT W
 by_cases n2:c=2
 ·subst n2;exact zrz W
 by_cases n3:c=3
 ·subst n3;exact zoP W
 by_cases n4:c=4
 ·subst n4;exact zAx W
 by_cases n8:c=8
 ·subst n8;exact zwB W
 by_cases n12:c=12
 ·subst n12;exact zxj W
 by_cases n16:c=16
 ·subst n16;exact zlE W
 by_cases n20:c=20
 ·subst n20;exact zxU W
 by_cases n24:c=24
 ·subst n24;exact zsj W
 by_cases n28:c=28
 ·subst n28;exact zza W
 have e1:aW c=0:=by unfold aW;simp [n0,n1,n2,n3,n4,n8,n12,n16,n20,n24,n28]
 have e2:aD c=0:=by unfold aD;simp [n0,n1,n2,n3,n4,n8,n12,n16,n20,n24,n28]
 rw [e1,e2];exact zoj c W n0 n1 n2 n3 n4 n8 n12 n16 n20 n24 n28
end Go.Proofs.YtplcfdnfeclpmaaGreatDoor.De
