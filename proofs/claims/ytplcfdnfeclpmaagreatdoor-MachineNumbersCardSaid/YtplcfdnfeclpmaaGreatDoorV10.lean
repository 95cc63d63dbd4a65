/- MachineNumbers, part 10. -/
import Derived.Below
import Derived.Deep.Draws
import Derived.Deep.Slices
import Derived.BigQuiet
import Derived.Carry
import Derived.ChangeMaps
import Derived.Deep.DeepCutAuto
import Derived.Deep.RegionHeld3
import Derived.Deep.RegionWith
import Derived.IntWalk
import Derived.Laws.BitsAllLaws
import Derived.Lib.Hide
import Derived.Lib.SmallJoins
import Derived.OpenShut
import Derived.ProofKit
import Derived.SizedLaws
import Derived.WalkKit
import Derived.WalkLawsBesides
import Derived.Test.YtplcfdnfeclpmaaGreatDoorV07
set_option maxHeartbeats 4000000
set_option maxRecDepth 100000
open Go.Lib (hid)
open Go Go.RowKit Go.Deep Go.Joins Go.Proofs.Tryz
namespace Go.Proofs.YtplcfdnfeclpmaaGreatDoor.Br
theorem zaX {a b:Bool} (h:a=b):Ending.returned (.bool a)=.returned (.bool b):=by rw [h]
theorem zal {k:IntKind} {a b:Int} (h:a=b):Ending.returned (.int k a)=.returned (.int k b):=by rw [h]
def cutN (w l k:Nat):Nat:=w / 2 ^ l % 2 ^ k
def plN (w l k t:Nat):Nat:=cutN w l k*2 ^ t % 4294967296
def orN (a b:Nat):Nat:=(a ||| b) % 4294967296
theorem zbh (w l k:Nat):cutN w l k<2 ^ k:=Nat.mod_lt _ (Nat.two_pow_pos k)
theorem zh8 (w h l:Nat) (hl:l≤h) (hh:h≤31):w*2 ^ (31 - h) % 4294967296 / 2 ^ (31 - h+l)=cutN w l (h+1 - l):=by
 unfold cutN
 have e:(4294967296:Nat)=2 ^ (h+1)*2 ^ (31 - h):=by
  rw [← Nat.pow_add,show h+1+(31 - h)=32 by omega]
 rw [e,Nat.mul_mod_mul_right,Nat.pow_add 2 (31 - h) l,← Nat.div_div_eq_div_mul,Nat.mul_div_cancel _ (Nat.two_pow_pos _)];rw [show (2:Nat) ^ (h+1)=2 ^ l*2 ^ (h+1 - l) by rw [← Nat.pow_add,show l+(h+1 - l)=h+1 by omega]];rw [Nat.mod_mul_right_div_self]
theorem zdT (a b:Nat):bits .or .u32 (a:Int) (b:Int)=((orN a b:Nat):Int):=by
 show IntKind.u32.wrap ((BitVec.ofInt 32 (a:Int) ||| BitVec.ofInt 32 (b:Int)).toNat:Int)=_
 rw [BitVec.ofInt_natCast,BitVec.ofInt_natCast,BitVec.toNat_or,BitVec.toNat_ofNat,BitVec.toNat_ofNat,← Nat.or_mod_two_pow,IntKind.wrap_u32];unfold orN;omega
theorem zv3 (a k:Nat) (hk:k<32):bits .and .u32 (a:Int) ((2 ^ k - 1:Nat):Int)=((a % 2 ^ k:Nat):Int):=by
 show IntKind.u32.wrap ((BitVec.ofInt 32 (a:Int) &&& BitVec.ofInt 32 ((2 ^ k - 1:Nat):Int)).toNat:Int)=_
 have h1:(2:Nat) ^ k≤2 ^ 31:=Nat.pow_le_pow_right (by omega) (by omega);have h0:(0:Nat)<2 ^ k:=Nat.two_pow_pos k;rw [BitVec.ofInt_natCast,BitVec.ofInt_natCast,BitVec.toNat_and,BitVec.toNat_ofNat,BitVec.toNat_ofNat,Nat.mod_eq_of_lt (a:=2 ^ k - 1) (by omega),Nat.and_two_pow_sub_one_eq_mod,IntKind.wrap_u32];rw [Nat.mod_mod_of_dvd _ (Nat.pow_dvd_pow 2 (by omega))];have:=Nat.mod_lt a h0;omega
theorem zyg (a:Nat):bits .and .u32 (a:Int) 4095=((a % 4096:Nat):Int):=zv3 a 12 (by omega)
theorem zaq (w h l:Nat) (W:World) (hh:h≤31) (hl:l≤h) :
  TW 117 #[.int .u32 w,.int .u64 h,.int .u64 l] W (.int .u32 (cutN w l (h+1 - l):Nat)):=by
 have E:=hid (zh8 w h l hl hh);have e1:(31 - (h:Int)).toNat=31 - h:=by omega
 have e2:(31 - (h:Int)+(l:Int)).toNat=31 - h+l:=by omega
 go_enter func117,ntmps117
 go_wp2
 go_ret;refine ⟨zal ?_,rfl⟩
 rw [← E.out];simp only [Int.natCast_ediv,Int.natCast_emod,Int.natCast_mul,Int.natCast_pow,Int.cast_ofNat_Int]
theorem zaP (w h l t:Nat) (W:World) (hh:h≤31) (hl:l≤h) (ht:t≤31) :
  TW 213 #[.int .u32 w,.int .u64 h,.int .u64 l,.int .u64 t] W (.int .u32 (plN w l (h+1 - l) t:Nat)):=by
 go_enter func213,ntmps213;go_wp2_with (go_at_call 117;with_reducible refine (zaq w h l _ hh hl).tq ?_);go_ret;refine ⟨zal ?_,rfl⟩
 unfold plN;simp only [Int.natCast_emod,Int.natCast_mul,Int.natCast_pow,Int.cast_ofNat_Int]
theorem sh7 (a:Nat):(a:Int)*128 % 4294967296=((a*128 % 4294967296:Nat):Int):=by omega
theorem sh12 (a:Nat):(a:Int)*4096 % 4294967296=((a*4096 % 4294967296:Nat):Int):=by omega
theorem sh15 (a:Nat):(a:Int)*32768 % 4294967296=((a*32768 % 4294967296:Nat):Int):=by omega
theorem sh20 (a:Nat):(a:Int)*1048576 % 4294967296=((a*1048576 % 4294967296:Nat):Int):=by omega
theorem sh21 (a:Nat):(a:Int)*2097152 % 4294967296=((a*2097152 % 4294967296:Nat):Int):=by omega
theorem sh25 (a:Nat):(a:Int)*33554432 % 4294967296=((a*33554432 % 4294967296:Nat):Int):=by omega
theorem sh31 (a:Nat):(a:Int)*2147483648 % 4294967296=((a*2147483648 % 4294967296:Nat):Int):=by omega
theorem sh16 (a:Nat):(a:Int)*65536 % 4294967296=((a*65536 % 4294967296:Nat):Int):=by omega
theorem sh3 (a:Nat):(a:Int)*8 % 4294967296=((a*8 % 4294967296:Nat):Int):=by omega
theorem sh4 (a:Nat):(a:Int)*16 % 4294967296=((a*16 % 4294967296:Nat):Int):=by omega
theorem sh6 (a:Nat):(a:Int)*64 % 4294967296=((a*64 % 4294967296:Nat):Int):=by omega
theorem sh1 (a:Nat):(a:Int)*2 % 4294967296=((a*2 % 4294967296:Nat):Int):=by omega
theorem sh2 (a:Nat):(a:Int)*4 % 4294967296=((a*4 % 4294967296:Nat):Int):=by omega
theorem sh8 (a:Nat):(a:Int)*256 % 4294967296=((a*256 % 4294967296:Nat):Int):=by omega
theorem beqF {x k:Nat} (h:x≠k):Nat.beq x k=false:=by rw [Bool.eq_false_iff];intro e;exact h (Nat.eq_of_beq_eq_true e)
theorem beqT {x k:Nat} (h:x=k):Nat.beq x k=true:=by rw [h];exact Nat.beq_refl k
theorem add8 (a:Nat):(8+(a:Int)) % 4294967296=(((8+a) % 4294967296:Nat):Int):=by omega
theorem zqA (a:Nat):((a:Int)+1024) % 4294967296=(((a+1024) % 4294967296:Nat):Int):=by omega
theorem zAb (a:Nat):bits .or .u32 (a:Int) 1024=((orN a 1024:Nat):Int):=zdT a 1024
def ziT (n:Nat):Nat:=orN n ((4294967296 - cutN n 5 1)*64 % 4294967296)
theorem zrJ (n:Nat) (W:World) :
  TW 214 #[.int .u32 n,.int .u64 6] W (.int .u32 (ziT n:Nat)):=by
 have c:∀ W,TW 117 #[.int .u32 n,.int .u64 5,.int .u64 5] W (.int .u32 (cutN n 5 1:Nat)):=fun W=>zaq n 5 5 W (by omega) (by omega)
 go_enter func214,ntmps214;go_wp2_with (go_at_call 117;with_reducible refine (c _).tq ?_);go_ret;refine ⟨zal ?_,rfl⟩
 have h:=zbh n 5 1;have e:(-((cutN n 5 1:Nat):Int)) % 4294967296*64 % 4294967296=(((4294967296 - cutN n 5 1)*64 % 4294967296:Nat):Int):=by omega
 rw [e,zdT];rfl
def zhS (n:Nat):Nat:=orN n ((4294967296 - cutN n 8 1)*512 % 4294967296)
theorem zuM (n:Nat) (W:World) :
  TW 214 #[.int .u32 n,.int .u64 9] W (.int .u32 (zhS n:Nat)):=by
 have c:∀ W,TW 117 #[.int .u32 n,.int .u64 8,.int .u64 8] W (.int .u32 (cutN n 8 1:Nat)):=fun W=>zaq n 8 8 W (by omega) (by omega)
 go_enter func214,ntmps214;go_wp2_with (go_at_call 117;with_reducible refine (c _).tq ?_);go_ret;refine ⟨zal ?_,rfl⟩
 have h:=zbh n 8 1;have e:(-((cutN n 8 1:Nat):Int)) % 4294967296*512 % 4294967296=(((4294967296 - cutN n 8 1)*512 % 4294967296:Nat):Int):=by omega
 rw [e,zdT];rfl
def zhC (n:Nat):Nat:=orN n ((4294967296 - cutN n 9 1)*1024 % 4294967296)
theorem zy1 (n:Nat) (W:World) :
  TW 214 #[.int .u32 n,.int .u64 10] W (.int .u32 (zhC n:Nat)):=by
 have c:∀ W,TW 117 #[.int .u32 n,.int .u64 9,.int .u64 9] W (.int .u32 (cutN n 9 1:Nat)):=fun W=>zaq n 9 9 W (by omega) (by omega)
 go_enter func214,ntmps214;go_wp2_with (go_at_call 117;with_reducible refine (c _).tq ?_);go_ret;refine ⟨zal ?_,rfl⟩
 have h:=zbh n 9 1;have e:(-((cutN n 9 1:Nat):Int)) % 4294967296*1024 % 4294967296=(((4294967296 - cutN n 9 1)*1024 % 4294967296:Nat):Int):=by omega
 rw [e,zdT];rfl
def zhR (n:Nat):Nat:=orN n ((4294967296 - cutN n 11 1)*4096 % 4294967296)
theorem zwL (n:Nat) (W:World) :
  TW 214 #[.int .u32 n,.int .u64 12] W (.int .u32 (zhR n:Nat)):=by
 have c:∀ W,TW 117 #[.int .u32 n,.int .u64 11,.int .u64 11] W (.int .u32 (cutN n 11 1:Nat)):=fun W=>zaq n 11 11 W (by omega) (by omega)
 go_enter func214,ntmps214;go_wp2_with (go_at_call 117;with_reducible refine (c _).tq ?_);go_ret;refine ⟨zal ?_,rfl⟩
 have h:=zbh n 11 1;have e:(-((cutN n 11 1:Nat):Int)) % 4294967296*4096 % 4294967296=(((4294967296 - cutN n 11 1)*4096 % 4294967296:Nat):Int):=by omega
 rw [e,zdT];rfl
theorem nats:(∀ a:Nat,(a:Int)*2 % 4294967296=((a*2 % 4294967296:Nat):Int))∧(∀ a:Nat,(a:Int)*4 % 4294967296=((a*4 % 4294967296:Nat):Int))∧(∀ a:Nat,(a:Int)*8 % 4294967296=((a*8 % 4294967296:Nat):Int))∧(∀ a:Nat,(a:Int)*16 % 4294967296=((a*16 % 4294967296:Nat):Int))∧(∀ a:Nat,(a:Int)*64 % 4294967296=((a*64 % 4294967296:Nat):Int))∧(∀ a:Nat,(a:Int)*128 % 4294967296=((a*128 % 4294967296:Nat):Int))∧(∀ a:Nat,(a:Int)*256 % 4294967296=((a*256 % 4294967296:Nat):Int))∧(∀ a:Nat,(a:Int)*4096 % 4294967296=((a*4096 % 4294967296:Nat):Int))∧(∀ a:Nat,(a:Int)*32768 % 4294967296=((a*32768 % 4294967296:Nat):Int))∧(∀ a:Nat,(a:Int)*65536 % 4294967296=((a*65536 % 4294967296:Nat):Int))∧(∀ a:Nat,(a:Int)*1048576 % 4294967296=((a*1048576 % 4294967296:Nat):Int))∧(∀ a:Nat,(a:Int)*2097152 % 4294967296=((a*2097152 % 4294967296:Nat):Int))∧(∀ a:Nat,(a:Int)*33554432 % 4294967296=((a*33554432 % 4294967296:Nat):Int))∧(∀ a:Nat,(a:Int)*2147483648 % 4294967296=((a*2147483648 % 4294967296:Nat):Int))∧(∀ a:Nat,(8+(a:Int)) % 4294967296=(((8+a) % 4294967296:Nat):Int))∧(∀ a:Nat,((a:Int)+1024) % 4294967296=(((a+1024) % 4294967296:Nat):Int))∧(∀ a:Nat,bits .or .u32 (a:Int) 1024=((orN a 1024:Nat):Int))∧(∀ a:Nat,bits .or .u32 (a:Int) 99=((orN a 99:Nat):Int))∧(∀ a:Nat,bits .or .u32 (a:Int) 55=((orN a 55:Nat):Int))∧(∀ a:Nat,bits .or .u32 (a:Int) 111=((orN a 111:Nat):Int))∧(∀ a:Nat,bits .and .u32 (a:Int) 4095=((a % 4096:Nat):Int))∧(∀ a b:Nat,bits .or .u32 (a:Int) (b:Int)=((orN a b:Nat):Int)) :=
 ⟨sh1,sh2,sh3,sh4,sh6,sh7,sh8,sh12,sh15,sh16,sh20,sh21,sh25,sh31,add8,zqA,zAb,fun a=>zdT a 99,fun a=>zdT a 55,fun a=>zdT a 111,zyg,zdT⟩
end Go.Proofs.YtplcfdnfeclpmaaGreatDoor.Br
namespace Go.Proofs.YtplcfdnfeclpmaaGreatDoor.Br
def zag (h:Nat):Nat:=(cutN h 7 5)
theorem zbq (h:Nat) (W:World):TW 175 #[.int .u32 (h:Nat)] W (.int .u32 ((zag h:Nat):Int)):=by
 have c0:∀ W,TW 117 #[.int .u32 h,.int .u64 11,.int .u64 7] W (.int .u32 (cutN h 7 5)):=fun W=>zaq h 11 7 W (by omega) (by omega)
 go_enter func175,ntmps175;go_wp2_with (go_at_call 117;with_reducible refine (c0 _).tq ?_);go_ret;refine ⟨zal ?_,rfl⟩
 first | rfl | (simp only [nats];rfl)
def zaS (h:Nat):Nat:=(cutN h 2 5)
theorem zcC (h:Nat) (W:World):TW 183 #[.int .u32 (h:Nat)] W (.int .u32 ((zaS h:Nat):Int)):=by
 have c0:∀ W,TW 117 #[.int .u32 h,.int .u64 6,.int .u64 2] W (.int .u32 (cutN h 2 5)):=fun W=>zaq h 6 2 W (by omega) (by omega)
 go_enter func183,ntmps183;go_wp2_with (go_at_call 117;with_reducible refine (c0 _).tq ?_);go_ret;refine ⟨zal ?_,rfl⟩
 first | rfl | (simp only [nats];rfl)
def zaf (h:Nat):Nat:=((8+(cutN h 7 3)) % 4294967296)
theorem zbS (h:Nat) (W:World):TW 168 #[.int .u32 (h:Nat)] W (.int .u32 ((zaf h:Nat):Int)):=by
 have c0:∀ W,TW 117 #[.int .u32 h,.int .u64 9,.int .u64 7] W (.int .u32 (cutN h 7 3)):=fun W=>zaq h 9 7 W (by omega) (by omega)
 go_enter func168,ntmps168;go_wp2_with (go_at_call 117;with_reducible refine (c0 _).tq ?_);go_ret;refine ⟨zal ?_,rfl⟩
 first | rfl | (simp only [nats];rfl)
def zau (h:Nat):Nat:=((8+(cutN h 2 3)) % 4294967296)
theorem zcu (h:Nat) (W:World):TW 169 #[.int .u32 (h:Nat)] W (.int .u32 ((zau h:Nat):Int)):=by
 have c0:∀ W,TW 117 #[.int .u32 h,.int .u64 4,.int .u64 2] W (.int .u32 (cutN h 2 3)):=fun W=>zaq h 4 2 W (by omega) (by omega)
 go_enter func169,ntmps169;go_wp2_with (go_at_call 117;with_reducible refine (c0 _).tq ?_);go_ret;refine ⟨zal ?_,rfl⟩
 first | rfl | (simp only [nats];rfl)
def zb6 (h:Nat):Nat:=(orN (plN h 12 1 5) (plN h 2 5 0))
theorem zgU (h:Nat) (W:World):TW 184 #[.int .u32 (h:Nat)] W (.int .u32 ((zb6 h:Nat):Int)):=by
 have c0:∀ W,TW 213 #[.int .u32 h,.int .u64 12,.int .u64 12,.int .u64 5] W (.int .u32 (plN h 12 1 5)):=fun W=>zaP h 12 12 5 W (by omega) (by omega) (by omega)
 have c1:∀ W,TW 213 #[.int .u32 h,.int .u64 6,.int .u64 2,.int .u64 0] W (.int .u32 (plN h 2 5 0)):=fun W=>zaP h 6 2 0 W (by omega) (by omega) (by omega)
 go_enter func184,ntmps184;go_wp2_with ((first | (go_at_call 213;with_reducible refine (c0 _).tq ?_) | (go_at_call 213;with_reducible refine (c1 _).tq ?_)));go_ret;refine ⟨zal ?_,rfl⟩
 first | rfl | (simp only [nats];rfl)
def zaY (h:Nat):Nat:=(ziT (zb6 h))
theorem zcZ (h:Nat) (W:World):TW 176 #[.int .u32 (h:Nat)] W (.int .u32 ((zaY h:Nat):Int)):=by
 go_enter func176,ntmps176;go_wp2_with ((first | (go_at_call 184;with_reducible refine (zgU h _).tq ?_) | (go_at_call 214;with_reducible refine (zrJ (zb6 h) _).tq ?_)));go_ret;refine ⟨zal ?_,rfl⟩
 first | rfl | (simp only [nats];rfl)
def zcV (h:Nat):Nat:=(orN (orN (plN h 5 1 6) (plN h 10 3 3)) (plN h 6 1 2))
theorem zlb (h:Nat) (W:World):TW 172 #[.int .u32 (h:Nat)] W (.int .u32 ((zcV h:Nat):Int)):=by
 have c0:∀ W,TW 213 #[.int .u32 h,.int .u64 5,.int .u64 5,.int .u64 6] W (.int .u32 (plN h 5 1 6)):=fun W=>zaP h 5 5 6 W (by omega) (by omega) (by omega)
 have c1:∀ W,TW 213 #[.int .u32 h,.int .u64 12,.int .u64 10,.int .u64 3] W (.int .u32 (plN h 10 3 3)):=fun W=>zaP h 12 10 3 W (by omega) (by omega) (by omega)
 have c2:∀ W,TW 213 #[.int .u32 h,.int .u64 6,.int .u64 6,.int .u64 2] W (.int .u32 (plN h 6 1 2)):=fun W=>zaP h 6 6 2 W (by omega) (by omega) (by omega)
 go_enter func172,ntmps172;go_wp2_with ((first | (go_at_call 213;with_reducible refine (c0 _).tq ?_) | (go_at_call 213;with_reducible refine (c1 _).tq ?_) | (go_at_call 213;with_reducible refine (c2 _).tq ?_)));go_ret;refine ⟨zal ?_,rfl⟩
 first | rfl | (simp only [nats];rfl)
def zcU (h:Nat):Nat:=(orN (plN h 5 2 6) (plN h 10 3 3))
theorem zjE (h:Nat) (W:World):TW 173 #[.int .u32 (h:Nat)] W (.int .u32 ((zcU h:Nat):Int)):=by
 have c0:∀ W,TW 213 #[.int .u32 h,.int .u64 6,.int .u64 5,.int .u64 6] W (.int .u32 (plN h 5 2 6)):=fun W=>zaP h 6 5 6 W (by omega) (by omega) (by omega)
 have c1:∀ W,TW 213 #[.int .u32 h,.int .u64 12,.int .u64 10,.int .u64 3] W (.int .u32 (plN h 10 3 3)):=fun W=>zaP h 12 10 3 W (by omega) (by omega) (by omega)
 go_enter func173,ntmps173;go_wp2_with ((first | (go_at_call 213;with_reducible refine (c0 _).tq ?_) | (go_at_call 213;with_reducible refine (c1 _).tq ?_)));go_ret;refine ⟨zal ?_,rfl⟩
 first | rfl | (simp only [nats];rfl)
def zcI (h:Nat):Nat:=(orN (orN (orN (plN h 7 4 6) (plN h 11 2 4)) (plN h 5 1 3)) (plN h 6 1 2))
theorem ziU (h:Nat) (W:World):TW 170 #[.int .u32 (h:Nat)] W (.int .u32 ((zcI h:Nat):Int)):=by
 have c0:∀ W,TW 213 #[.int .u32 h,.int .u64 10,.int .u64 7,.int .u64 6] W (.int .u32 (plN h 7 4 6)):=fun W=>zaP h 10 7 6 W (by omega) (by omega) (by omega)
 have c1:∀ W,TW 213 #[.int .u32 h,.int .u64 12,.int .u64 11,.int .u64 4] W (.int .u32 (plN h 11 2 4)):=fun W=>zaP h 12 11 4 W (by omega) (by omega) (by omega)
 have c2:∀ W,TW 213 #[.int .u32 h,.int .u64 5,.int .u64 5,.int .u64 3] W (.int .u32 (plN h 5 1 3)):=fun W=>zaP h 5 5 3 W (by omega) (by omega) (by omega)
 have c3:∀ W,TW 213 #[.int .u32 h,.int .u64 6,.int .u64 6,.int .u64 2] W (.int .u32 (plN h 6 1 2)):=fun W=>zaP h 6 6 2 W (by omega) (by omega) (by omega)
 go_enter func170,ntmps170;go_wp2_with ((first | (go_at_call 213;with_reducible refine (c0 _).tq ?_) | (go_at_call 213;with_reducible refine (c1 _).tq ?_) | (go_at_call 213;with_reducible refine (c2 _).tq ?_) | (go_at_call 213;with_reducible refine (c3 _).tq ?_)));go_ret;refine ⟨zal ?_,rfl⟩
 first | rfl | (simp only [nats];rfl)
def zeH (h:Nat):Nat:=(zhC (orN (orN (orN (orN (plN h 12 1 9) (plN h 3 2 7)) (plN h 5 1 6)) (plN h 2 1 5)) (plN h 6 1 4)))
theorem zs8 (h:Nat) (W:World):TW 215 #[.int .u32 (h:Nat)] W (.int .u32 ((zeH h:Nat):Int)):=by
 have c0:∀ W,TW 213 #[.int .u32 h,.int .u64 12,.int .u64 12,.int .u64 9] W (.int .u32 (plN h 12 1 9)):=fun W=>zaP h 12 12 9 W (by omega) (by omega) (by omega)
 have c1:∀ W,TW 213 #[.int .u32 h,.int .u64 4,.int .u64 3,.int .u64 7] W (.int .u32 (plN h 3 2 7)):=fun W=>zaP h 4 3 7 W (by omega) (by omega) (by omega)
 have c2:∀ W,TW 213 #[.int .u32 h,.int .u64 5,.int .u64 5,.int .u64 6] W (.int .u32 (plN h 5 1 6)):=fun W=>zaP h 5 5 6 W (by omega) (by omega) (by omega)
 have c3:∀ W,TW 213 #[.int .u32 h,.int .u64 2,.int .u64 2,.int .u64 5] W (.int .u32 (plN h 2 1 5)):=fun W=>zaP h 2 2 5 W (by omega) (by omega) (by omega)
 have c4:∀ W,TW 213 #[.int .u32 h,.int .u64 6,.int .u64 6,.int .u64 4] W (.int .u32 (plN h 6 1 4)):=fun W=>zaP h 6 6 4 W (by omega) (by omega) (by omega)
 have c5:∀ W,TW 214 #[.int .u32 (bits .or .u32 (bits .or .u32 (bits .or .u32 (bits .or .u32 (plN h 12 1 9) (plN h 3 2 7)) (plN h 5 1 6)) (plN h 2 1 5)) (plN h 6 1 4)),.int .u64 10] W (.int .u32 (zhC (orN (orN (orN (orN (plN h 12 1 9) (plN h 3 2 7)) (plN h 5 1 6)) (plN h 2 1 5)) (plN h 6 1 4)))):=fun W=>by
  have h:=zy1 (orN (orN (orN (orN (plN h 12 1 9) (plN h 3 2 7)) (plN h 5 1 6)) (plN h 2 1 5)) (plN h 6 1 4)) W;simp only [nats];exact h
 go_enter func215,ntmps215;go_wp2_with ((first | (go_at_call 213;with_reducible refine (c0 _).tq ?_) | (go_at_call 213;with_reducible refine (c1 _).tq ?_) | (go_at_call 213;with_reducible refine (c2 _).tq ?_) | (go_at_call 213;with_reducible refine (c3 _).tq ?_) | (go_at_call 213;with_reducible refine (c4 _).tq ?_) | (go_at_call 214;with_reducible refine (c5 _).tq ?_)));go_ret;refine ⟨zal ?_,rfl⟩
 first | rfl | (simp only [nats];rfl)
def zeu (h:Nat):Nat:=(orN (orN (plN h 2 2 6) (plN h 12 1 5)) (plN h 4 3 2))
theorem zwg (h:Nat) (W:World):TW 185 #[.int .u32 (h:Nat)] W (.int .u32 ((zeu h:Nat):Int)):=by
 have c0:∀ W,TW 213 #[.int .u32 h,.int .u64 3,.int .u64 2,.int .u64 6] W (.int .u32 (plN h 2 2 6)):=fun W=>zaP h 3 2 6 W (by omega) (by omega) (by omega)
 have c1:∀ W,TW 213 #[.int .u32 h,.int .u64 12,.int .u64 12,.int .u64 5] W (.int .u32 (plN h 12 1 5)):=fun W=>zaP h 12 12 5 W (by omega) (by omega) (by omega)
 have c2:∀ W,TW 213 #[.int .u32 h,.int .u64 6,.int .u64 4,.int .u64 2] W (.int .u32 (plN h 4 3 2)):=fun W=>zaP h 6 4 2 W (by omega) (by omega) (by omega)
 go_enter func185,ntmps185;go_wp2_with ((first | (go_at_call 213;with_reducible refine (c0 _).tq ?_) | (go_at_call 213;with_reducible refine (c1 _).tq ?_) | (go_at_call 213;with_reducible refine (c2 _).tq ?_)));go_ret;refine ⟨zal ?_,rfl⟩
 first | rfl | (simp only [nats];rfl)
def zev (h:Nat):Nat:=(orN (orN (plN h 2 3 6) (plN h 12 1 5)) (plN h 5 2 3))
theorem zyK (h:Nat) (W:World):TW 186 #[.int .u32 (h:Nat)] W (.int .u32 ((zev h:Nat):Int)):=by
 have c0:∀ W,TW 213 #[.int .u32 h,.int .u64 4,.int .u64 2,.int .u64 6] W (.int .u32 (plN h 2 3 6)):=fun W=>zaP h 4 2 6 W (by omega) (by omega) (by omega)
 have c1:∀ W,TW 213 #[.int .u32 h,.int .u64 12,.int .u64 12,.int .u64 5] W (.int .u32 (plN h 12 1 5)):=fun W=>zaP h 12 12 5 W (by omega) (by omega) (by omega)
 have c2:∀ W,TW 213 #[.int .u32 h,.int .u64 6,.int .u64 5,.int .u64 3] W (.int .u32 (plN h 5 2 3)):=fun W=>zaP h 6 5 3 W (by omega) (by omega) (by omega)
 go_enter func186,ntmps186;go_wp2_with ((first | (go_at_call 213;with_reducible refine (c0 _).tq ?_) | (go_at_call 213;with_reducible refine (c1 _).tq ?_) | (go_at_call 213;with_reducible refine (c2 _).tq ?_)));go_ret;refine ⟨zal ?_,rfl⟩
 first | rfl | (simp only [nats];rfl)
def zez (h:Nat):Nat:=(orN (plN h 7 2 6) (plN h 9 4 2))
theorem zpj (h:Nat) (W:World):TW 188 #[.int .u32 (h:Nat)] W (.int .u32 ((zez h:Nat):Int)):=by
 have c0:∀ W,TW 213 #[.int .u32 h,.int .u64 8,.int .u64 7,.int .u64 6] W (.int .u32 (plN h 7 2 6)):=fun W=>zaP h 8 7 6 W (by omega) (by omega) (by omega)
 have c1:∀ W,TW 213 #[.int .u32 h,.int .u64 12,.int .u64 9,.int .u64 2] W (.int .u32 (plN h 9 4 2)):=fun W=>zaP h 12 9 2 W (by omega) (by omega) (by omega)
 go_enter func188,ntmps188;go_wp2_with ((first | (go_at_call 213;with_reducible refine (c0 _).tq ?_) | (go_at_call 213;with_reducible refine (c1 _).tq ?_)));go_ret;refine ⟨zal ?_,rfl⟩
 first | rfl | (simp only [nats];rfl)
def zeI (h:Nat):Nat:=(orN (plN h 7 3 6) (plN h 10 3 3))
theorem zy9 (h:Nat) (W:World):TW 189 #[.int .u32 (h:Nat)] W (.int .u32 ((zeI h:Nat):Int)):=by
 have c0:∀ W,TW 213 #[.int .u32 h,.int .u64 9,.int .u64 7,.int .u64 6] W (.int .u32 (plN h 7 3 6)):=fun W=>zaP h 9 7 6 W (by omega) (by omega) (by omega)
 have c1:∀ W,TW 213 #[.int .u32 h,.int .u64 12,.int .u64 10,.int .u64 3] W (.int .u32 (plN h 10 3 3)):=fun W=>zaP h 12 10 3 W (by omega) (by omega) (by omega)
 go_enter func189,ntmps189;go_wp2_with ((first | (go_at_call 213;with_reducible refine (c0 _).tq ?_) | (go_at_call 213;with_reducible refine (c1 _).tq ?_)));go_ret;refine ⟨zal ?_,rfl⟩
 first | rfl | (simp only [nats];rfl)
def zex (h:Nat):Nat:=(zhR (orN (orN (orN (orN (orN (orN (orN (plN h 12 1 11) (plN h 8 1 10)) (plN h 9 2 8)) (plN h 6 1 7)) (plN h 7 1 6)) (plN h 2 1 5)) (plN h 11 1 4)) (plN h 3 3 1)))
theorem zx3 (h:Nat) (W:World):TW 180 #[.int .u32 (h:Nat)] W (.int .u32 ((zex h:Nat):Int)):=by
 have c0:∀ W,TW 213 #[.int .u32 h,.int .u64 12,.int .u64 12,.int .u64 11] W (.int .u32 (plN h 12 1 11)):=fun W=>zaP h 12 12 11 W (by omega) (by omega) (by omega)
 have c1:∀ W,TW 213 #[.int .u32 h,.int .u64 8,.int .u64 8,.int .u64 10] W (.int .u32 (plN h 8 1 10)):=fun W=>zaP h 8 8 10 W (by omega) (by omega) (by omega)
 have c2:∀ W,TW 213 #[.int .u32 h,.int .u64 10,.int .u64 9,.int .u64 8] W (.int .u32 (plN h 9 2 8)):=fun W=>zaP h 10 9 8 W (by omega) (by omega) (by omega)
 have c3:∀ W,TW 213 #[.int .u32 h,.int .u64 6,.int .u64 6,.int .u64 7] W (.int .u32 (plN h 6 1 7)):=fun W=>zaP h 6 6 7 W (by omega) (by omega) (by omega)
 have c4:∀ W,TW 213 #[.int .u32 h,.int .u64 7,.int .u64 7,.int .u64 6] W (.int .u32 (plN h 7 1 6)):=fun W=>zaP h 7 7 6 W (by omega) (by omega) (by omega)
 have c5:∀ W,TW 213 #[.int .u32 h,.int .u64 2,.int .u64 2,.int .u64 5] W (.int .u32 (plN h 2 1 5)):=fun W=>zaP h 2 2 5 W (by omega) (by omega) (by omega)
 have c6:∀ W,TW 213 #[.int .u32 h,.int .u64 11,.int .u64 11,.int .u64 4] W (.int .u32 (plN h 11 1 4)):=fun W=>zaP h 11 11 4 W (by omega) (by omega) (by omega)
 have c7:∀ W,TW 213 #[.int .u32 h,.int .u64 5,.int .u64 3,.int .u64 1] W (.int .u32 (plN h 3 3 1)):=fun W=>zaP h 5 3 1 W (by omega) (by omega) (by omega)
 have c8:∀ W,TW 214 #[.int .u32 (bits .or .u32 (bits .or .u32 (bits .or .u32 (bits .or .u32 (bits .or .u32 (bits .or .u32 (bits .or .u32 (plN h 12 1 11) (plN h 8 1 10)) (plN h 9 2 8)) (plN h 6 1 7)) (plN h 7 1 6)) (plN h 2 1 5)) (plN h 11 1 4)) (plN h 3 3 1)),.int .u64 12] W (.int .u32 (zhR (orN (orN (orN (orN (orN (orN (orN (plN h 12 1 11) (plN h 8 1 10)) (plN h 9 2 8)) (plN h 6 1 7)) (plN h 7 1 6)) (plN h 2 1 5)) (plN h 11 1 4)) (plN h 3 3 1)))):=fun W=>by
  have h:=zwL (orN (orN (orN (orN (orN (orN (orN (plN h 12 1 11) (plN h 8 1 10)) (plN h 9 2 8)) (plN h 6 1 7)) (plN h 7 1 6)) (plN h 2 1 5)) (plN h 11 1 4)) (plN h 3 3 1)) W;simp only [nats];exact h
 go_enter func180,ntmps180;go_wp2_with ((first | (go_at_call 213;with_reducible refine (c0 _).tq ?_) | (go_at_call 213;with_reducible refine (c1 _).tq ?_) | (go_at_call 213;with_reducible refine (c2 _).tq ?_) | (go_at_call 213;with_reducible refine (c3 _).tq ?_) | (go_at_call 213;with_reducible refine (c4 _).tq ?_) | (go_at_call 213;with_reducible refine (c5 _).tq ?_) | (go_at_call 213;with_reducible refine (c6 _).tq ?_) | (go_at_call 213;with_reducible refine (c7 _).tq ?_) | (go_at_call 214;with_reducible refine (c8 _).tq ?_)));go_ret;refine ⟨zal ?_,rfl⟩
 first | rfl | (simp only [nats];rfl)
def zcS (h:Nat):Nat:=(zhS (orN (orN (orN (orN (plN h 12 1 8) (plN h 5 2 6)) (plN h 2 1 5)) (plN h 10 2 3)) (plN h 3 2 1)))
theorem zkj (h:Nat) (W:World):TW 182 #[.int .u32 (h:Nat)] W (.int .u32 ((zcS h:Nat):Int)):=by
 have c0:∀ W,TW 213 #[.int .u32 h,.int .u64 12,.int .u64 12,.int .u64 8] W (.int .u32 (plN h 12 1 8)):=fun W=>zaP h 12 12 8 W (by omega) (by omega) (by omega)
 have c1:∀ W,TW 213 #[.int .u32 h,.int .u64 6,.int .u64 5,.int .u64 6] W (.int .u32 (plN h 5 2 6)):=fun W=>zaP h 6 5 6 W (by omega) (by omega) (by omega)
 have c2:∀ W,TW 213 #[.int .u32 h,.int .u64 2,.int .u64 2,.int .u64 5] W (.int .u32 (plN h 2 1 5)):=fun W=>zaP h 2 2 5 W (by omega) (by omega) (by omega)
 have c3:∀ W,TW 213 #[.int .u32 h,.int .u64 11,.int .u64 10,.int .u64 3] W (.int .u32 (plN h 10 2 3)):=fun W=>zaP h 11 10 3 W (by omega) (by omega) (by omega)
 have c4:∀ W,TW 213 #[.int .u32 h,.int .u64 4,.int .u64 3,.int .u64 1] W (.int .u32 (plN h 3 2 1)):=fun W=>zaP h 4 3 1 W (by omega) (by omega) (by omega)
 have c5:∀ W,TW 214 #[.int .u32 (bits .or .u32 (bits .or .u32 (bits .or .u32 (bits .or .u32 (plN h 12 1 8) (plN h 5 2 6)) (plN h 2 1 5)) (plN h 10 2 3)) (plN h 3 2 1)),.int .u64 9] W (.int .u32 (zhS (orN (orN (orN (orN (plN h 12 1 8) (plN h 5 2 6)) (plN h 2 1 5)) (plN h 10 2 3)) (plN h 3 2 1)))):=fun W=>by
  have h:=zuM (orN (orN (orN (orN (plN h 12 1 8) (plN h 5 2 6)) (plN h 2 1 5)) (plN h 10 2 3)) (plN h 3 2 1)) W;simp only [nats];exact h
 go_enter func182,ntmps182;go_wp2_with ((first | (go_at_call 213;with_reducible refine (c0 _).tq ?_) | (go_at_call 213;with_reducible refine (c1 _).tq ?_) | (go_at_call 213;with_reducible refine (c2 _).tq ?_) | (go_at_call 213;with_reducible refine (c3 _).tq ?_) | (go_at_call 213;with_reducible refine (c4 _).tq ?_) | (go_at_call 214;with_reducible refine (c5 _).tq ?_)));go_ret;refine ⟨zal ?_,rfl⟩
 first | rfl | (simp only [nats];rfl)
def zaA (imm rs1 f3 rd op:Nat):Nat:=(orN (orN (orN (orN (plN imm 0 12 20) (rs1*32768 % 4294967296)) (f3*4096 % 4294967296)) (rd*128 % 4294967296)) op)
theorem zcO (imm rs1 f3 rd op:Nat) (W:World):TW 171 #[.int .u32 (imm:Nat),.int .u32 (rs1:Nat),.int .u32 (f3:Nat),.int .u32 (rd:Nat),.int .u32 (op:Nat)] W (.int .u32 ((zaA imm rs1 f3 rd op:Nat):Int)):=by
 have c0:∀ W,TW 213 #[.int .u32 imm,.int .u64 11,.int .u64 0,.int .u64 20] W (.int .u32 (plN imm 0 12 20)):=fun W=>zaP imm 11 0 20 W (by omega) (by omega) (by omega)
 go_enter func171,ntmps171;go_wp2_with (go_at_call 213;with_reducible refine (c0 _).tq ?_);go_ret;refine ⟨zal ?_,rfl⟩
 first | rfl | (simp only [nats];rfl)
def zbf (f7 rs2 rs1 f3 rd op:Nat):Nat:=(orN (orN (orN (orN (orN (f7*33554432 % 4294967296) (rs2*1048576 % 4294967296)) (rs1*32768 % 4294967296)) (f3*4096 % 4294967296)) (rd*128 % 4294967296)) op)
theorem zel (f7 rs2 rs1 f3 rd op:Nat) (W:World):TW 218 #[.int .u32 (f7:Nat),.int .u32 (rs2:Nat),.int .u32 (rs1:Nat),.int .u32 (f3:Nat),.int .u32 (rd:Nat),.int .u32 (op:Nat)] W (.int .u32 ((zbf f7 rs2 rs1 f3 rd op:Nat):Int)):=by
 go_enter func218,ntmps218
 go_wp2
 go_ret;refine ⟨zal ?_,rfl⟩
 first | rfl | (simp only [nats];rfl)
def zcq (imm rs2 rs1 f3 op:Nat):Nat:=(orN (orN (orN (orN (orN (plN imm 5 7 25) (rs2*1048576 % 4294967296)) (rs1*32768 % 4294967296)) (f3*4096 % 4294967296)) (plN imm 0 5 7)) op)
theorem zgd (imm rs2 rs1 f3 op:Nat) (W:World):TW 174 #[.int .u32 (imm:Nat),.int .u32 (rs2:Nat),.int .u32 (rs1:Nat),.int .u32 (f3:Nat),.int .u32 (op:Nat)] W (.int .u32 ((zcq imm rs2 rs1 f3 op:Nat):Int)):=by
 have c0:∀ W,TW 213 #[.int .u32 imm,.int .u64 11,.int .u64 5,.int .u64 25] W (.int .u32 (plN imm 5 7 25)):=fun W=>zaP imm 11 5 25 W (by omega) (by omega) (by omega)
 have c1:∀ W,TW 213 #[.int .u32 imm,.int .u64 4,.int .u64 0,.int .u64 7] W (.int .u32 (plN imm 0 5 7)):=fun W=>zaP imm 4 0 7 W (by omega) (by omega) (by omega)
 go_enter func174,ntmps174;go_wp2_with ((first | (go_at_call 213;with_reducible refine (c0 _).tq ?_) | (go_at_call 213;with_reducible refine (c1 _).tq ?_)));go_ret;refine ⟨zal ?_,rfl⟩
 first | rfl | (simp only [nats];rfl)
def zd5 (imm rs2 rs1 f3:Nat):Nat:=(orN (orN (orN (orN (orN (orN (plN imm 12 1 31) (plN imm 5 6 25)) (rs2*1048576 % 4294967296)) (rs1*32768 % 4294967296)) (f3*4096 % 4294967296)) (orN (plN imm 1 4 8) (plN imm 11 1 7))) 99)
theorem zj5 (imm rs2 rs1 f3:Nat) (W:World):TW 181 #[.int .u32 (imm:Nat),.int .u32 (rs2:Nat),.int .u32 (rs1:Nat),.int .u32 (f3:Nat)] W (.int .u32 ((zd5 imm rs2 rs1 f3:Nat):Int)):=by
 have c0:∀ W,TW 213 #[.int .u32 imm,.int .u64 12,.int .u64 12,.int .u64 31] W (.int .u32 (plN imm 12 1 31)):=fun W=>zaP imm 12 12 31 W (by omega) (by omega) (by omega)
 have c1:∀ W,TW 213 #[.int .u32 imm,.int .u64 10,.int .u64 5,.int .u64 25] W (.int .u32 (plN imm 5 6 25)):=fun W=>zaP imm 10 5 25 W (by omega) (by omega) (by omega)
 have c2:∀ W,TW 213 #[.int .u32 imm,.int .u64 4,.int .u64 1,.int .u64 8] W (.int .u32 (plN imm 1 4 8)):=fun W=>zaP imm 4 1 8 W (by omega) (by omega) (by omega)
 have c3:∀ W,TW 213 #[.int .u32 imm,.int .u64 11,.int .u64 11,.int .u64 7] W (.int .u32 (plN imm 11 1 7)):=fun W=>zaP imm 11 11 7 W (by omega) (by omega) (by omega)
 go_enter func181,ntmps181;go_wp2_with ((first | (go_at_call 213;with_reducible refine (c0 _).tq ?_) | (go_at_call 213;with_reducible refine (c1 _).tq ?_) | (go_at_call 213;with_reducible refine (c2 _).tq ?_) | (go_at_call 213;with_reducible refine (c3 _).tq ?_)));go_ret;refine ⟨zal ?_,rfl⟩
 first | rfl | (simp only [nats];rfl)
def zg3 (imm rd:Nat):Nat:=(orN (orN (plN imm 0 20 12) (rd*128 % 4294967296)) 55)
theorem zpz (imm rd:Nat) (W:World):TW 216 #[.int .u32 (imm:Nat),.int .u32 (rd:Nat)] W (.int .u32 ((zg3 imm rd:Nat):Int)):=by
 have c0:∀ W,TW 213 #[.int .u32 imm,.int .u64 19,.int .u64 0,.int .u64 12] W (.int .u32 (plN imm 0 20 12)):=fun W=>zaP imm 19 0 12 W (by omega) (by omega) (by omega)
 go_enter func216,ntmps216;go_wp2_with (go_at_call 213;with_reducible refine (c0 _).tq ?_);go_ret;refine ⟨zal ?_,rfl⟩
 first | rfl | (simp only [nats];rfl)
def zfF (imm rd:Nat):Nat:=(orN (orN (orN (orN (plN imm 20 1 31) (plN imm 1 10 21)) (orN (plN imm 11 1 20) (plN imm 12 8 12))) (rd*128 % 4294967296)) 111)
theorem zpT (imm rd:Nat) (W:World):TW 179 #[.int .u32 (imm:Nat),.int .u32 (rd:Nat)] W (.int .u32 ((zfF imm rd:Nat):Int)):=by
 have c0:∀ W,TW 213 #[.int .u32 imm,.int .u64 20,.int .u64 20,.int .u64 31] W (.int .u32 (plN imm 20 1 31)):=fun W=>zaP imm 20 20 31 W (by omega) (by omega) (by omega)
 have c1:∀ W,TW 213 #[.int .u32 imm,.int .u64 10,.int .u64 1,.int .u64 21] W (.int .u32 (plN imm 1 10 21)):=fun W=>zaP imm 10 1 21 W (by omega) (by omega) (by omega)
 have c2:∀ W,TW 213 #[.int .u32 imm,.int .u64 11,.int .u64 11,.int .u64 20] W (.int .u32 (plN imm 11 1 20)):=fun W=>zaP imm 11 11 20 W (by omega) (by omega) (by omega)
 have c3:∀ W,TW 213 #[.int .u32 imm,.int .u64 19,.int .u64 12,.int .u64 12] W (.int .u32 (plN imm 12 8 12)):=fun W=>zaP imm 19 12 12 W (by omega) (by omega) (by omega)
 go_enter func179,ntmps179;go_wp2_with ((first | (go_at_call 213;with_reducible refine (c0 _).tq ?_) | (go_at_call 213;with_reducible refine (c1 _).tq ?_) | (go_at_call 213;with_reducible refine (c2 _).tq ?_) | (go_at_call 213;with_reducible refine (c3 _).tq ?_)));go_ret;refine ⟨zal ?_,rfl⟩
 first | rfl | (simp only [nats];rfl)
end Go.Proofs.YtplcfdnfeclpmaaGreatDoor.Br
