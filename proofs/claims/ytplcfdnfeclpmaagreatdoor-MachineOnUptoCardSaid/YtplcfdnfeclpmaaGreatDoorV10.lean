/- MachineOn, part 10. -/
import Derived.Below
import Derived.Deep.Draws
import Derived.Deep.Slices
import Derived.BigQuiet
import Derived.Carry
import Derived.ChangeMaps
import Derived.Deep.DeepCutAuto
import Derived.Deep.RegionHeld3
import Derived.Deep.RegionWith
import Derived.IntWalk
import Derived.Laws.BitsAllLaws
import Derived.Lib.Hide
import Derived.Lib.SmallJoins
import Derived.OpenShut
import Derived.ProofKit
import Derived.SizedLaws
import Derived.WalkKit
import Derived.WalkLawsBesides
import Derived.Test.YtplcfdnfeclpmaaGreatDoorV07
set_option maxHeartbeats 4000000
set_option maxRecDepth 100000
open Go.Lib (hid)
open Go Go.RowKit Go.Deep Go.Joins Go.Proofs.Tryz
namespace Go.Proofs.YtplcfdnfeclpmaaGreatDoor.Br
theorem zaT {a b:Bool} (h:a=b):Ending.returned (.bool a)=.returned (.bool b):=by rw [h]
theorem zam {k:IntKind} {a b:Int} (h:a=b):Ending.returned (.int k a)=.returned (.int k b):=by rw [h]
def cutN (w l k:Nat):Nat:=w / 2 ^ l % 2 ^ k
def plN (w l k t:Nat):Nat:=cutN w l k*2 ^ t % 4294967296
def orN (a b:Nat):Nat:=(a ||| b) % 4294967296
theorem zbk (w l k:Nat):cutN w l k<2 ^ k:=Nat.mod_lt _ (Nat.two_pow_pos k)
theorem zij (w h l:Nat) (hl:l≤h) (hh:h≤31):w*2 ^ (31 - h) % 4294967296 / 2 ^ (31 - h+l)=cutN w l (h+1 - l):=by
 unfold cutN
 have e:(4294967296:Nat)=2 ^ (h+1)*2 ^ (31 - h):=by
  rw [← Nat.pow_add,show h+1+(31 - h)=32 by omega]
 rw [e,Nat.mul_mod_mul_right,Nat.pow_add 2 (31 - h) l,← Nat.div_div_eq_div_mul,Nat.mul_div_cancel _ (Nat.two_pow_pos _)];rw [show (2:Nat) ^ (h+1)=2 ^ l*2 ^ (h+1 - l) by rw [← Nat.pow_add,show l+(h+1 - l)=h+1 by omega]];rw [Nat.mod_mul_right_div_self]
theorem zd4 (a b:Nat):bits .or .u32 (a:Int) (b:Int)=((orN a b:Nat):Int):=by
 show IntKind.u32.wrap ((BitVec.ofInt 32 (a:Int) ||| BitVec.ofInt 32 (b:Int)).toNat:Int)=_
 rw [BitVec.ofInt_natCast,BitVec.ofInt_natCast,BitVec.toNat_or,BitVec.toNat_ofNat,BitVec.toNat_ofNat,← Nat.or_mod_two_pow,IntKind.wrap_u32];unfold orN;omega
theorem zsx (a k:Nat) (hk:k<32):bits .and .u32 (a:Int) ((2 ^ k - 1:Nat):Int)=((a % 2 ^ k:Nat):Int):=by
 show IntKind.u32.wrap ((BitVec.ofInt 32 (a:Int) &&& BitVec.ofInt 32 ((2 ^ k - 1:Nat):Int)).toNat:Int)=_
 have h1:(2:Nat) ^ k≤2 ^ 31:=Nat.pow_le_pow_right (by omega) (by omega);have h0:(0:Nat)<2 ^ k:=Nat.two_pow_pos k;rw [BitVec.ofInt_natCast,BitVec.ofInt_natCast,BitVec.toNat_and,BitVec.toNat_ofNat,BitVec.toNat_ofNat,Nat.mod_eq_of_lt (a:=2 ^ k - 1) (by omega),Nat.and_two_pow_sub_one_eq_mod,IntKind.wrap_u32];rw [Nat.mod_mod_of_dvd _ (Nat.pow_dvd_pow 2 (by omega))];have:=Nat.mod_lt a h0;omega
theorem zxc (a:Nat):bits .and .u32 (a:Int) 4095=((a % 4096:Nat):Int):=zsx a 12 (by omega)
theorem zar (w h l:Nat) (W:World) (hh:h≤31) (hl:l≤h) :
  TW 117 #[.int .u32 w,.int .u64 h,.int .u64 l] W (.int .u32 (cutN w l (h+1 - l):Nat)):=by
 have E:=hid (zij w h l hl hh);have e1:(31 - (h:Int)).toNat=31 - h:=by omega
 have e2:(31 - (h:Int)+(l:Int)).toNat=31 - h+l:=by omega
 go_enter func117,ntmps117
 go_wp2
 go_ret;refine ⟨zam ?_,rfl⟩
 rw [← E.out];simp only [Int.natCast_ediv,Int.natCast_emod,Int.natCast_mul,Int.natCast_pow,Int.cast_ofNat_Int]
theorem zaQ (w h l t:Nat) (W:World) (hh:h≤31) (hl:l≤h) (ht:t≤31) :
  TW 213 #[.int .u32 w,.int .u64 h,.int .u64 l,.int .u64 t] W (.int .u32 (plN w l (h+1 - l) t:Nat)):=by
 go_enter func213,ntmps213;go_wp2_with (go_at_call 117;with_reducible refine (zar w h l _ hh hl).tq ?_);go_ret;refine ⟨zam ?_,rfl⟩
 unfold plN;simp only [Int.natCast_emod,Int.natCast_mul,Int.natCast_pow,Int.cast_ofNat_Int]
theorem sh7 (a:Nat):(a:Int)*128 % 4294967296=((a*128 % 4294967296:Nat):Int):=by omega
theorem sh12 (a:Nat):(a:Int)*4096 % 4294967296=((a*4096 % 4294967296:Nat):Int):=by omega
theorem sh15 (a:Nat):(a:Int)*32768 % 4294967296=((a*32768 % 4294967296:Nat):Int):=by omega
theorem sh20 (a:Nat):(a:Int)*1048576 % 4294967296=((a*1048576 % 4294967296:Nat):Int):=by omega
theorem sh21 (a:Nat):(a:Int)*2097152 % 4294967296=((a*2097152 % 4294967296:Nat):Int):=by omega
theorem sh25 (a:Nat):(a:Int)*33554432 % 4294967296=((a*33554432 % 4294967296:Nat):Int):=by omega
theorem sh31 (a:Nat):(a:Int)*2147483648 % 4294967296=((a*2147483648 % 4294967296:Nat):Int):=by omega
theorem sh16 (a:Nat):(a:Int)*65536 % 4294967296=((a*65536 % 4294967296:Nat):Int):=by omega
theorem sh3 (a:Nat):(a:Int)*8 % 4294967296=((a*8 % 4294967296:Nat):Int):=by omega
theorem sh4 (a:Nat):(a:Int)*16 % 4294967296=((a*16 % 4294967296:Nat):Int):=by omega
theorem sh6 (a:Nat):(a:Int)*64 % 4294967296=((a*64 % 4294967296:Nat):Int):=by omega
theorem sh1 (a:Nat):(a:Int)*2 % 4294967296=((a*2 % 4294967296:Nat):Int):=by omega
theorem sh2 (a:Nat):(a:Int)*4 % 4294967296=((a*4 % 4294967296:Nat):Int):=by omega
theorem sh8 (a:Nat):(a:Int)*256 % 4294967296=((a*256 % 4294967296:Nat):Int):=by omega
theorem beqF {x k:Nat} (h:x≠k):Nat.beq x k=false:=by rw [Bool.eq_false_iff];intro e;exact h (Nat.eq_of_beq_eq_true e)
theorem beqT {x k:Nat} (h:x=k):Nat.beq x k=true:=by rw [h];exact Nat.beq_refl k
theorem add8 (a:Nat):(8+(a:Int)) % 4294967296=(((8+a) % 4294967296:Nat):Int):=by omega
theorem zlT (a:Nat):((a:Int)+1024) % 4294967296=(((a+1024) % 4294967296:Nat):Int):=by omega
theorem zz6 (a:Nat):bits .or .u32 (a:Int) 1024=((orN a 1024:Nat):Int):=zd4 a 1024
def zjm (n:Nat):Nat:=orN n ((4294967296 - cutN n 5 1)*64 % 4294967296)
theorem zoW (n:Nat) (W:World) :
  TW 214 #[.int .u32 n,.int .u64 6] W (.int .u32 (zjm n:Nat)):=by
 have c:∀ W,TW 117 #[.int .u32 n,.int .u64 5,.int .u64 5] W (.int .u32 (cutN n 5 1:Nat)):=fun W=>zar n 5 5 W (by omega) (by omega)
 go_enter func214,ntmps214;go_wp2_with (go_at_call 117;with_reducible refine (c _).tq ?_);go_ret;refine ⟨zam ?_,rfl⟩
 have h:=zbk n 5 1;have e:(-((cutN n 5 1:Nat):Int)) % 4294967296*64 % 4294967296=(((4294967296 - cutN n 5 1)*64 % 4294967296:Nat):Int):=by omega
 rw [e,zd4];rfl
def zhC (n:Nat):Nat:=orN n ((4294967296 - cutN n 8 1)*512 % 4294967296)
theorem zus (n:Nat) (W:World) :
  TW 214 #[.int .u32 n,.int .u64 9] W (.int .u32 (zhC n:Nat)):=by
 have c:∀ W,TW 117 #[.int .u32 n,.int .u64 8,.int .u64 8] W (.int .u32 (cutN n 8 1:Nat)):=fun W=>zar n 8 8 W (by omega) (by omega)
 go_enter func214,ntmps214;go_wp2_with (go_at_call 117;with_reducible refine (c _).tq ?_);go_ret;refine ⟨zam ?_,rfl⟩
 have h:=zbk n 8 1;have e:(-((cutN n 8 1:Nat):Int)) % 4294967296*512 % 4294967296=(((4294967296 - cutN n 8 1)*512 % 4294967296:Nat):Int):=by omega
 rw [e,zd4];rfl
def zim (n:Nat):Nat:=orN n ((4294967296 - cutN n 9 1)*1024 % 4294967296)
theorem zv7 (n:Nat) (W:World) :
  TW 214 #[.int .u32 n,.int .u64 10] W (.int .u32 (zim n:Nat)):=by
 have c:∀ W,TW 117 #[.int .u32 n,.int .u64 9,.int .u64 9] W (.int .u32 (cutN n 9 1:Nat)):=fun W=>zar n 9 9 W (by omega) (by omega)
 go_enter func214,ntmps214;go_wp2_with (go_at_call 117;with_reducible refine (c _).tq ?_);go_ret;refine ⟨zam ?_,rfl⟩
 have h:=zbk n 9 1;have e:(-((cutN n 9 1:Nat):Int)) % 4294967296*1024 % 4294967296=(((4294967296 - cutN n 9 1)*1024 % 4294967296:Nat):Int):=by omega
 rw [e,zd4];rfl
def zhY (n:Nat):Nat:=orN n ((4294967296 - cutN n 11 1)*4096 % 4294967296)
theorem zxu (n:Nat) (W:World) :
  TW 214 #[.int .u32 n,.int .u64 12] W (.int .u32 (zhY n:Nat)):=by
 have c:∀ W,TW 117 #[.int .u32 n,.int .u64 11,.int .u64 11] W (.int .u32 (cutN n 11 1:Nat)):=fun W=>zar n 11 11 W (by omega) (by omega)
 go_enter func214,ntmps214;go_wp2_with (go_at_call 117;with_reducible refine (c _).tq ?_);go_ret;refine ⟨zam ?_,rfl⟩
 have h:=zbk n 11 1;have e:(-((cutN n 11 1:Nat):Int)) % 4294967296*4096 % 4294967296=(((4294967296 - cutN n 11 1)*4096 % 4294967296:Nat):Int):=by omega
 rw [e,zd4];rfl
theorem nats:(∀ a:Nat,(a:Int)*2 % 4294967296=((a*2 % 4294967296:Nat):Int))∧(∀ a:Nat,(a:Int)*4 % 4294967296=((a*4 % 4294967296:Nat):Int))∧(∀ a:Nat,(a:Int)*8 % 4294967296=((a*8 % 4294967296:Nat):Int))∧(∀ a:Nat,(a:Int)*16 % 4294967296=((a*16 % 4294967296:Nat):Int))∧(∀ a:Nat,(a:Int)*64 % 4294967296=((a*64 % 4294967296:Nat):Int))∧(∀ a:Nat,(a:Int)*128 % 4294967296=((a*128 % 4294967296:Nat):Int))∧(∀ a:Nat,(a:Int)*256 % 4294967296=((a*256 % 4294967296:Nat):Int))∧(∀ a:Nat,(a:Int)*4096 % 4294967296=((a*4096 % 4294967296:Nat):Int))∧(∀ a:Nat,(a:Int)*32768 % 4294967296=((a*32768 % 4294967296:Nat):Int))∧(∀ a:Nat,(a:Int)*65536 % 4294967296=((a*65536 % 4294967296:Nat):Int))∧(∀ a:Nat,(a:Int)*1048576 % 4294967296=((a*1048576 % 4294967296:Nat):Int))∧(∀ a:Nat,(a:Int)*2097152 % 4294967296=((a*2097152 % 4294967296:Nat):Int))∧(∀ a:Nat,(a:Int)*33554432 % 4294967296=((a*33554432 % 4294967296:Nat):Int))∧(∀ a:Nat,(a:Int)*2147483648 % 4294967296=((a*2147483648 % 4294967296:Nat):Int))∧(∀ a:Nat,(8+(a:Int)) % 4294967296=(((8+a) % 4294967296:Nat):Int))∧(∀ a:Nat,((a:Int)+1024) % 4294967296=(((a+1024) % 4294967296:Nat):Int))∧(∀ a:Nat,bits .or .u32 (a:Int) 1024=((orN a 1024:Nat):Int))∧(∀ a:Nat,bits .or .u32 (a:Int) 99=((orN a 99:Nat):Int))∧(∀ a:Nat,bits .or .u32 (a:Int) 55=((orN a 55:Nat):Int))∧(∀ a:Nat,bits .or .u32 (a:Int) 111=((orN a 111:Nat):Int))∧(∀ a:Nat,bits .and .u32 (a:Int) 4095=((a % 4096:Nat):Int))∧(∀ a b:Nat,bits .or .u32 (a:Int) (b:Int)=((orN a b:Nat):Int)) :=
 ⟨sh1,sh2,sh3,sh4,sh6,sh7,sh8,sh12,sh15,sh16,sh20,sh21,sh25,sh31,add8,zlT,zz6,fun a=>zd4 a 99,fun a=>zd4 a 55,fun a=>zd4 a 111,zxc,zd4⟩
end Go.Proofs.YtplcfdnfeclpmaaGreatDoor.Br
namespace Go.Proofs.YtplcfdnfeclpmaaGreatDoor.Br
def zah (h:Nat):Nat:=(cutN h 7 5)
theorem zbs (h:Nat) (W:World):TW 175 #[.int .u32 (h:Nat)] W (.int .u32 ((zah h:Nat):Int)):=by
 have c0:∀ W,TW 117 #[.int .u32 h,.int .u64 11,.int .u64 7] W (.int .u32 (cutN h 7 5)):=fun W=>zar h 11 7 W (by omega) (by omega)
 go_enter func175,ntmps175;go_wp2_with (go_at_call 117;with_reducible refine (c0 _).tq ?_);go_ret;refine ⟨zam ?_,rfl⟩
 first | rfl | (simp only [nats];rfl)
def zaV (h:Nat):Nat:=(cutN h 2 5)
theorem zcN (h:Nat) (W:World):TW 183 #[.int .u32 (h:Nat)] W (.int .u32 ((zaV h:Nat):Int)):=by
 have c0:∀ W,TW 117 #[.int .u32 h,.int .u64 6,.int .u64 2] W (.int .u32 (cutN h 2 5)):=fun W=>zar h 6 2 W (by omega) (by omega)
 go_enter func183,ntmps183;go_wp2_with (go_at_call 117;with_reducible refine (c0 _).tq ?_);go_ret;refine ⟨zam ?_,rfl⟩
 first | rfl | (simp only [nats];rfl)
def zae (h:Nat):Nat:=((8+(cutN h 7 3)) % 4294967296)
theorem zbY (h:Nat) (W:World):TW 168 #[.int .u32 (h:Nat)] W (.int .u32 ((zae h:Nat):Int)):=by
 have c0:∀ W,TW 117 #[.int .u32 h,.int .u64 9,.int .u64 7] W (.int .u32 (cutN h 7 3)):=fun W=>zar h 9 7 W (by omega) (by omega)
 go_enter func168,ntmps168;go_wp2_with (go_at_call 117;with_reducible refine (c0 _).tq ?_);go_ret;refine ⟨zam ?_,rfl⟩
 first | rfl | (simp only [nats];rfl)
def zav (h:Nat):Nat:=((8+(cutN h 2 3)) % 4294967296)
theorem zcw (h:Nat) (W:World):TW 169 #[.int .u32 (h:Nat)] W (.int .u32 ((zav h:Nat):Int)):=by
 have c0:∀ W,TW 117 #[.int .u32 h,.int .u64 4,.int .u64 2] W (.int .u32 (cutN h 2 3)):=fun W=>zar h 4 2 W (by omega) (by omega)
 go_enter func169,ntmps169;go_wp2_with (go_at_call 117;with_reducible refine (c0 _).tq ?_);go_ret;refine ⟨zam ?_,rfl⟩
 first | rfl | (simp only [nats];rfl)
def zcc (h:Nat):Nat:=(orN (plN h 12 1 5) (plN h 2 5 0))
theorem zhe (h:Nat) (W:World):TW 184 #[.int .u32 (h:Nat)] W (.int .u32 ((zcc h:Nat):Int)):=by
 have c0:∀ W,TW 213 #[.int .u32 h,.int .u64 12,.int .u64 12,.int .u64 5] W (.int .u32 (plN h 12 1 5)):=fun W=>zaQ h 12 12 5 W (by omega) (by omega) (by omega)
 have c1:∀ W,TW 213 #[.int .u32 h,.int .u64 6,.int .u64 2,.int .u64 0] W (.int .u32 (plN h 2 5 0)):=fun W=>zaQ h 6 2 0 W (by omega) (by omega) (by omega)
 go_enter func184,ntmps184;go_wp2_with ((first | (go_at_call 213;with_reducible refine (c0 _).tq ?_) | (go_at_call 213;with_reducible refine (c1 _).tq ?_)));go_ret;refine ⟨zam ?_,rfl⟩
 first | rfl | (simp only [nats];rfl)
def za2 (h:Nat):Nat:=(zjm (zcc h))
theorem zcZ (h:Nat) (W:World):TW 176 #[.int .u32 (h:Nat)] W (.int .u32 ((za2 h:Nat):Int)):=by
 go_enter func176,ntmps176;go_wp2_with ((first | (go_at_call 184;with_reducible refine (zhe h _).tq ?_) | (go_at_call 214;with_reducible refine (zoW (zcc h) _).tq ?_)));go_ret;refine ⟨zam ?_,rfl⟩
 first | rfl | (simp only [nats];rfl)
def zc3 (h:Nat):Nat:=(orN (orN (plN h 5 1 6) (plN h 10 3 3)) (plN h 6 1 2))
theorem ziC (h:Nat) (W:World):TW 172 #[.int .u32 (h:Nat)] W (.int .u32 ((zc3 h:Nat):Int)):=by
 have c0:∀ W,TW 213 #[.int .u32 h,.int .u64 5,.int .u64 5,.int .u64 6] W (.int .u32 (plN h 5 1 6)):=fun W=>zaQ h 5 5 6 W (by omega) (by omega) (by omega)
 have c1:∀ W,TW 213 #[.int .u32 h,.int .u64 12,.int .u64 10,.int .u64 3] W (.int .u32 (plN h 10 3 3)):=fun W=>zaQ h 12 10 3 W (by omega) (by omega) (by omega)
 have c2:∀ W,TW 213 #[.int .u32 h,.int .u64 6,.int .u64 6,.int .u64 2] W (.int .u32 (plN h 6 1 2)):=fun W=>zaQ h 6 6 2 W (by omega) (by omega) (by omega)
 go_enter func172,ntmps172;go_wp2_with ((first | (go_at_call 213;with_reducible refine (c0 _).tq ?_) | (go_at_call 213;with_reducible refine (c1 _).tq ?_) | (go_at_call 213;with_reducible refine (c2 _).tq ?_)));go_ret;refine ⟨zam ?_,rfl⟩
 first | rfl | (simp only [nats];rfl)
def zda (h:Nat):Nat:=(orN (plN h 5 2 6) (plN h 10 3 3))
theorem zjY (h:Nat) (W:World):TW 173 #[.int .u32 (h:Nat)] W (.int .u32 ((zda h:Nat):Int)):=by
 have c0:∀ W,TW 213 #[.int .u32 h,.int .u64 6,.int .u64 5,.int .u64 6] W (.int .u32 (plN h 5 2 6)):=fun W=>zaQ h 6 5 6 W (by omega) (by omega) (by omega)
 have c1:∀ W,TW 213 #[.int .u32 h,.int .u64 12,.int .u64 10,.int .u64 3] W (.int .u32 (plN h 10 3 3)):=fun W=>zaQ h 12 10 3 W (by omega) (by omega) (by omega)
 go_enter func173,ntmps173;go_wp2_with ((first | (go_at_call 213;with_reducible refine (c0 _).tq ?_) | (go_at_call 213;with_reducible refine (c1 _).tq ?_)));go_ret;refine ⟨zam ?_,rfl⟩
 first | rfl | (simp only [nats];rfl)
def zcS (h:Nat):Nat:=(orN (orN (orN (plN h 7 4 6) (plN h 11 2 4)) (plN h 5 1 3)) (plN h 6 1 2))
theorem zio (h:Nat) (W:World):TW 170 #[.int .u32 (h:Nat)] W (.int .u32 ((zcS h:Nat):Int)):=by
 have c0:∀ W,TW 213 #[.int .u32 h,.int .u64 10,.int .u64 7,.int .u64 6] W (.int .u32 (plN h 7 4 6)):=fun W=>zaQ h 10 7 6 W (by omega) (by omega) (by omega)
 have c1:∀ W,TW 213 #[.int .u32 h,.int .u64 12,.int .u64 11,.int .u64 4] W (.int .u32 (plN h 11 2 4)):=fun W=>zaQ h 12 11 4 W (by omega) (by omega) (by omega)
 have c2:∀ W,TW 213 #[.int .u32 h,.int .u64 5,.int .u64 5,.int .u64 3] W (.int .u32 (plN h 5 1 3)):=fun W=>zaQ h 5 5 3 W (by omega) (by omega) (by omega)
 have c3:∀ W,TW 213 #[.int .u32 h,.int .u64 6,.int .u64 6,.int .u64 2] W (.int .u32 (plN h 6 1 2)):=fun W=>zaQ h 6 6 2 W (by omega) (by omega) (by omega)
 go_enter func170,ntmps170;go_wp2_with ((first | (go_at_call 213;with_reducible refine (c0 _).tq ?_) | (go_at_call 213;with_reducible refine (c1 _).tq ?_) | (go_at_call 213;with_reducible refine (c2 _).tq ?_) | (go_at_call 213;with_reducible refine (c3 _).tq ?_)));go_ret;refine ⟨zam ?_,rfl⟩
 first | rfl | (simp only [nats];rfl)
def zeR (h:Nat):Nat:=(zim (orN (orN (orN (orN (plN h 12 1 9) (plN h 3 2 7)) (plN h 5 1 6)) (plN h 2 1 5)) (plN h 6 1 4)))
theorem zoL (h:Nat) (W:World):TW 215 #[.int .u32 (h:Nat)] W (.int .u32 ((zeR h:Nat):Int)):=by
 have c0:∀ W,TW 213 #[.int .u32 h,.int .u64 12,.int .u64 12,.int .u64 9] W (.int .u32 (plN h 12 1 9)):=fun W=>zaQ h 12 12 9 W (by omega) (by omega) (by omega)
 have c1:∀ W,TW 213 #[.int .u32 h,.int .u64 4,.int .u64 3,.int .u64 7] W (.int .u32 (plN h 3 2 7)):=fun W=>zaQ h 4 3 7 W (by omega) (by omega) (by omega)
 have c2:∀ W,TW 213 #[.int .u32 h,.int .u64 5,.int .u64 5,.int .u64 6] W (.int .u32 (plN h 5 1 6)):=fun W=>zaQ h 5 5 6 W (by omega) (by omega) (by omega)
 have c3:∀ W,TW 213 #[.int .u32 h,.int .u64 2,.int .u64 2,.int .u64 5] W (.int .u32 (plN h 2 1 5)):=fun W=>zaQ h 2 2 5 W (by omega) (by omega) (by omega)
 have c4:∀ W,TW 213 #[.int .u32 h,.int .u64 6,.int .u64 6,.int .u64 4] W (.int .u32 (plN h 6 1 4)):=fun W=>zaQ h 6 6 4 W (by omega) (by omega) (by omega)
 have c5:∀ W,TW 214 #[.int .u32 (bits .or .u32 (bits .or .u32 (bits .or .u32 (bits .or .u32 (plN h 12 1 9) (plN h 3 2 7)) (plN h 5 1 6)) (plN h 2 1 5)) (plN h 6 1 4)),.int .u64 10] W (.int .u32 (zim (orN (orN (orN (orN (plN h 12 1 9) (plN h 3 2 7)) (plN h 5 1 6)) (plN h 2 1 5)) (plN h 6 1 4)))):=fun W=>by
  have h:=zv7 (orN (orN (orN (orN (plN h 12 1 9) (plN h 3 2 7)) (plN h 5 1 6)) (plN h 2 1 5)) (plN h 6 1 4)) W;simp only [nats];exact h
 go_enter func215,ntmps215;go_wp2_with ((first | (go_at_call 213;with_reducible refine (c0 _).tq ?_) | (go_at_call 213;with_reducible refine (c1 _).tq ?_) | (go_at_call 213;with_reducible refine (c2 _).tq ?_) | (go_at_call 213;with_reducible refine (c3 _).tq ?_) | (go_at_call 213;with_reducible refine (c4 _).tq ?_) | (go_at_call 214;with_reducible refine (c5 _).tq ?_)));go_ret;refine ⟨zam ?_,rfl⟩
 first | rfl | (simp only [nats];rfl)
def zeF (h:Nat):Nat:=(orN (orN (plN h 2 2 6) (plN h 12 1 5)) (plN h 4 3 2))
theorem zyW (h:Nat) (W:World):TW 185 #[.int .u32 (h:Nat)] W (.int .u32 ((zeF h:Nat):Int)):=by
 have c0:∀ W,TW 213 #[.int .u32 h,.int .u64 3,.int .u64 2,.int .u64 6] W (.int .u32 (plN h 2 2 6)):=fun W=>zaQ h 3 2 6 W (by omega) (by omega) (by omega)
 have c1:∀ W,TW 213 #[.int .u32 h,.int .u64 12,.int .u64 12,.int .u64 5] W (.int .u32 (plN h 12 1 5)):=fun W=>zaQ h 12 12 5 W (by omega) (by omega) (by omega)
 have c2:∀ W,TW 213 #[.int .u32 h,.int .u64 6,.int .u64 4,.int .u64 2] W (.int .u32 (plN h 4 3 2)):=fun W=>zaQ h 6 4 2 W (by omega) (by omega) (by omega)
 go_enter func185,ntmps185;go_wp2_with ((first | (go_at_call 213;with_reducible refine (c0 _).tq ?_) | (go_at_call 213;with_reducible refine (c1 _).tq ?_) | (go_at_call 213;with_reducible refine (c2 _).tq ?_)));go_ret;refine ⟨zam ?_,rfl⟩
 first | rfl | (simp only [nats];rfl)
def zeC (h:Nat):Nat:=(orN (orN (plN h 2 3 6) (plN h 12 1 5)) (plN h 5 2 3))
theorem ztX (h:Nat) (W:World):TW 186 #[.int .u32 (h:Nat)] W (.int .u32 ((zeC h:Nat):Int)):=by
 have c0:∀ W,TW 213 #[.int .u32 h,.int .u64 4,.int .u64 2,.int .u64 6] W (.int .u32 (plN h 2 3 6)):=fun W=>zaQ h 4 2 6 W (by omega) (by omega) (by omega)
 have c1:∀ W,TW 213 #[.int .u32 h,.int .u64 12,.int .u64 12,.int .u64 5] W (.int .u32 (plN h 12 1 5)):=fun W=>zaQ h 12 12 5 W (by omega) (by omega) (by omega)
 have c2:∀ W,TW 213 #[.int .u32 h,.int .u64 6,.int .u64 5,.int .u64 3] W (.int .u32 (plN h 5 2 3)):=fun W=>zaQ h 6 5 3 W (by omega) (by omega) (by omega)
 go_enter func186,ntmps186;go_wp2_with ((first | (go_at_call 213;with_reducible refine (c0 _).tq ?_) | (go_at_call 213;with_reducible refine (c1 _).tq ?_) | (go_at_call 213;with_reducible refine (c2 _).tq ?_)));go_ret;refine ⟨zam ?_,rfl⟩
 first | rfl | (simp only [nats];rfl)
def zeO (h:Nat):Nat:=(orN (plN h 7 2 6) (plN h 9 4 2))
theorem zxB (h:Nat) (W:World):TW 188 #[.int .u32 (h:Nat)] W (.int .u32 ((zeO h:Nat):Int)):=by
 have c0:∀ W,TW 213 #[.int .u32 h,.int .u64 8,.int .u64 7,.int .u64 6] W (.int .u32 (plN h 7 2 6)):=fun W=>zaQ h 8 7 6 W (by omega) (by omega) (by omega)
 have c1:∀ W,TW 213 #[.int .u32 h,.int .u64 12,.int .u64 9,.int .u64 2] W (.int .u32 (plN h 9 4 2)):=fun W=>zaQ h 12 9 2 W (by omega) (by omega) (by omega)
 go_enter func188,ntmps188;go_wp2_with ((first | (go_at_call 213;with_reducible refine (c0 _).tq ?_) | (go_at_call 213;with_reducible refine (c1 _).tq ?_)));go_ret;refine ⟨zam ?_,rfl⟩
 first | rfl | (simp only [nats];rfl)
def zeE (h:Nat):Nat:=(orN (plN h 7 3 6) (plN h 10 3 3))
theorem zoy (h:Nat) (W:World):TW 189 #[.int .u32 (h:Nat)] W (.int .u32 ((zeE h:Nat):Int)):=by
 have c0:∀ W,TW 213 #[.int .u32 h,.int .u64 9,.int .u64 7,.int .u64 6] W (.int .u32 (plN h 7 3 6)):=fun W=>zaQ h 9 7 6 W (by omega) (by omega) (by omega)
 have c1:∀ W,TW 213 #[.int .u32 h,.int .u64 12,.int .u64 10,.int .u64 3] W (.int .u32 (plN h 10 3 3)):=fun W=>zaQ h 12 10 3 W (by omega) (by omega) (by omega)
 go_enter func189,ntmps189;go_wp2_with ((first | (go_at_call 213;with_reducible refine (c0 _).tq ?_) | (go_at_call 213;with_reducible refine (c1 _).tq ?_)));go_ret;refine ⟨zam ?_,rfl⟩
 first | rfl | (simp only [nats];rfl)
def zeN (h:Nat):Nat:=(zhY (orN (orN (orN (orN (orN (orN (orN (plN h 12 1 11) (plN h 8 1 10)) (plN h 9 2 8)) (plN h 6 1 7)) (plN h 7 1 6)) (plN h 2 1 5)) (plN h 11 1 4)) (plN h 3 3 1)))
theorem zrY (h:Nat) (W:World):TW 180 #[.int .u32 (h:Nat)] W (.int .u32 ((zeN h:Nat):Int)):=by
 have c0:∀ W,TW 213 #[.int .u32 h,.int .u64 12,.int .u64 12,.int .u64 11] W (.int .u32 (plN h 12 1 11)):=fun W=>zaQ h 12 12 11 W (by omega) (by omega) (by omega)
 have c1:∀ W,TW 213 #[.int .u32 h,.int .u64 8,.int .u64 8,.int .u64 10] W (.int .u32 (plN h 8 1 10)):=fun W=>zaQ h 8 8 10 W (by omega) (by omega) (by omega)
 have c2:∀ W,TW 213 #[.int .u32 h,.int .u64 10,.int .u64 9,.int .u64 8] W (.int .u32 (plN h 9 2 8)):=fun W=>zaQ h 10 9 8 W (by omega) (by omega) (by omega)
 have c3:∀ W,TW 213 #[.int .u32 h,.int .u64 6,.int .u64 6,.int .u64 7] W (.int .u32 (plN h 6 1 7)):=fun W=>zaQ h 6 6 7 W (by omega) (by omega) (by omega)
 have c4:∀ W,TW 213 #[.int .u32 h,.int .u64 7,.int .u64 7,.int .u64 6] W (.int .u32 (plN h 7 1 6)):=fun W=>zaQ h 7 7 6 W (by omega) (by omega) (by omega)
 have c5:∀ W,TW 213 #[.int .u32 h,.int .u64 2,.int .u64 2,.int .u64 5] W (.int .u32 (plN h 2 1 5)):=fun W=>zaQ h 2 2 5 W (by omega) (by omega) (by omega)
 have c6:∀ W,TW 213 #[.int .u32 h,.int .u64 11,.int .u64 11,.int .u64 4] W (.int .u32 (plN h 11 1 4)):=fun W=>zaQ h 11 11 4 W (by omega) (by omega) (by omega)
 have c7:∀ W,TW 213 #[.int .u32 h,.int .u64 5,.int .u64 3,.int .u64 1] W (.int .u32 (plN h 3 3 1)):=fun W=>zaQ h 5 3 1 W (by omega) (by omega) (by omega)
 have c8:∀ W,TW 214 #[.int .u32 (bits .or .u32 (bits .or .u32 (bits .or .u32 (bits .or .u32 (bits .or .u32 (bits .or .u32 (bits .or .u32 (plN h 12 1 11) (plN h 8 1 10)) (plN h 9 2 8)) (plN h 6 1 7)) (plN h 7 1 6)) (plN h 2 1 5)) (plN h 11 1 4)) (plN h 3 3 1)),.int .u64 12] W (.int .u32 (zhY (orN (orN (orN (orN (orN (orN (orN (plN h 12 1 11) (plN h 8 1 10)) (plN h 9 2 8)) (plN h 6 1 7)) (plN h 7 1 6)) (plN h 2 1 5)) (plN h 11 1 4)) (plN h 3 3 1)))):=fun W=>by
  have h:=zxu (orN (orN (orN (orN (orN (orN (orN (plN h 12 1 11) (plN h 8 1 10)) (plN h 9 2 8)) (plN h 6 1 7)) (plN h 7 1 6)) (plN h 2 1 5)) (plN h 11 1 4)) (plN h 3 3 1)) W;simp only [nats];exact h
 go_enter func180,ntmps180;go_wp2_with ((first | (go_at_call 213;with_reducible refine (c0 _).tq ?_) | (go_at_call 213;with_reducible refine (c1 _).tq ?_) | (go_at_call 213;with_reducible refine (c2 _).tq ?_) | (go_at_call 213;with_reducible refine (c3 _).tq ?_) | (go_at_call 213;with_reducible refine (c4 _).tq ?_) | (go_at_call 213;with_reducible refine (c5 _).tq ?_) | (go_at_call 213;with_reducible refine (c6 _).tq ?_) | (go_at_call 213;with_reducible refine (c7 _).tq ?_) | (go_at_call 214;with_reducible refine (c8 _).tq ?_)));go_ret;refine ⟨zam ?_,rfl⟩
 first | rfl | (simp only [nats];rfl)
def zc4 (h:Nat):Nat:=(zhC (orN (orN (orN (orN (plN h 12 1 8) (plN h 5 2 6)) (plN h 2 1 5)) (plN h 10 2 3)) (plN h 3 2 1)))
theorem zkc (h:Nat) (W:World):TW 182 #[.int .u32 (h:Nat)] W (.int .u32 ((zc4 h:Nat):Int)):=by
 have c0:∀ W,TW 213 #[.int .u32 h,.int .u64 12,.int .u64 12,.int .u64 8] W (.int .u32 (plN h 12 1 8)):=fun W=>zaQ h 12 12 8 W (by omega) (by omega) (by omega)
 have c1:∀ W,TW 213 #[.int .u32 h,.int .u64 6,.int .u64 5,.int .u64 6] W (.int .u32 (plN h 5 2 6)):=fun W=>zaQ h 6 5 6 W (by omega) (by omega) (by omega)
 have c2:∀ W,TW 213 #[.int .u32 h,.int .u64 2,.int .u64 2,.int .u64 5] W (.int .u32 (plN h 2 1 5)):=fun W=>zaQ h 2 2 5 W (by omega) (by omega) (by omega)
 have c3:∀ W,TW 213 #[.int .u32 h,.int .u64 11,.int .u64 10,.int .u64 3] W (.int .u32 (plN h 10 2 3)):=fun W=>zaQ h 11 10 3 W (by omega) (by omega) (by omega)
 have c4:∀ W,TW 213 #[.int .u32 h,.int .u64 4,.int .u64 3,.int .u64 1] W (.int .u32 (plN h 3 2 1)):=fun W=>zaQ h 4 3 1 W (by omega) (by omega) (by omega)
 have c5:∀ W,TW 214 #[.int .u32 (bits .or .u32 (bits .or .u32 (bits .or .u32 (bits .or .u32 (plN h 12 1 8) (plN h 5 2 6)) (plN h 2 1 5)) (plN h 10 2 3)) (plN h 3 2 1)),.int .u64 9] W (.int .u32 (zhC (orN (orN (orN (orN (plN h 12 1 8) (plN h 5 2 6)) (plN h 2 1 5)) (plN h 10 2 3)) (plN h 3 2 1)))):=fun W=>by
  have h:=zus (orN (orN (orN (orN (plN h 12 1 8) (plN h 5 2 6)) (plN h 2 1 5)) (plN h 10 2 3)) (plN h 3 2 1)) W;simp only [nats];exact h
 go_enter func182,ntmps182;go_wp2_with ((first | (go_at_call 213;with_reducible refine (c0 _).tq ?_) | (go_at_call 213;with_reducible refine (c1 _).tq ?_) | (go_at_call 213;with_reducible refine (c2 _).tq ?_) | (go_at_call 213;with_reducible refine (c3 _).tq ?_) | (go_at_call 213;with_reducible refine (c4 _).tq ?_) | (go_at_call 214;with_reducible refine (c5 _).tq ?_)));go_ret;refine ⟨zam ?_,rfl⟩
 first | rfl | (simp only [nats];rfl)
def zaA (imm rs1 f3 rd op:Nat):Nat:=(orN (orN (orN (orN (plN imm 0 12 20) (rs1*32768 % 4294967296)) (f3*4096 % 4294967296)) (rd*128 % 4294967296)) op)
theorem zcT (imm rs1 f3 rd op:Nat) (W:World):TW 171 #[.int .u32 (imm:Nat),.int .u32 (rs1:Nat),.int .u32 (f3:Nat),.int .u32 (rd:Nat),.int .u32 (op:Nat)] W (.int .u32 ((zaA imm rs1 f3 rd op:Nat):Int)):=by
 have c0:∀ W,TW 213 #[.int .u32 imm,.int .u64 11,.int .u64 0,.int .u64 20] W (.int .u32 (plN imm 0 12 20)):=fun W=>zaQ imm 11 0 20 W (by omega) (by omega) (by omega)
 go_enter func171,ntmps171;go_wp2_with (go_at_call 213;with_reducible refine (c0 _).tq ?_);go_ret;refine ⟨zam ?_,rfl⟩
 first | rfl | (simp only [nats];rfl)
def zbi (f7 rs2 rs1 f3 rd op:Nat):Nat:=(orN (orN (orN (orN (orN (f7*33554432 % 4294967296) (rs2*1048576 % 4294967296)) (rs1*32768 % 4294967296)) (f3*4096 % 4294967296)) (rd*128 % 4294967296)) op)
theorem zen (f7 rs2 rs1 f3 rd op:Nat) (W:World):TW 218 #[.int .u32 (f7:Nat),.int .u32 (rs2:Nat),.int .u32 (rs1:Nat),.int .u32 (f3:Nat),.int .u32 (rd:Nat),.int .u32 (op:Nat)] W (.int .u32 ((zbi f7 rs2 rs1 f3 rd op:Nat):Int)):=by
 go_enter func218,ntmps218
 go_wp2
 go_ret;refine ⟨zam ?_,rfl⟩
 first | rfl | (simp only [nats];rfl)
def zcz (imm rs2 rs1 f3 op:Nat):Nat:=(orN (orN (orN (orN (orN (plN imm 5 7 25) (rs2*1048576 % 4294967296)) (rs1*32768 % 4294967296)) (f3*4096 % 4294967296)) (plN imm 0 5 7)) op)
theorem zhb (imm rs2 rs1 f3 op:Nat) (W:World):TW 174 #[.int .u32 (imm:Nat),.int .u32 (rs2:Nat),.int .u32 (rs1:Nat),.int .u32 (f3:Nat),.int .u32 (op:Nat)] W (.int .u32 ((zcz imm rs2 rs1 f3 op:Nat):Int)):=by
 have c0:∀ W,TW 213 #[.int .u32 imm,.int .u64 11,.int .u64 5,.int .u64 25] W (.int .u32 (plN imm 5 7 25)):=fun W=>zaQ imm 11 5 25 W (by omega) (by omega) (by omega)
 have c1:∀ W,TW 213 #[.int .u32 imm,.int .u64 4,.int .u64 0,.int .u64 7] W (.int .u32 (plN imm 0 5 7)):=fun W=>zaQ imm 4 0 7 W (by omega) (by omega) (by omega)
 go_enter func174,ntmps174;go_wp2_with ((first | (go_at_call 213;with_reducible refine (c0 _).tq ?_) | (go_at_call 213;with_reducible refine (c1 _).tq ?_)));go_ret;refine ⟨zam ?_,rfl⟩
 first | rfl | (simp only [nats];rfl)
def zeg (imm rs2 rs1 f3:Nat):Nat:=(orN (orN (orN (orN (orN (orN (plN imm 12 1 31) (plN imm 5 6 25)) (rs2*1048576 % 4294967296)) (rs1*32768 % 4294967296)) (f3*4096 % 4294967296)) (orN (plN imm 1 4 8) (plN imm 11 1 7))) 99)
theorem zkn (imm rs2 rs1 f3:Nat) (W:World):TW 181 #[.int .u32 (imm:Nat),.int .u32 (rs2:Nat),.int .u32 (rs1:Nat),.int .u32 (f3:Nat)] W (.int .u32 ((zeg imm rs2 rs1 f3:Nat):Int)):=by
 have c0:∀ W,TW 213 #[.int .u32 imm,.int .u64 12,.int .u64 12,.int .u64 31] W (.int .u32 (plN imm 12 1 31)):=fun W=>zaQ imm 12 12 31 W (by omega) (by omega) (by omega)
 have c1:∀ W,TW 213 #[.int .u32 imm,.int .u64 10,.int .u64 5,.int .u64 25] W (.int .u32 (plN imm 5 6 25)):=fun W=>zaQ imm 10 5 25 W (by omega) (by omega) (by omega)
 have c2:∀ W,TW 213 #[.int .u32 imm,.int .u64 4,.int .u64 1,.int .u64 8] W (.int .u32 (plN imm 1 4 8)):=fun W=>zaQ imm 4 1 8 W (by omega) (by omega) (by omega)
 have c3:∀ W,TW 213 #[.int .u32 imm,.int .u64 11,.int .u64 11,.int .u64 7] W (.int .u32 (plN imm 11 1 7)):=fun W=>zaQ imm 11 11 7 W (by omega) (by omega) (by omega)
 go_enter func181,ntmps181;go_wp2_with ((first | (go_at_call 213;with_reducible refine (c0 _).tq ?_) | (go_at_call 213;with_reducible refine (c1 _).tq ?_) | (go_at_call 213;with_reducible refine (c2 _).tq ?_) | (go_at_call 213;with_reducible refine (c3 _).tq ?_)));go_ret;refine ⟨zam ?_,rfl⟩
 first | rfl | (simp only [nats];rfl)
def zgl (imm rd:Nat):Nat:=(orN (orN (plN imm 0 20 12) (rd*128 % 4294967296)) 55)
theorem zyP (imm rd:Nat) (W:World):TW 216 #[.int .u32 (imm:Nat),.int .u32 (rd:Nat)] W (.int .u32 ((zgl imm rd:Nat):Int)):=by
 have c0:∀ W,TW 213 #[.int .u32 imm,.int .u64 19,.int .u64 0,.int .u64 12] W (.int .u32 (plN imm 0 20 12)):=fun W=>zaQ imm 19 0 12 W (by omega) (by omega) (by omega)
 go_enter func216,ntmps216;go_wp2_with (go_at_call 213;with_reducible refine (c0 _).tq ?_);go_ret;refine ⟨zam ?_,rfl⟩
 first | rfl | (simp only [nats];rfl)
def zgb (imm rd:Nat):Nat:=(orN (orN (orN (orN (plN imm 20 1 31) (plN imm 1 10 21)) (orN (plN imm 11 1 20) (plN imm 12 8 12))) (rd*128 % 4294967296)) 111)
theorem znJ (imm rd:Nat) (W:World):TW 179 #[.int .u32 (imm:Nat),.int .u32 (rd:Nat)] W (.int .u32 ((zgb imm rd:Nat):Int)):=by
 have c0:∀ W,TW 213 #[.int .u32 imm,.int .u64 20,.int .u64 20,.int .u64 31] W (.int .u32 (plN imm 20 1 31)):=fun W=>zaQ imm 20 20 31 W (by omega) (by omega) (by omega)
 have c1:∀ W,TW 213 #[.int .u32 imm,.int .u64 10,.int .u64 1,.int .u64 21] W (.int .u32 (plN imm 1 10 21)):=fun W=>zaQ imm 10 1 21 W (by omega) (by omega) (by omega)
 have c2:∀ W,TW 213 #[.int .u32 imm,.int .u64 11,.int .u64 11,.int .u64 20] W (.int .u32 (plN imm 11 1 20)):=fun W=>zaQ imm 11 11 20 W (by omega) (by omega) (by omega)
 have c3:∀ W,TW 213 #[.int .u32 imm,.int .u64 19,.int .u64 12,.int .u64 12] W (.int .u32 (plN imm 12 8 12)):=fun W=>zaQ imm 19 12 12 W (by omega) (by omega) (by omega)
 go_enter func179,ntmps179;go_wp2_with ((first | (go_at_call 213;with_reducible refine (c0 _).tq ?_) | (go_at_call 213;with_reducible refine (c1 _).tq ?_) | (go_at_call 213;with_reducible refine (c2 _).tq ?_) | (go_at_call 213;with_reducible refine (c3 _).tq ?_)));go_ret;refine ⟨zam ?_,rfl⟩
 first | rfl | (simp only [nats];rfl)
end Go.Proofs.YtplcfdnfeclpmaaGreatDoor.Br
