/- HartQuiet,part 9. -/
import Derived.Test.YtmjjpgaeboaamaaGreatDoorY08
set_option maxHeartbeats 4000000
set_option maxRecDepth 100000
open Go.Lib (hid)
namespace Go.Proofs.YtmjjpgaeboaamaaGreatDoor.Al
open Go.RowKit Go.Deep Go.Joins
set_option maxRecDepth 100000
def minU (a b:Int):Int:=if a<b then a else b
def maxU (a b:Int):Int:=if b<a then a else b
def minS (a b:Int):Int:=if wrap64 a<wrap64 b then a else b
def maxS (a b:Int):Int:=if wrap64 b<wrap64 a then a else b
def minT (a b:Int):Int:=if wrap32 a<wrap32 b then lowV a else lowV b
def maxT (a b:Int):Int:=if wrap32 b<wrap32 a then lowV a else lowV b
theorem ziG (a b:Int) (h:b<a):b=minU a b:=by
 unfold minU
 split <;> omega
theorem zh9 (a b:Int) (h:a≤b):a=minU a b:=by
 unfold minU
 split <;> omega
theorem ziD (a b:Int) (h:a<b):b=maxU a b:=by
 unfold maxU
 split <;> omega
theorem ziR (a b:Int) (h:b≤a):a=maxU a b:=by
 unfold maxU
 split <;> omega
theorem zrt (a b:Int) (ha:U64 a) (hb:U64 b) (h:wrap64 b<wrap64 a):IntKind.u64.wrap (wrap64 b)=minS a b:=by
 unfold minS
 have A:=S_eq a;have B:=S_eq b;have ha1:=ha.1;have ha2:=ha.2;have hb1:=hb.1;have hb2:=hb.2
 simp only [IntKind.wrap_u64]
 split <;> omega
theorem zms (a b:Int) (ha:U64 a) (hb:U64 b) (h:wrap64 a≤wrap64 b):IntKind.u64.wrap (wrap64 a)=minS a b:=by
 unfold minS
 have A:=S_eq a;have B:=S_eq b;have ha1:=ha.1;have ha2:=ha.2;have hb1:=hb.1;have hb2:=hb.2
 simp only [IntKind.wrap_u64]
 split <;> omega
theorem zlx (a b:Int) (ha:U64 a) (hb:U64 b) (h:wrap64 a<wrap64 b):IntKind.u64.wrap (wrap64 b)=maxS a b:=by
 unfold maxS
 have A:=S_eq a;have B:=S_eq b;have ha1:=ha.1;have ha2:=ha.2;have hb1:=hb.1;have hb2:=hb.2
 simp only [IntKind.wrap_u64]
 split <;> omega
theorem zvy (a b:Int) (ha:U64 a) (hb:U64 b) (h:wrap64 b≤wrap64 a):IntKind.u64.wrap (wrap64 a)=maxS a b:=by
 unfold maxS
 have A:=S_eq a;have B:=S_eq b;have ha1:=ha.1;have ha2:=ha.2;have hb1:=hb.1;have hb2:=hb.2
 simp only [IntKind.wrap_u64]
 split <;> omega
theorem zrd (a b:Int) (h:wrap32 b<wrap32 a):wrap32 b % 4294967296=minT a b:=by
 unfold minT
 have A:=T_eq a;have B:=T_eq b
 simp only [zel]
 split <;> omega
theorem zmi (a b:Int) (h:wrap32 a≤wrap32 b):wrap32 a % 4294967296=minT a b:=by
 unfold minT
 have A:=T_eq a;have B:=T_eq b
 simp only [zel]
 split <;> omega
theorem zvw (a b:Int) (h:wrap32 a<wrap32 b):wrap32 b % 4294967296=maxT a b:=by
 unfold maxT
 have A:=T_eq a;have B:=T_eq b
 simp only [zel]
 split <;> omega
theorem zqK (a b:Int) (h:wrap32 b≤wrap32 a):wrap32 a % 4294967296=maxT a b:=by
 unfold maxT
 have A:=T_eq a;have B:=T_eq b
 simp only [zel]
 split <;> omega
theorem zou (a b:Int) (ha:U64 a) (hb:U64 b) (W:World):TW 158 #[.int .i64 31,(.int .u64 a),(.int .u64 b)] W (.tuple #[.int .u64 (uV (a+b)),.bool true]):=by
 have hU:=And.intro ha hb
 clear hU
 go_enter Tryz.func158,Tryz.ntmps158
 go_wp2_with (first | (go_at_call 230;(with_reducible refine (zmv a b ha hb _).mono ?_);rintro e w' ⟨rfl,rfl⟩) | fail)
 go_ret2
 exact ⟨rfl,rfl⟩
theorem zhn (a b:Int) (ha:U64 a) (hb:U64 b) (W:World):TW 158 #[.int .i64 22,(.int .u64 a),(.int .u64 b)] W (.tuple #[.int .u64 (uV (a+b)),.bool true]):=by
 have hU:=And.intro ha hb
 clear hU
 go_enter Tryz.func158,Tryz.ntmps158
 go_wp2_with (first | (go_at_call 230;(with_reducible refine (zlc a b ha hb _).mono ?_);rintro e w' ⟨rfl,rfl⟩) | fail)
 go_ret2
 exact ⟨rfl,rfl⟩
theorem zkh (a b:Int) (ha:U64 a) (hb:U64 b) (W:World):TW 158 #[.int .i64 32,(.int .u64 a),(.int .u64 b)] W (.tuple #[.int .u64 (uV (a - b)),.bool true]):=by
 have hU:=And.intro ha hb
 clear hU
 go_enter Tryz.func158,Tryz.ntmps158
 go_wp2_with (first | (go_at_call 230;(with_reducible refine (zrn a b ha hb _).mono ?_);rintro e w' ⟨rfl,rfl⟩) | fail)
 go_ret2
 exact ⟨rfl,rfl⟩
theorem zl0 (a b:Int) (ha:U64 a) (hb:U64 b) (W:World):TW 158 #[.int .i64 33,(.int .u64 a),(.int .u64 b)] W (.tuple #[.int .u64 (uV (a*2 ^ (b % 64).toNat)),.bool true]):=by
 have hU:=And.intro ha hb
 clear hU
 go_enter Tryz.func158,Tryz.ntmps158
 go_wp2_with (first | (go_at_call 230;(with_reducible refine (zpt a b ha hb _).mono ?_);rintro e w' ⟨rfl,rfl⟩) | fail)
 go_ret2
 exact ⟨rfl,rfl⟩
theorem zoC (a b:Int) (ha:U64 a) (hb:U64 b) (W:World):TW 158 #[.int .i64 28,(.int .u64 a),(.int .u64 b)] W (.tuple #[.int .u64 (uV (a*2 ^ (b % 64).toNat)),.bool true]):=by
 have hU:=And.intro ha hb
 clear hU
 go_enter Tryz.func158,Tryz.ntmps158
 go_wp2_with (first | (go_at_call 230;(with_reducible refine (znd a b ha hb _).mono ?_);rintro e w' ⟨rfl,rfl⟩) | fail)
 go_ret2
 exact ⟨rfl,rfl⟩
theorem zxA (a b:Int) (ha:U64 a) (hb:U64 b) (W:World):TW 158 #[.int .i64 37,(.int .u64 a),(.int .u64 b)] W (.tuple #[.int .u64 (a / 2 ^ (b % 64).toNat),.bool true]):=by
 have hU:=And.intro ha hb
 clear hU
 go_enter Tryz.func158,Tryz.ntmps158
 go_wp2_with (first | (go_at_call 230;(with_reducible refine (zwb a b ha hb _).mono ?_);rintro e w' ⟨rfl,rfl⟩) | fail)
 go_ret2
 exact ⟨rfl,rfl⟩
theorem zov (a b:Int) (ha:U64 a) (hb:U64 b) (W:World):TW 158 #[.int .i64 29,(.int .u64 a),(.int .u64 b)] W (.tuple #[.int .u64 (a / 2 ^ (b % 64).toNat),.bool true]):=by
 have hU:=And.intro ha hb
 clear hU
 go_enter Tryz.func158,Tryz.ntmps158
 go_wp2_with (first | (go_at_call 230;(with_reducible refine (zsl a b ha hb _).mono ?_);rintro e w' ⟨rfl,rfl⟩) | fail)
 go_ret2
 exact ⟨rfl,rfl⟩
theorem zxp (a b:Int) (ha:U64 a) (hb:U64 b) (W:World):TW 158 #[.int .i64 38,(.int .u64 a),(.int .u64 b)] W (.tuple #[.int .u64 (uV (wrap64 a / 2 ^ (b % 64).toNat)),.bool true]):=by
 have hU:=And.intro ha hb
 clear hU
 go_enter Tryz.func158,Tryz.ntmps158
 go_wp2_with (first | (go_at_call 230;(with_reducible refine (zuX a b ha hb _).mono ?_);rintro e w' ⟨rfl,rfl⟩) | fail)
 go_ret2
 exact ⟨rfl,rfl⟩
theorem zvf (a b:Int) (ha:U64 a) (hb:U64 b) (W:World):TW 158 #[.int .i64 30,(.int .u64 a),(.int .u64 b)] W (.tuple #[.int .u64 (uV (wrap64 a / 2 ^ (b % 64).toNat)),.bool true]):=by
 have hU:=And.intro ha hb
 clear hU
 go_enter Tryz.func158,Tryz.ntmps158
 go_wp2_with (first | (go_at_call 230;(with_reducible refine (zqi a b ha hb _).mono ?_);rintro e w' ⟨rfl,rfl⟩) | fail)
 go_ret2
 exact ⟨rfl,rfl⟩
theorem znM (a b:Int) (ha:U64 a) (hb:U64 b) (W:World):TW 158 #[.int .i64 34,(.int .u64 a),(.int .u64 b)] W (.tuple #[.int .u64 (oneV (decide (wrap64 a<wrap64 b))),.bool true]):=by
 have hU:=And.intro ha hb
 clear hU
 go_enter Tryz.func158,Tryz.ntmps158
 go_wp2_with (first | (go_at_call 230;(with_reducible refine (zqG a b ha hb _).mono ?_);rintro e w' ⟨rfl,rfl⟩) | fail)
 go_ret2
 exact ⟨rfl,rfl⟩
theorem zps (a b:Int) (ha:U64 a) (hb:U64 b) (W:World):TW 158 #[.int .i64 23,(.int .u64 a),(.int .u64 b)] W (.tuple #[.int .u64 (oneV (decide (wrap64 a<wrap64 b))),.bool true]):=by
 have hU:=And.intro ha hb
 clear hU
 go_enter Tryz.func158,Tryz.ntmps158
 go_wp2_with (first | (go_at_call 230;(with_reducible refine (zmc a b ha hb _).mono ?_);rintro e w' ⟨rfl,rfl⟩) | fail)
 go_ret2
 exact ⟨rfl,rfl⟩
theorem zk2 (a b:Int) (ha:U64 a) (hb:U64 b) (W:World):TW 158 #[.int .i64 35,(.int .u64 a),(.int .u64 b)] W (.tuple #[.int .u64 (oneV (decide (a<b))),.bool true]):=by
 have hU:=And.intro ha hb
 clear hU
 go_enter Tryz.func158,Tryz.ntmps158
 go_wp2_with (first | (go_at_call 230;(with_reducible refine (zqF a b ha hb _).mono ?_);rintro e w' ⟨rfl,rfl⟩) | fail)
 go_ret2
 exact ⟨rfl,rfl⟩
theorem zpF (a b:Int) (ha:U64 a) (hb:U64 b) (W:World):TW 158 #[.int .i64 24,(.int .u64 a),(.int .u64 b)] W (.tuple #[.int .u64 (oneV (decide (a<b))),.bool true]):=by
 have hU:=And.intro ha hb
 clear hU
 go_enter Tryz.func158,Tryz.ntmps158
 go_wp2_with (first | (go_at_call 230;(with_reducible refine (zlq a b ha hb _).mono ?_);rintro e w' ⟨rfl,rfl⟩) | fail)
 go_ret2
 exact ⟨rfl,rfl⟩
theorem znN (a b:Int) (ha:U64 a) (hb:U64 b) (W:World):TW 158 #[.int .i64 36,(.int .u64 a),(.int .u64 b)] W (.tuple #[.int .u64 (bits .xor .u64 a b),.bool true]):=by
 have hU:=And.intro ha hb
 clear hU
 go_enter Tryz.func158,Tryz.ntmps158
 go_wp2_with (first | (go_at_call 230;(with_reducible refine (zmZ a b ha hb _).mono ?_);rintro e w' ⟨rfl,rfl⟩) | fail)
 go_ret2
 exact ⟨rfl,rfl⟩
theorem zsI (a b:Int) (ha:U64 a) (hb:U64 b) (W:World):TW 158 #[.int .i64 25,(.int .u64 a),(.int .u64 b)] W (.tuple #[.int .u64 (bits .xor .u64 a b),.bool true]):=by
 have hU:=And.intro ha hb
 clear hU
 go_enter Tryz.func158,Tryz.ntmps158
 go_wp2_with (first | (go_at_call 230;(with_reducible refine (znk a b ha hb _).mono ?_);rintro e w' ⟨rfl,rfl⟩) | fail)
 go_ret2
 exact ⟨rfl,rfl⟩
theorem zp8 (a b:Int) (ha:U64 a) (hb:U64 b) (W:World):TW 158 #[.int .i64 39,(.int .u64 a),(.int .u64 b)] W (.tuple #[.int .u64 (bits .or .u64 a b),.bool true]):=by
 have hU:=And.intro ha hb
 clear hU
 go_enter Tryz.func158,Tryz.ntmps158
 go_wp2_with (first | (go_at_call 230;(with_reducible refine (zr3 a b ha hb _).mono ?_);rintro e w' ⟨rfl,rfl⟩) | fail)
 go_ret2
 exact ⟨rfl,rfl⟩
theorem zon (a b:Int) (ha:U64 a) (hb:U64 b) (W:World):TW 158 #[.int .i64 26,(.int .u64 a),(.int .u64 b)] W (.tuple #[.int .u64 (bits .or .u64 a b),.bool true]):=by
 have hU:=And.intro ha hb
 clear hU
 go_enter Tryz.func158,Tryz.ntmps158
 go_wp2_with (first | (go_at_call 230;(with_reducible refine (zuO a b ha hb _).mono ?_);rintro e w' ⟨rfl,rfl⟩) | fail)
 go_ret2
 exact ⟨rfl,rfl⟩
theorem zmm (a b:Int) (ha:U64 a) (hb:U64 b) (W:World):TW 158 #[.int .i64 40,(.int .u64 a),(.int .u64 b)] W (.tuple #[.int .u64 (bits .and .u64 a b),.bool true]):=by
 have hU:=And.intro ha hb
 clear hU
 go_enter Tryz.func158,Tryz.ntmps158
 go_wp2_with (first | (go_at_call 230;(with_reducible refine (zoK a b ha hb _).mono ?_);rintro e w' ⟨rfl,rfl⟩) | fail)
 go_ret2
 exact ⟨rfl,rfl⟩
theorem ztb (a b:Int) (ha:U64 a) (hb:U64 b) (W:World):TW 158 #[.int .i64 27,(.int .u64 a),(.int .u64 b)] W (.tuple #[.int .u64 (bits .and .u64 a b),.bool true]):=by
 have hU:=And.intro ha hb
 clear hU
 go_enter Tryz.func158,Tryz.ntmps158
 go_wp2_with (first | (go_at_call 230;(with_reducible refine (zkM a b ha hb _).mono ?_);rintro e w' ⟨rfl,rfl⟩) | fail)
 go_ret2
 exact ⟨rfl,rfl⟩
theorem zoQ (a b:Int) (ha:U64 a) (hb:U64 b) (W:World):TW 158 #[.int .i64 60,(.int .u64 a),(.int .u64 b)] W (.tuple #[.int .u64 (uV (a*b)),.bool true]):=by
 have hU:=And.intro ha hb
 clear hU
 go_enter Tryz.func158,Tryz.ntmps158
 go_wp2_with (first | ((first | (go_at_call 230;with_reducible refine (zbM 60 a b (by decide) _).mono ?_) | (go_at_call 231;with_reducible refine (ztv a b ha hb _).mono ?_));rintro e w' ⟨rfl,rfl⟩) | fail)
 go_ret2
 exact ⟨rfl,rfl⟩
theorem zlw (a b:Int) (ha:U64 a) (hb:U64 b) (W:World):TW 158 #[.int .i64 61,(.int .u64 a),(.int .u64 b)] W (.tuple #[.int .u64 (uV (a*b / 18446744073709551616 - zdQ a b - zdQ b a)),.bool true]):=by
 have hU:=And.intro ha hb
 clear hU
 go_enter Tryz.func158,Tryz.ntmps158
 go_wp2_with (first | ((first | (go_at_call 230;with_reducible refine (zbM 61 a b (by decide) _).mono ?_) | (go_at_call 231;with_reducible refine (zu2 a b ha hb _).mono ?_));rintro e w' ⟨rfl,rfl⟩) | fail)
 go_ret2
 exact ⟨rfl,rfl⟩
theorem zkW (a b:Int) (ha:U64 a) (hb:U64 b) (W:World):TW 158 #[.int .i64 62,(.int .u64 a),(.int .u64 b)] W (.tuple #[.int .u64 (uV (a*b / 18446744073709551616 - zdQ a b)),.bool true]):=by
 have hU:=And.intro ha hb
 clear hU
 go_enter Tryz.func158,Tryz.ntmps158
 go_wp2_with (first | ((first | (go_at_call 230;with_reducible refine (zbM 62 a b (by decide) _).mono ?_) | (go_at_call 231;with_reducible refine (zv4 a b ha hb _).mono ?_));rintro e w' ⟨rfl,rfl⟩) | fail)
 go_ret2
 exact ⟨rfl,rfl⟩
theorem zvb (a b:Int) (ha:U64 a) (hb:U64 b) (W:World):TW 158 #[.int .i64 63,(.int .u64 a),(.int .u64 b)] W (.tuple #[.int .u64 (a*b / 18446744073709551616),.bool true]):=by
 have hU:=And.intro ha hb
 clear hU
 go_enter Tryz.func158,Tryz.ntmps158
 go_wp2_with (first | ((first | (go_at_call 230;with_reducible refine (zbM 63 a b (by decide) _).mono ?_) | (go_at_call 231;with_reducible refine (zxh a b ha hb _).mono ?_));rintro e w' ⟨rfl,rfl⟩) | fail)
 go_ret2
 exact ⟨rfl,rfl⟩
theorem zwP (a b:Int) (ha:U64 a) (hb:U64 b) (W:World):TW 158 #[.int .i64 64,(.int .u64 a),(.int .u64 b)] W (.tuple #[.int .u64 (qsV a b),.bool true]):=by
 have hU:=And.intro ha hb
 clear hU
 go_enter Tryz.func158,Tryz.ntmps158
 go_wp2_with (first | ((first | (go_at_call 230;with_reducible refine (zbM 64 a b (by decide) _).mono ?_) | (go_at_call 231;with_reducible refine (zvm a b ha hb _).mono ?_));rintro e w' ⟨rfl,rfl⟩) | fail)
 go_ret2
 exact ⟨rfl,rfl⟩
theorem zp3 (a b:Int) (ha:U64 a) (hb:U64 b) (W:World):TW 158 #[.int .i64 65,(.int .u64 a),(.int .u64 b)] W (.tuple #[.int .u64 (quV a b),.bool true]):=by
 have hU:=And.intro ha hb
 clear hU
 go_enter Tryz.func158,Tryz.ntmps158
 go_wp2_with (first | ((first | (go_at_call 230;with_reducible refine (zbM 65 a b (by decide) _).mono ?_) | (go_at_call 231;with_reducible refine (ztu a b ha hb _).mono ?_));rintro e w' ⟨rfl,rfl⟩) | fail)
 go_ret2
 exact ⟨rfl,rfl⟩
theorem zn9 (a b:Int) (ha:U64 a) (hb:U64 b) (W:World):TW 158 #[.int .i64 66,(.int .u64 a),(.int .u64 b)] W (.tuple #[.int .u64 (rsV a b),.bool true]):=by
 have hU:=And.intro ha hb
 clear hU
 go_enter Tryz.func158,Tryz.ntmps158
 go_wp2_with (first | ((first | (go_at_call 230;with_reducible refine (zbM 66 a b (by decide) _).mono ?_) | (go_at_call 231;with_reducible refine (zpq a b ha hb _).mono ?_));rintro e w' ⟨rfl,rfl⟩) | fail)
 go_ret2
 exact ⟨rfl,rfl⟩
theorem zoH (a b:Int) (ha:U64 a) (hb:U64 b) (W:World):TW 158 #[.int .i64 67,(.int .u64 a),(.int .u64 b)] W (.tuple #[.int .u64 (reV a b),.bool true]):=by
 have hU:=And.intro ha hb
 clear hU
 go_enter Tryz.func158,Tryz.ntmps158
 go_wp2_with (first | ((first | (go_at_call 230;with_reducible refine (zbM 67 a b (by decide) _).mono ?_) | (go_at_call 231;with_reducible refine (znQ a b ha hb _).mono ?_));rintro e w' ⟨rfl,rfl⟩) | fail)
 go_ret2
 exact ⟨rfl,rfl⟩
theorem zxx (a b:Int) (ha:U64 a) (hb:U64 b) (W:World):TW 158 #[.int .i64 45,(.int .u64 a),(.int .u64 b)] W (.tuple #[.int .u64 (zaX (a+b)),.bool true]):=by
 have hU:=And.intro ha hb
 clear hU
 go_enter Tryz.func158,Tryz.ntmps158
 go_wp2_with (first | ((first | (go_at_call 230;with_reducible refine (zbM 45 a b (by decide) _).mono ?_) | (go_at_call 231;with_reducible refine (zcB 45 a b (by decide) _).mono ?_) | (go_at_call 232;with_reducible refine (znW a b ha hb _).mono ?_));rintro e w' ⟨rfl,rfl⟩) | fail)
 go_ret2
 exact ⟨rfl,rfl⟩
theorem zqJ (a b:Int) (ha:U64 a) (hb:U64 b) (W:World):TW 158 #[.int .i64 41,(.int .u64 a),(.int .u64 b)] W (.tuple #[.int .u64 (zaX (a+b)),.bool true]):=by
 have hU:=And.intro ha hb
 clear hU
 go_enter Tryz.func158,Tryz.ntmps158
 go_wp2_with (first | ((first | (go_at_call 230;with_reducible refine (zbM 41 a b (by decide) _).mono ?_) | (go_at_call 231;with_reducible refine (zcB 41 a b (by decide) _).mono ?_) | (go_at_call 232;with_reducible refine (zr8 a b ha hb _).mono ?_));rintro e w' ⟨rfl,rfl⟩) | fail)
 go_ret2
 exact ⟨rfl,rfl⟩
theorem zoM (a b:Int) (ha:U64 a) (hb:U64 b) (W:World):TW 158 #[.int .i64 46,(.int .u64 a),(.int .u64 b)] W (.tuple #[.int .u64 (zaX (a - b)),.bool true]):=by
 have hU:=And.intro ha hb
 clear hU
 go_enter Tryz.func158,Tryz.ntmps158
 go_wp2_with (first | ((first | (go_at_call 230;with_reducible refine (zbM 46 a b (by decide) _).mono ?_) | (go_at_call 231;with_reducible refine (zcB 46 a b (by decide) _).mono ?_) | (go_at_call 232;with_reducible refine (ztz a b ha hb _).mono ?_));rintro e w' ⟨rfl,rfl⟩) | fail)
 go_ret2
 exact ⟨rfl,rfl⟩
theorem zmQ (a b:Int) (ha:U64 a) (hb:U64 b) (W:World):TW 158 #[.int .i64 68,(.int .u64 a),(.int .u64 b)] W (.tuple #[.int .u64 (zaX (a*b)),.bool true]):=by
 have hU:=And.intro ha hb
 clear hU
 go_enter Tryz.func158,Tryz.ntmps158
 go_wp2_with (first | ((first | (go_at_call 230;with_reducible refine (zbM 68 a b (by decide) _).mono ?_) | (go_at_call 231;with_reducible refine (zcB 68 a b (by decide) _).mono ?_) | (go_at_call 232;with_reducible refine (zlz a b ha hb _).mono ?_));rintro e w' ⟨rfl,rfl⟩) | fail)
 go_ret2
 exact ⟨rfl,rfl⟩
theorem zqu (a b:Int) (ha:U64 a) (hb:U64 b) (W:World):TW 158 #[.int .i64 47,(.int .u64 a),(.int .u64 b)] W (.tuple #[.int .u64 (zaX (a*2 ^ (b % 32).toNat)),.bool true]):=by
 have hU:=And.intro ha hb
 clear hU
 go_enter Tryz.func158,Tryz.ntmps158
 go_wp2_with (first | ((first | (go_at_call 230;with_reducible refine (zbM 47 a b (by decide) _).mono ?_) | (go_at_call 231;with_reducible refine (zcB 47 a b (by decide) _).mono ?_) | (go_at_call 232;with_reducible refine (zqZ a b ha hb _).mono ?_));rintro e w' ⟨rfl,rfl⟩) | fail)
 go_ret2
 exact ⟨rfl,rfl⟩
theorem zqc (a b:Int) (ha:U64 a) (hb:U64 b) (W:World):TW 158 #[.int .i64 42,(.int .u64 a),(.int .u64 b)] W (.tuple #[.int .u64 (zaX (a*2 ^ (b % 32).toNat)),.bool true]):=by
 have hU:=And.intro ha hb
 clear hU
 go_enter Tryz.func158,Tryz.ntmps158
 go_wp2_with (first | ((first | (go_at_call 230;with_reducible refine (zbM 42 a b (by decide) _).mono ?_) | (go_at_call 231;with_reducible refine (zcB 42 a b (by decide) _).mono ?_) | (go_at_call 232;with_reducible refine (zml a b ha hb _).mono ?_));rintro e w' ⟨rfl,rfl⟩) | fail)
 go_ret2
 exact ⟨rfl,rfl⟩
theorem ztf (a b:Int) (ha:U64 a) (hb:U64 b) (W:World):TW 158 #[.int .i64 48,(.int .u64 a),(.int .u64 b)] W (.tuple #[.int .u64 (zaX (lowV a / 2 ^ (b % 32).toNat)),.bool true]):=by
 have hU:=And.intro ha hb
 clear hU
 go_enter Tryz.func158,Tryz.ntmps158
 go_wp2_with (first | ((first | (go_at_call 230;with_reducible refine (zbM 48 a b (by decide) _).mono ?_) | (go_at_call 231;with_reducible refine (zcB 48 a b (by decide) _).mono ?_) | (go_at_call 232;with_reducible refine (zpA a b ha hb _).mono ?_));rintro e w' ⟨rfl,rfl⟩) | fail)
 go_ret2
 exact ⟨rfl,rfl⟩
theorem zlI (a b:Int) (ha:U64 a) (hb:U64 b) (W:World):TW 158 #[.int .i64 43,(.int .u64 a),(.int .u64 b)] W (.tuple #[.int .u64 (zaX (lowV a / 2 ^ (b % 32).toNat)),.bool true]):=by
 have hU:=And.intro ha hb
 clear hU
 go_enter Tryz.func158,Tryz.ntmps158
 go_wp2_with (first | ((first | (go_at_call 230;with_reducible refine (zbM 43 a b (by decide) _).mono ?_) | (go_at_call 231;with_reducible refine (zcB 43 a b (by decide) _).mono ?_) | (go_at_call 232;with_reducible refine (zuc a b ha hb _).mono ?_));rintro e w' ⟨rfl,rfl⟩) | fail)
 go_ret2
 exact ⟨rfl,rfl⟩
theorem zk5 (a b:Int) (ha:U64 a) (hb:U64 b) (W:World):TW 158 #[.int .i64 49,(.int .u64 a),(.int .u64 b)] W (.tuple #[.int .u64 (uV (wrap32 a / 2 ^ (b % 32).toNat)),.bool true]):=by
 have hU:=And.intro ha hb
 clear hU
 go_enter Tryz.func158,Tryz.ntmps158
 go_wp2_with (first | ((first | (go_at_call 230;with_reducible refine (zbM 49 a b (by decide) _).mono ?_) | (go_at_call 231;with_reducible refine (zcB 49 a b (by decide) _).mono ?_) | (go_at_call 232;with_reducible refine (zrz a b ha hb _).mono ?_));rintro e w' ⟨rfl,rfl⟩) | fail)
 go_ret2
 exact ⟨rfl,rfl⟩
theorem zxE (a b:Int) (ha:U64 a) (hb:U64 b) (W:World):TW 158 #[.int .i64 44,(.int .u64 a),(.int .u64 b)] W (.tuple #[.int .u64 (uV (wrap32 a / 2 ^ (b % 32).toNat)),.bool true]):=by
 have hU:=And.intro ha hb
 clear hU
 go_enter Tryz.func158,Tryz.ntmps158
 go_wp2_with (first | ((first | (go_at_call 230;with_reducible refine (zbM 44 a b (by decide) _).mono ?_) | (go_at_call 231;with_reducible refine (zcB 44 a b (by decide) _).mono ?_) | (go_at_call 232;with_reducible refine (zkC a b ha hb _).mono ?_));rintro e w' ⟨rfl,rfl⟩) | fail)
 go_ret2
 exact ⟨rfl,rfl⟩
theorem zpf (a b:Int) (ha:U64 a) (hb:U64 b) (W:World):TW 158 #[.int .i64 69,(.int .u64 a),(.int .u64 b)] W (.tuple #[.int .u64 (zaX (qsV (zaX a) (zaX b))),.bool true]):=by
 have hU:=And.intro ha hb
 clear hU
 go_enter Tryz.func158,Tryz.ntmps158
 go_wp2_with (first | ((first | (go_at_call 230;with_reducible refine (zbM 69 a b (by decide) _).mono ?_) | (go_at_call 231;with_reducible refine (zcB 69 a b (by decide) _).mono ?_) | (go_at_call 232;with_reducible refine (zr7 a b ha hb _).mono ?_));rintro e w' ⟨rfl,rfl⟩) | fail)
 go_ret2
 exact ⟨rfl,rfl⟩
theorem zpX (a b:Int) (ha:U64 a) (hb:U64 b) (W:World):TW 158 #[.int .i64 70,(.int .u64 a),(.int .u64 b)] W (.tuple #[.int .u64 (zaX (quV (lowV a) (lowV b))),.bool true]):=by
 have hU:=And.intro ha hb
 clear hU
 go_enter Tryz.func158,Tryz.ntmps158
 go_wp2_with (first | ((first | (go_at_call 230;with_reducible refine (zbM 70 a b (by decide) _).mono ?_) | (go_at_call 231;with_reducible refine (zcB 70 a b (by decide) _).mono ?_) | (go_at_call 232;with_reducible refine (zlg a b ha hb _).mono ?_));rintro e w' ⟨rfl,rfl⟩) | fail)
 go_ret2
 exact ⟨rfl,rfl⟩
theorem zqC (a b:Int) (ha:U64 a) (hb:U64 b) (W:World):TW 158 #[.int .i64 71,(.int .u64 a),(.int .u64 b)] W (.tuple #[.int .u64 (zaX (rsV (zaX a) (zaX b))),.bool true]):=by
 have hU:=And.intro ha hb
 clear hU
 go_enter Tryz.func158,Tryz.ntmps158
 go_wp2_with (first | ((first | (go_at_call 230;with_reducible refine (zbM 71 a b (by decide) _).mono ?_) | (go_at_call 231;with_reducible refine (zcB 71 a b (by decide) _).mono ?_) | (go_at_call 232;with_reducible refine (zk8 a b ha hb _).mono ?_));rintro e w' ⟨rfl,rfl⟩) | fail)
 go_ret2
 exact ⟨rfl,rfl⟩
theorem zr9 (a b:Int) (ha:U64 a) (hb:U64 b) (W:World):TW 158 #[.int .i64 72,(.int .u64 a),(.int .u64 b)] W (.tuple #[.int .u64 (zaX (reV (lowV a) (lowV b))),.bool true]):=by
 have hU:=And.intro ha hb
 clear hU
 go_enter Tryz.func158,Tryz.ntmps158
 go_wp2_with (first | ((first | (go_at_call 230;with_reducible refine (zbM 72 a b (by decide) _).mono ?_) | (go_at_call 231;with_reducible refine (zcB 72 a b (by decide) _).mono ?_) | (go_at_call 232;with_reducible refine (zwH a b ha hb _).mono ?_));rintro e w' ⟨rfl,rfl⟩) | fail)
 go_ret2
 exact ⟨rfl,rfl⟩
theorem zft {op:Int} {L M:List Int} (h:∀ k∈L,op≠k) (g:∀ k∈M,k∈L):∀ k∈M,op≠k:=fun k hk=>h k (g k hk)
theorem zt0 (op:Int) (a b:Int) (h:∀ k∈([31,22,32,33,28,37,29,38,30,34,23,35,24,36,25,39,26,40,27,60,61,62,63,64,65,66,67,45,41,46,68,47,42,48,43,49,44,69,70,71,72]:List Int),op≠k) (W:World):TW 158 #[.int .i64 op,(.int .u64 a),(.int .u64 b)] W (.tuple #[.int .u64 0,.bool false]):=by
 have h1:=hid (zft h (M:=[31,22,32,33,28,37,29,38,30,34,23,35,24,36,25,39,26,40,27]) (by decide))
 have h2:=hid (zft h (M:=[60,61,62,63,64,65,66,67]) (by decide))
 have h3:=hid (zft h (M:=[45,41,46,68,47,42,48,43,49,44,69,70,71,72]) (by decide))
 clear h
 go_enter Tryz.func158,Tryz.ntmps158
 go_wp2_with (first | ((first | (go_at_call 230;with_reducible refine (zbM op a b h1.out _).mono ?_) | (go_at_call 231;with_reducible refine (zcB op a b h2.out _).mono ?_) | (go_at_call 232;with_reducible refine (zsf op a b h3.out _).mono ?_));rintro e w' ⟨rfl,rfl⟩) | fail)
 go_ret2
 exact ⟨rfl,rfl⟩
theorem zqU (a b:Int) (ha:U64 a) (hb:U64 b) (W:World):TW 298 #[.int .i64 86,(.int .u64 a),(.int .u64 b)] W (.tuple #[.int .u64 b,.bool true]):=by
 have hU:=And.intro ha hb
 clear hU
 go_enter Tryz.func298,Tryz.ntmps298
 go_wp2
 go_ret2
 exact ⟨rfl,rfl⟩
theorem zrl (a b:Int) (ha:U64 a) (hb:U64 b) (W:World):TW 298 #[.int .i64 87,(.int .u64 a),(.int .u64 b)] W (.tuple #[.int .u64 (uV (a+b)),.bool true]):=by
 have hU:=And.intro ha hb
 clear hU
 go_enter Tryz.func298,Tryz.ntmps298
 go_wp2
 go_ret2
 exact ⟨rfl,rfl⟩
theorem zsg (a b:Int) (ha:U64 a) (hb:U64 b) (W:World):TW 298 #[.int .i64 88,(.int .u64 a),(.int .u64 b)] W (.tuple #[.int .u64 (bits .xor .u64 a b),.bool true]):=by
 have hU:=And.intro ha hb
 clear hU
 go_enter Tryz.func298,Tryz.ntmps298
 go_wp2
 go_ret2
 exact ⟨rfl,rfl⟩
theorem zl4 (a b:Int) (ha:U64 a) (hb:U64 b) (W:World):TW 298 #[.int .i64 89,(.int .u64 a),(.int .u64 b)] W (.tuple #[.int .u64 (bits .and .u64 a b),.bool true]):=by
 have hU:=And.intro ha hb
 clear hU
 go_enter Tryz.func298,Tryz.ntmps298
 go_wp2
 go_ret2
 exact ⟨rfl,rfl⟩
theorem zsN (a b:Int) (ha:U64 a) (hb:U64 b) (W:World):TW 298 #[.int .i64 90,(.int .u64 a),(.int .u64 b)] W (.tuple #[.int .u64 (bits .or .u64 a b),.bool true]):=by
 have hU:=And.intro ha hb
 clear hU
 go_enter Tryz.func298,Tryz.ntmps298
 go_wp2
 go_ret2
 exact ⟨rfl,rfl⟩
theorem zrp (a b:Int) (ha:U64 a) (hb:U64 b) (W:World):TW 298 #[.int .i64 91,(.int .u64 a),(.int .u64 b)] W (.tuple #[.int .u64 (minS a b),.bool true]):=by
 have hU:=And.intro ha hb
 clear hU
 by_cases h:wrap64 b<wrap64 a
 ·go_enter Tryz.func298,Tryz.ntmps298
  go_wp2
  go_ret2
  exact ⟨zaO (zrt a b ha hb h) rfl,rfl⟩
 ·have h:=Int.not_lt.mp h
  go_enter Tryz.func298,Tryz.ntmps298
  go_wp2
  go_ret2
  exact ⟨zaO (zms a b ha hb h) rfl,rfl⟩
theorem zlM (a b:Int) (ha:U64 a) (hb:U64 b) (W:World):TW 298 #[.int .i64 92,(.int .u64 a),(.int .u64 b)] W (.tuple #[.int .u64 (maxS a b),.bool true]):=by
 have hU:=And.intro ha hb
 clear hU
 by_cases h:wrap64 a<wrap64 b
 ·go_enter Tryz.func298,Tryz.ntmps298
  go_wp2
  go_ret2
  exact ⟨zaO (zlx a b ha hb h) rfl,rfl⟩
 ·have h:=Int.not_lt.mp h
  go_enter Tryz.func298,Tryz.ntmps298
  go_wp2
  go_ret2
  exact ⟨zaO (zvy a b ha hb h) rfl,rfl⟩
theorem zj8 (a b:Int) (ha:U64 a) (hb:U64 b) (W:World):TW 298 #[.int .i64 93,(.int .u64 a),(.int .u64 b)] W (.tuple #[.int .u64 (minU a b),.bool true]):=by
 have hU:=And.intro ha hb
 clear hU
 by_cases h:b<a
 ·go_enter Tryz.func298,Tryz.ntmps298
  go_wp2
  go_ret2
  exact ⟨zaO (ziG a b h) rfl,rfl⟩
 ·have h:=Int.not_lt.mp h
  go_enter Tryz.func298,Tryz.ntmps298
  go_wp2
  go_ret2
  exact ⟨zaO (zh9 a b h) rfl,rfl⟩
theorem zvx (a b:Int) (ha:U64 a) (hb:U64 b) (W:World):TW 298 #[.int .i64 94,(.int .u64 a),(.int .u64 b)] W (.tuple #[.int .u64 (maxU a b),.bool true]):=by
 have hU:=And.intro ha hb
 clear hU
 by_cases h:a<b
 ·go_enter Tryz.func298,Tryz.ntmps298
  go_wp2
  go_ret2
  exact ⟨zaO (ziD a b h) rfl,rfl⟩
 ·have h:=Int.not_lt.mp h
  go_enter Tryz.func298,Tryz.ntmps298
  go_wp2
  go_ret2
  exact ⟨zaO (ziR a b h) rfl,rfl⟩
theorem zdn (op:Int) (a b:Int) (h:∀ k∈([86,87,88,89,90,91,92,93,94]:List Int),op≠k) (W:World):TW 298 #[.int .i64 op,(.int .u64 a),(.int .u64 b)] W (.tuple #[.int .u64 0,.bool false]):=by
 have g86:(op==86)=false:=by rw [beq_eq_false_iff_ne];exact h 86 (by decide)
 have g87:(op==87)=false:=by rw [beq_eq_false_iff_ne];exact h 87 (by decide)
 have g88:(op==88)=false:=by rw [beq_eq_false_iff_ne];exact h 88 (by decide)
 have g89:(op==89)=false:=by rw [beq_eq_false_iff_ne];exact h 89 (by decide)
 have g90:(op==90)=false:=by rw [beq_eq_false_iff_ne];exact h 90 (by decide)
 have g91:(op==91)=false:=by rw [beq_eq_false_iff_ne];exact h 91 (by decide)
 have g92:(op==92)=false:=by rw [beq_eq_false_iff_ne];exact h 92 (by decide)
 have g93:(op==93)=false:=by rw [beq_eq_false_iff_ne];exact h 93 (by decide)
 have g94:(op==94)=false:=by rw [beq_eq_false_iff_ne];exact h 94 (by decide)
 clear h
 go_enter Tryz.func298,Tryz.ntmps298
 go_wp2
 go_ret2
 exact ⟨rfl,rfl⟩
theorem zsU (a b:Int) (ha:U64 a) (hb:U64 b) (W:World):TW 299 #[.int .i64 75,(.int .u64 a),(.int .u64 b)] W (.tuple #[.int .u64 (lowV b),.bool true]):=by
 have hU:=And.intro ha hb
 clear hU
 go_enter Tryz.func299,Tryz.ntmps299
 go_wp2_with (first | (go_at_call 307;(with_reducible refine (zcR _ _).mono ?_);rintro e w' ⟨rfl,rfl⟩) | fail)
 go_ret2
 exact ⟨rfl,rfl⟩
theorem zrO (a b:Int) (ha:U64 a) (hb:U64 b) (W:World):TW 299 #[.int .i64 76,(.int .u64 a),(.int .u64 b)] W (.tuple #[.int .u64 (lowV (a+b)),.bool true]):=by
 have hU:=And.intro ha hb
 clear hU
 go_enter Tryz.func299,Tryz.ntmps299
 go_wp2_with (first | (go_at_call 307;(with_reducible refine (zcR _ _).mono ?_);rintro e w' ⟨rfl,rfl⟩) | fail)
 go_ret2
 refine ⟨zaO ?_ rfl,rfl⟩
 simp only [IntKind.wrap_u64,zel]
 try omega
theorem zmA (a b:Int) (ha:U64 a) (hb:U64 b) (W:World):TW 299 #[.int .i64 77,(.int .u64 a),(.int .u64 b)] W (.tuple #[.int .u64 (lowV (bits .xor .u64 a b)),.bool true]):=by
 have hU:=And.intro ha hb
 clear hU
 go_enter Tryz.func299,Tryz.ntmps299
 go_wp2_with (first | (go_at_call 307;(with_reducible refine (zcR _ _).mono ?_);rintro e w' ⟨rfl,rfl⟩) | fail)
 go_ret2
 exact ⟨rfl,rfl⟩
theorem zka (a b:Int) (ha:U64 a) (hb:U64 b) (W:World):TW 299 #[.int .i64 78,(.int .u64 a),(.int .u64 b)] W (.tuple #[.int .u64 (lowV (bits .and .u64 a b)),.bool true]):=by
 have hU:=And.intro ha hb
 clear hU
 go_enter Tryz.func299,Tryz.ntmps299
 go_wp2_with (first | (go_at_call 307;(with_reducible refine (zcR _ _).mono ?_);rintro e w' ⟨rfl,rfl⟩) | fail)
 go_ret2
 exact ⟨rfl,rfl⟩
theorem zqb (a b:Int) (ha:U64 a) (hb:U64 b) (W:World):TW 299 #[.int .i64 79,(.int .u64 a),(.int .u64 b)] W (.tuple #[.int .u64 (lowV (bits .or .u64 a b)),.bool true]):=by
 have hU:=And.intro ha hb
 clear hU
 go_enter Tryz.func299,Tryz.ntmps299
 go_wp2_with (first | (go_at_call 307;(with_reducible refine (zcR _ _).mono ?_);rintro e w' ⟨rfl,rfl⟩) | fail)
 go_ret2
 exact ⟨rfl,rfl⟩
theorem zrU (a b:Int) (ha:U64 a) (hb:U64 b) (W:World):TW 299 #[.int .i64 80,(.int .u64 a),(.int .u64 b)] W (.tuple #[.int .u64 (minT a b),.bool true]):=by
 have hU:=And.intro ha hb
 clear hU
 by_cases h:wrap32 b<wrap32 a
 ·go_enter Tryz.func299,Tryz.ntmps299
  go_wp2
  go_ret2
  exact ⟨zaO (zrd a b h) rfl,rfl⟩
 ·have h:=Int.not_lt.mp h
  go_enter Tryz.func299,Tryz.ntmps299
  go_wp2
  go_ret2
  exact ⟨zaO (zmi a b h) rfl,rfl⟩
theorem zrq (a b:Int) (ha:U64 a) (hb:U64 b) (W:World):TW 299 #[.int .i64 81,(.int .u64 a),(.int .u64 b)] W (.tuple #[.int .u64 (maxT a b),.bool true]):=by
 have hU:=And.intro ha hb
 clear hU
 by_cases h:wrap32 a<wrap32 b
 ·go_enter Tryz.func299,Tryz.ntmps299
  go_wp2
  go_ret2
  exact ⟨zaO (zvw a b h) rfl,rfl⟩
 ·have h:=Int.not_lt.mp h
  go_enter Tryz.func299,Tryz.ntmps299
  go_wp2
  go_ret2
  exact ⟨zaO (zqK a b h) rfl,rfl⟩
theorem zqz (a b:Int) (ha:U64 a) (hb:U64 b) (W:World):TW 299 #[.int .i64 82,(.int .u64 a),(.int .u64 b)] W (.tuple #[.int .u64 (minU (lowV a) (lowV b)),.bool true]):=by
 have hU:=And.intro ha hb
 clear hU
 by_cases h:lowV b<lowV a
 ·go_enter Tryz.func299,Tryz.ntmps299
  go_wp2_with (first | (go_at_call 307;(with_reducible refine (zcR _ _).mono ?_);rintro e w' ⟨rfl,rfl⟩) | fail)
  go_ret2
  exact ⟨zaO (ziG (lowV a) (lowV b) h) rfl,rfl⟩
 ·have h:=Int.not_lt.mp h
  go_enter Tryz.func299,Tryz.ntmps299
  go_wp2_with (first | (go_at_call 307;(with_reducible refine (zcR _ _).mono ?_);rintro e w' ⟨rfl,rfl⟩) | fail)
  go_ret2
  exact ⟨zaO (zh9 (lowV a) (lowV b) h) rfl,rfl⟩
theorem ztN (a b:Int) (ha:U64 a) (hb:U64 b) (W:World):TW 299 #[.int .i64 83,(.int .u64 a),(.int .u64 b)] W (.tuple #[.int .u64 (maxU (lowV a) (lowV b)),.bool true]):=by
 have hU:=And.intro ha hb
 clear hU
 by_cases h:lowV a<lowV b
 ·go_enter Tryz.func299,Tryz.ntmps299
  go_wp2_with (first | (go_at_call 307;(with_reducible refine (zcR _ _).mono ?_);rintro e w' ⟨rfl,rfl⟩) | fail)
  go_ret2
  exact ⟨zaO (ziD (lowV a) (lowV b) h) rfl,rfl⟩
 ·have h:=Int.not_lt.mp h
  go_enter Tryz.func299,Tryz.ntmps299
  go_wp2_with (first | (go_at_call 307;(with_reducible refine (zcR _ _).mono ?_);rintro e w' ⟨rfl,rfl⟩) | fail)
  go_ret2
  exact ⟨zaO (ziR (lowV a) (lowV b) h) rfl,rfl⟩
theorem zxa (op:Int) (a b:Int) (h:∀ k∈([75,76,77,78,79,80,81,82,83]:List Int),op≠k) (W:World):TW 299 #[.int .i64 op,(.int .u64 a),(.int .u64 b)] W (.tuple #[.int .u64 0,.bool false]):=by
 have g75:(op==75)=false:=by rw [beq_eq_false_iff_ne];exact h 75 (by decide)
 have g76:(op==76)=false:=by rw [beq_eq_false_iff_ne];exact h 76 (by decide)
 have g77:(op==77)=false:=by rw [beq_eq_false_iff_ne];exact h 77 (by decide)
 have g78:(op==78)=false:=by rw [beq_eq_false_iff_ne];exact h 78 (by decide)
 have g79:(op==79)=false:=by rw [beq_eq_false_iff_ne];exact h 79 (by decide)
 have g80:(op==80)=false:=by rw [beq_eq_false_iff_ne];exact h 80 (by decide)
 have g81:(op==81)=false:=by rw [beq_eq_false_iff_ne];exact h 81 (by decide)
 have g82:(op==82)=false:=by rw [beq_eq_false_iff_ne];exact h 82 (by decide)
 have g83:(op==83)=false:=by rw [beq_eq_false_iff_ne];exact h 83 (by decide)
 clear h
 go_enter Tryz.func299,Tryz.ntmps299
 go_wp2
 go_ret2
 exact ⟨rfl,rfl⟩
theorem zny (a b:Int) (ha:U64 a) (hb:U64 b) (W:World):TW 229 #[.int .i64 86,(.int .u64 a),(.int .u64 b)] W (.tuple #[.int .u64 b,.bool true]):=by
 have hU:=And.intro ha hb
 clear hU
 go_enter Tryz.func229,Tryz.ntmps229
 go_wp2_with (first | (go_at_call 298;(with_reducible refine (zqU a b ha hb _).mono ?_);rintro e w' ⟨rfl,rfl⟩) | fail)
 go_ret2
 exact ⟨rfl,rfl⟩
theorem zpn (a b:Int) (ha:U64 a) (hb:U64 b) (W:World):TW 229 #[.int .i64 87,(.int .u64 a),(.int .u64 b)] W (.tuple #[.int .u64 (uV (a+b)),.bool true]):=by
 have hU:=And.intro ha hb
 clear hU
 go_enter Tryz.func229,Tryz.ntmps229
 go_wp2_with (first | (go_at_call 298;(with_reducible refine (zrl a b ha hb _).mono ?_);rintro e w' ⟨rfl,rfl⟩) | fail)
 go_ret2
 exact ⟨rfl,rfl⟩
theorem zub (a b:Int) (ha:U64 a) (hb:U64 b) (W:World):TW 229 #[.int .i64 88,(.int .u64 a),(.int .u64 b)] W (.tuple #[.int .u64 (bits .xor .u64 a b),.bool true]):=by
 have hU:=And.intro ha hb
 clear hU
 go_enter Tryz.func229,Tryz.ntmps229
 go_wp2_with (first | (go_at_call 298;(with_reducible refine (zsg a b ha hb _).mono ?_);rintro e w' ⟨rfl,rfl⟩) | fail)
 go_ret2
 exact ⟨rfl,rfl⟩
theorem zj9 (a b:Int) (ha:U64 a) (hb:U64 b) (W:World):TW 229 #[.int .i64 89,(.int .u64 a),(.int .u64 b)] W (.tuple #[.int .u64 (bits .and .u64 a b),.bool true]):=by
 have hU:=And.intro ha hb
 clear hU
 go_enter Tryz.func229,Tryz.ntmps229
 go_wp2_with (first | (go_at_call 298;(with_reducible refine (zl4 a b ha hb _).mono ?_);rintro e w' ⟨rfl,rfl⟩) | fail)
 go_ret2
 exact ⟨rfl,rfl⟩
theorem zkD (a b:Int) (ha:U64 a) (hb:U64 b) (W:World):TW 229 #[.int .i64 90,(.int .u64 a),(.int .u64 b)] W (.tuple #[.int .u64 (bits .or .u64 a b),.bool true]):=by
 have hU:=And.intro ha hb
 clear hU
 go_enter Tryz.func229,Tryz.ntmps229
 go_wp2_with (first | (go_at_call 298;(with_reducible refine (zsN a b ha hb _).mono ?_);rintro e w' ⟨rfl,rfl⟩) | fail)
 go_ret2
 exact ⟨rfl,rfl⟩
theorem zl1 (a b:Int) (ha:U64 a) (hb:U64 b) (W:World):TW 229 #[.int .i64 91,(.int .u64 a),(.int .u64 b)] W (.tuple #[.int .u64 (minS a b),.bool true]):=by
 have hU:=And.intro ha hb
 clear hU
 go_enter Tryz.func229,Tryz.ntmps229
 go_wp2_with (first | (go_at_call 298;(with_reducible refine (zrp a b ha hb _).mono ?_);rintro e w' ⟨rfl,rfl⟩) | fail)
 go_ret2
 exact ⟨rfl,rfl⟩
theorem zrs (a b:Int) (ha:U64 a) (hb:U64 b) (W:World):TW 229 #[.int .i64 92,(.int .u64 a),(.int .u64 b)] W (.tuple #[.int .u64 (maxS a b),.bool true]):=by
 have hU:=And.intro ha hb
 clear hU
 go_enter Tryz.func229,Tryz.ntmps229
 go_wp2_with (first | (go_at_call 298;(with_reducible refine (zlM a b ha hb _).mono ?_);rintro e w' ⟨rfl,rfl⟩) | fail)
 go_ret2
 exact ⟨rfl,rfl⟩
theorem zoA (a b:Int) (ha:U64 a) (hb:U64 b) (W:World):TW 229 #[.int .i64 93,(.int .u64 a),(.int .u64 b)] W (.tuple #[.int .u64 (minU a b),.bool true]):=by
 have hU:=And.intro ha hb
 clear hU
 go_enter Tryz.func229,Tryz.ntmps229
 go_wp2_with (first | (go_at_call 298;(with_reducible refine (zj8 a b ha hb _).mono ?_);rintro e w' ⟨rfl,rfl⟩) | fail)
 go_ret2
 exact ⟨rfl,rfl⟩
theorem zkK (a b:Int) (ha:U64 a) (hb:U64 b) (W:World):TW 229 #[.int .i64 94,(.int .u64 a),(.int .u64 b)] W (.tuple #[.int .u64 (maxU a b),.bool true]):=by
 have hU:=And.intro ha hb
 clear hU
 go_enter Tryz.func229,Tryz.ntmps229
 go_wp2_with (first | (go_at_call 298;(with_reducible refine (zvx a b ha hb _).mono ?_);rintro e w' ⟨rfl,rfl⟩) | fail)
 go_ret2
 exact ⟨rfl,rfl⟩
theorem zqs (a b:Int) (ha:U64 a) (hb:U64 b) (W:World):TW 229 #[.int .i64 75,(.int .u64 a),(.int .u64 b)] W (.tuple #[.int .u64 (lowV b),.bool true]):=by
 have hU:=And.intro ha hb
 clear hU
 go_enter Tryz.func229,Tryz.ntmps229
 go_wp2_with (first | ((first | (go_at_call 298;with_reducible refine (zdn 75 a b (by decide) _).mono ?_) | (go_at_call 299;with_reducible refine (zsU a b ha hb _).mono ?_));rintro e w' ⟨rfl,rfl⟩) | fail)
 go_ret2
 exact ⟨rfl,rfl⟩
theorem zlj (a b:Int) (ha:U64 a) (hb:U64 b) (W:World):TW 229 #[.int .i64 76,(.int .u64 a),(.int .u64 b)] W (.tuple #[.int .u64 (lowV (a+b)),.bool true]):=by
 have hU:=And.intro ha hb
 clear hU
 go_enter Tryz.func229,Tryz.ntmps229
 go_wp2_with (first | ((first | (go_at_call 298;with_reducible refine (zdn 76 a b (by decide) _).mono ?_) | (go_at_call 299;with_reducible refine (zrO a b ha hb _).mono ?_));rintro e w' ⟨rfl,rfl⟩) | fail)
 go_ret2
 exact ⟨rfl,rfl⟩
theorem zrc (a b:Int) (ha:U64 a) (hb:U64 b) (W:World):TW 229 #[.int .i64 77,(.int .u64 a),(.int .u64 b)] W (.tuple #[.int .u64 (lowV (bits .xor .u64 a b)),.bool true]):=by
 have hU:=And.intro ha hb
 clear hU
 go_enter Tryz.func229,Tryz.ntmps229
 go_wp2_with (first | ((first | (go_at_call 298;with_reducible refine (zdn 77 a b (by decide) _).mono ?_) | (go_at_call 299;with_reducible refine (zmA a b ha hb _).mono ?_));rintro e w' ⟨rfl,rfl⟩) | fail)
 go_ret2
 exact ⟨rfl,rfl⟩
theorem zrW (a b:Int) (ha:U64 a) (hb:U64 b) (W:World):TW 229 #[.int .i64 78,(.int .u64 a),(.int .u64 b)] W (.tuple #[.int .u64 (lowV (bits .and .u64 a b)),.bool true]):=by
 have hU:=And.intro ha hb
 clear hU
 go_enter Tryz.func229,Tryz.ntmps229
 go_wp2_with (first | ((first | (go_at_call 298;with_reducible refine (zdn 78 a b (by decide) _).mono ?_) | (go_at_call 299;with_reducible refine (zka a b ha hb _).mono ?_));rintro e w' ⟨rfl,rfl⟩) | fail)
 go_ret2
 exact ⟨rfl,rfl⟩
theorem zuz (a b:Int) (ha:U64 a) (hb:U64 b) (W:World):TW 229 #[.int .i64 79,(.int .u64 a),(.int .u64 b)] W (.tuple #[.int .u64 (lowV (bits .or .u64 a b)),.bool true]):=by
 have hU:=And.intro ha hb
 clear hU
 go_enter Tryz.func229,Tryz.ntmps229
 go_wp2_with (first | ((first | (go_at_call 298;with_reducible refine (zdn 79 a b (by decide) _).mono ?_) | (go_at_call 299;with_reducible refine (zqb a b ha hb _).mono ?_));rintro e w' ⟨rfl,rfl⟩) | fail)
 go_ret2
 exact ⟨rfl,rfl⟩
theorem zwN (a b:Int) (ha:U64 a) (hb:U64 b) (W:World):TW 229 #[.int .i64 80,(.int .u64 a),(.int .u64 b)] W (.tuple #[.int .u64 (minT a b),.bool true]):=by
 have hU:=And.intro ha hb
 clear hU
 go_enter Tryz.func229,Tryz.ntmps229
 go_wp2_with (first | ((first | (go_at_call 298;with_reducible refine (zdn 80 a b (by decide) _).mono ?_) | (go_at_call 299;with_reducible refine (zrU a b ha hb _).mono ?_));rintro e w' ⟨rfl,rfl⟩) | fail)
 go_ret2
 exact ⟨rfl,rfl⟩
theorem znn (a b:Int) (ha:U64 a) (hb:U64 b) (W:World):TW 229 #[.int .i64 81,(.int .u64 a),(.int .u64 b)] W (.tuple #[.int .u64 (maxT a b),.bool true]):=by
 have hU:=And.intro ha hb
 clear hU
 go_enter Tryz.func229,Tryz.ntmps229
 go_wp2_with (first | ((first | (go_at_call 298;with_reducible refine (zdn 81 a b (by decide) _).mono ?_) | (go_at_call 299;with_reducible refine (zrq a b ha hb _).mono ?_));rintro e w' ⟨rfl,rfl⟩) | fail)
 go_ret2
 exact ⟨rfl,rfl⟩
theorem zwF (a b:Int) (ha:U64 a) (hb:U64 b) (W:World):TW 229 #[.int .i64 82,(.int .u64 a),(.int .u64 b)] W (.tuple #[.int .u64 (minU (lowV a) (lowV b)),.bool true]):=by
 have hU:=And.intro ha hb
 clear hU
 go_enter Tryz.func229,Tryz.ntmps229
 go_wp2_with (first | ((first | (go_at_call 298;with_reducible refine (zdn 82 a b (by decide) _).mono ?_) | (go_at_call 299;with_reducible refine (zqz a b ha hb _).mono ?_));rintro e w' ⟨rfl,rfl⟩) | fail)
 go_ret2
 exact ⟨rfl,rfl⟩
theorem zvB (a b:Int) (ha:U64 a) (hb:U64 b) (W:World):TW 229 #[.int .i64 83,(.int .u64 a),(.int .u64 b)] W (.tuple #[.int .u64 (maxU (lowV a) (lowV b)),.bool true]):=by
 have hU:=And.intro ha hb
 clear hU
 go_enter Tryz.func229,Tryz.ntmps229
 go_wp2_with (first | ((first | (go_at_call 298;with_reducible refine (zdn 83 a b (by decide) _).mono ?_) | (go_at_call 299;with_reducible refine (ztN a b ha hb _).mono ?_));rintro e w' ⟨rfl,rfl⟩) | fail)
 go_ret2
 exact ⟨rfl,rfl⟩
theorem zs0 (op:Int) (a b:Int) (h:∀ k∈([86,87,88,89,90,91,92,93,94,75,76,77,78,79,80,81,82,83]:List Int),op≠k) (W:World):TW 229 #[.int .i64 op,(.int .u64 a),(.int .u64 b)] W (.tuple #[.int .u64 0,.bool false]):=by
 have h1:=hid (zft h (M:=[86,87,88,89,90,91,92,93,94]) (by decide))
 have h2:=hid (zft h (M:=[75,76,77,78,79,80,81,82,83]) (by decide))
 clear h
 go_enter Tryz.func229,Tryz.ntmps229
 go_wp2_with (first | ((first | (go_at_call 298;with_reducible refine (zdn op a b h1.out _).mono ?_) | (go_at_call 299;with_reducible refine (zxa op a b h2.out _).mono ?_));rintro e w' ⟨rfl,rfl⟩) | fail)
 go_ret2
 exact ⟨rfl,rfl⟩
theorem zxe (a b:Int) (W:World):TW 144 #[.int .i64 5,(.int .u64 a),(.int .u64 b)] W (.tuple #[.bool (a==b),.bool true]):=by
 go_enter Tryz.func144,Tryz.ntmps144
 go_wp2
 go_ret2
 exact ⟨rfl,rfl⟩
theorem znS (a b:Int) (W:World):TW 144 #[.int .i64 6,(.int .u64 a),(.int .u64 b)] W (.tuple #[.bool (a != b),.bool true]):=by
 go_enter Tryz.func144,Tryz.ntmps144
 go_wp2
 go_ret2
 exact ⟨rfl,rfl⟩
theorem zsc (a b:Int) (W:World):TW 144 #[.int .i64 7,(.int .u64 a),(.int .u64 b)] W (.tuple #[.bool (decide (wrap64 a<wrap64 b)),.bool true]):=by
 go_enter Tryz.func144,Tryz.ntmps144
 go_wp2_with (first | (go_at_call 210;(with_reducible refine (zew _ _ _).mono ?_);rintro e w' ⟨rfl,rfl⟩) | fail)
 go_ret2
 exact ⟨rfl,rfl⟩
theorem zmH (a b:Int) (W:World):TW 144 #[.int .i64 8,(.int .u64 a),(.int .u64 b)] W (.tuple #[.bool (!decide (wrap64 a<wrap64 b)),.bool true]):=by
 go_enter Tryz.func144,Tryz.ntmps144
 go_wp2_with (first | (go_at_call 210;(with_reducible refine (zew _ _ _).mono ?_);rintro e w' ⟨rfl,rfl⟩) | fail)
 go_ret2
 exact ⟨rfl,rfl⟩
theorem zmq (a b:Int) (W:World):TW 144 #[.int .i64 9,(.int .u64 a),(.int .u64 b)] W (.tuple #[.bool (decide (a<b)),.bool true]):=by
 go_enter Tryz.func144,Tryz.ntmps144
 go_wp2
 go_ret2
 exact ⟨rfl,rfl⟩
theorem zvh (a b:Int) (W:World):TW 144 #[.int .i64 10,(.int .u64 a),(.int .u64 b)] W (.tuple #[.bool (decide (b≤a)),.bool true]):=by
 go_enter Tryz.func144,Tryz.ntmps144
 go_wp2
 go_ret2
 exact ⟨rfl,rfl⟩
theorem zkI (op:Int) (a b:Int) (h:∀ k∈([5,6,7,8,9,10]:List Int),op≠k) (W:World):TW 144 #[.int .i64 op,(.int .u64 a),(.int .u64 b)] W (.tuple #[.bool false,.bool false]):=by
 have g5:(op==5)=false:=by rw [beq_eq_false_iff_ne];exact h 5 (by decide)
 have g6:(op==6)=false:=by rw [beq_eq_false_iff_ne];exact h 6 (by decide)
 have g7:(op==7)=false:=by rw [beq_eq_false_iff_ne];exact h 7 (by decide)
 have g8:(op==8)=false:=by rw [beq_eq_false_iff_ne];exact h 8 (by decide)
 have g9:(op==9)=false:=by rw [beq_eq_false_iff_ne];exact h 9 (by decide)
 have g10:(op==10)=false:=by rw [beq_eq_false_iff_ne];exact h 10 (by decide)
 clear h
 go_enter Tryz.func144,Tryz.ntmps144
 go_wp2
 go_ret2
 exact ⟨rfl,rfl⟩
end Go.Proofs.YtmjjpgaeboaamaaGreatDoor.Al
