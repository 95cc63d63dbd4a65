/- MachineAhead,part 9. -/
import Derived.Test.YtplcfdnfeclpmaaGreatDoorY08
set_option maxHeartbeats 4000000
set_option maxRecDepth 100000
open Go.Lib (hid)
namespace Go.Proofs.YtplcfdnfeclpmaaGreatDoor.Al
open Go.RowKit Go.Deep Go.Joins
set_option maxRecDepth 100000
def minU (a b:Int):Int:=if a<b then a else b
def maxU (a b:Int):Int:=if b<a then a else b
def minS (a b:Int):Int:=if wrap64 a<wrap64 b then a else b
def maxS (a b:Int):Int:=if wrap64 b<wrap64 a then a else b
def minT (a b:Int):Int:=if wrap32 a<wrap32 b then lowV a else lowV b
def maxT (a b:Int):Int:=if wrap32 b<wrap32 a then lowV a else lowV b
theorem zjP (a b:Int) (h:b<a):b=minU a b:=by
 unfold minU
 split <;> omega
theorem zjq (a b:Int) (h:a≤b):a=minU a b:=by
 unfold minU
 split <;> omega
theorem zi5 (a b:Int) (h:a<b):b=maxU a b:=by
 unfold maxU
 split <;> omega
theorem zis (a b:Int) (h:b≤a):a=maxU a b:=by
 unfold maxU
 split <;> omega
theorem znR (a b:Int) (ha:U64 a) (hb:U64 b) (h:wrap64 b<wrap64 a):IntKind.u64.wrap (wrap64 b)=minS a b:=by
 unfold minS
 have A:=S_eq a;have B:=S_eq b;have ha1:=ha.1;have ha2:=ha.2;have hb1:=hb.1;have hb2:=hb.2
 simp only [IntKind.wrap_u64]
 split <;> omega
theorem zqI (a b:Int) (ha:U64 a) (hb:U64 b) (h:wrap64 a≤wrap64 b):IntKind.u64.wrap (wrap64 a)=minS a b:=by
 unfold minS
 have A:=S_eq a;have B:=S_eq b;have ha1:=ha.1;have ha2:=ha.2;have hb1:=hb.1;have hb2:=hb.2
 simp only [IntKind.wrap_u64]
 split <;> omega
theorem zxD (a b:Int) (ha:U64 a) (hb:U64 b) (h:wrap64 a<wrap64 b):IntKind.u64.wrap (wrap64 b)=maxS a b:=by
 unfold maxS
 have A:=S_eq a;have B:=S_eq b;have ha1:=ha.1;have ha2:=ha.2;have hb1:=hb.1;have hb2:=hb.2
 simp only [IntKind.wrap_u64]
 split <;> omega
theorem ztJ (a b:Int) (ha:U64 a) (hb:U64 b) (h:wrap64 b≤wrap64 a):IntKind.u64.wrap (wrap64 a)=maxS a b:=by
 unfold maxS
 have A:=S_eq a;have B:=S_eq b;have ha1:=ha.1;have ha2:=ha.2;have hb1:=hb.1;have hb2:=hb.2
 simp only [IntKind.wrap_u64]
 split <;> omega
theorem zoe (a b:Int) (h:wrap32 b<wrap32 a):wrap32 b % 4294967296=minT a b:=by
 unfold minT
 have A:=T_eq a;have B:=T_eq b
 simp only [zem]
 split <;> omega
theorem ztA (a b:Int) (h:wrap32 a≤wrap32 b):wrap32 a % 4294967296=minT a b:=by
 unfold minT
 have A:=T_eq a;have B:=T_eq b
 simp only [zem]
 split <;> omega
theorem zoi (a b:Int) (h:wrap32 a<wrap32 b):wrap32 b % 4294967296=maxT a b:=by
 unfold maxT
 have A:=T_eq a;have B:=T_eq b
 simp only [zem]
 split <;> omega
theorem zqh (a b:Int) (h:wrap32 b≤wrap32 a):wrap32 a % 4294967296=maxT a b:=by
 unfold maxT
 have A:=T_eq a;have B:=T_eq b
 simp only [zem]
 split <;> omega
theorem zlB (a b:Int) (ha:U64 a) (hb:U64 b) (W:World):TW 115 #[.int .i64 31,(.int .u64 a),(.int .u64 b)] W (.tuple #[.int .u64 (uV (a+b)),.bool true]):=by
 have hU:=And.intro ha hb
 clear hU
 go_enter Tryz.func115,Tryz.ntmps115
 go_wp2_with (first | (go_at_call 157;(with_reducible refine (zss a b ha hb _).mono ?_);rintro e w' ⟨rfl,rfl⟩) | fail)
 go_ret2
 exact ⟨rfl,rfl⟩
theorem zh7 (a b:Int) (ha:U64 a) (hb:U64 b) (W:World):TW 115 #[.int .i64 22,(.int .u64 a),(.int .u64 b)] W (.tuple #[.int .u64 (uV (a+b)),.bool true]):=by
 have hU:=And.intro ha hb
 clear hU
 go_enter Tryz.func115,Tryz.ntmps115
 go_wp2_with (first | (go_at_call 157;(with_reducible refine (zwI a b ha hb _).mono ?_);rintro e w' ⟨rfl,rfl⟩) | fail)
 go_ret2
 exact ⟨rfl,rfl⟩
theorem zk5 (a b:Int) (ha:U64 a) (hb:U64 b) (W:World):TW 115 #[.int .i64 32,(.int .u64 a),(.int .u64 b)] W (.tuple #[.int .u64 (uV (a - b)),.bool true]):=by
 have hU:=And.intro ha hb
 clear hU
 go_enter Tryz.func115,Tryz.ntmps115
 go_wp2_with (first | (go_at_call 157;(with_reducible refine (zuv a b ha hb _).mono ?_);rintro e w' ⟨rfl,rfl⟩) | fail)
 go_ret2
 exact ⟨rfl,rfl⟩
theorem zn1 (a b:Int) (ha:U64 a) (hb:U64 b) (W:World):TW 115 #[.int .i64 33,(.int .u64 a),(.int .u64 b)] W (.tuple #[.int .u64 (uV (a*2 ^ (b % 64).toNat)),.bool true]):=by
 have hU:=And.intro ha hb
 clear hU
 go_enter Tryz.func115,Tryz.ntmps115
 go_wp2_with (first | (go_at_call 157;(with_reducible refine (znV a b ha hb _).mono ?_);rintro e w' ⟨rfl,rfl⟩) | fail)
 go_ret2
 exact ⟨rfl,rfl⟩
theorem zuc (a b:Int) (ha:U64 a) (hb:U64 b) (W:World):TW 115 #[.int .i64 28,(.int .u64 a),(.int .u64 b)] W (.tuple #[.int .u64 (uV (a*2 ^ (b % 64).toNat)),.bool true]):=by
 have hU:=And.intro ha hb
 clear hU
 go_enter Tryz.func115,Tryz.ntmps115
 go_wp2_with (first | (go_at_call 157;(with_reducible refine (ztL a b ha hb _).mono ?_);rintro e w' ⟨rfl,rfl⟩) | fail)
 go_ret2
 exact ⟨rfl,rfl⟩
theorem zwr (a b:Int) (ha:U64 a) (hb:U64 b) (W:World):TW 115 #[.int .i64 37,(.int .u64 a),(.int .u64 b)] W (.tuple #[.int .u64 (a / 2 ^ (b % 64).toNat),.bool true]):=by
 have hU:=And.intro ha hb
 clear hU
 go_enter Tryz.func115,Tryz.ntmps115
 go_wp2_with (first | (go_at_call 157;(with_reducible refine (zxn a b ha hb _).mono ?_);rintro e w' ⟨rfl,rfl⟩) | fail)
 go_ret2
 exact ⟨rfl,rfl⟩
theorem zwM (a b:Int) (ha:U64 a) (hb:U64 b) (W:World):TW 115 #[.int .i64 29,(.int .u64 a),(.int .u64 b)] W (.tuple #[.int .u64 (a / 2 ^ (b % 64).toNat),.bool true]):=by
 have hU:=And.intro ha hb
 clear hU
 go_enter Tryz.func115,Tryz.ntmps115
 go_wp2_with (first | (go_at_call 157;(with_reducible refine (zlT a b ha hb _).mono ?_);rintro e w' ⟨rfl,rfl⟩) | fail)
 go_ret2
 exact ⟨rfl,rfl⟩
theorem zxa (a b:Int) (ha:U64 a) (hb:U64 b) (W:World):TW 115 #[.int .i64 38,(.int .u64 a),(.int .u64 b)] W (.tuple #[.int .u64 (uV (wrap64 a / 2 ^ (b % 64).toNat)),.bool true]):=by
 have hU:=And.intro ha hb
 clear hU
 go_enter Tryz.func115,Tryz.ntmps115
 go_wp2_with (first | (go_at_call 157;(with_reducible refine (zpX a b ha hb _).mono ?_);rintro e w' ⟨rfl,rfl⟩) | fail)
 go_ret2
 exact ⟨rfl,rfl⟩
theorem zqN (a b:Int) (ha:U64 a) (hb:U64 b) (W:World):TW 115 #[.int .i64 30,(.int .u64 a),(.int .u64 b)] W (.tuple #[.int .u64 (uV (wrap64 a / 2 ^ (b % 64).toNat)),.bool true]):=by
 have hU:=And.intro ha hb
 clear hU
 go_enter Tryz.func115,Tryz.ntmps115
 go_wp2_with (first | (go_at_call 157;(with_reducible refine (zlG a b ha hb _).mono ?_);rintro e w' ⟨rfl,rfl⟩) | fail)
 go_ret2
 exact ⟨rfl,rfl⟩
theorem zpz (a b:Int) (ha:U64 a) (hb:U64 b) (W:World):TW 115 #[.int .i64 34,(.int .u64 a),(.int .u64 b)] W (.tuple #[.int .u64 (oneV (decide (wrap64 a<wrap64 b))),.bool true]):=by
 have hU:=And.intro ha hb
 clear hU
 go_enter Tryz.func115,Tryz.ntmps115
 go_wp2_with (first | (go_at_call 157;(with_reducible refine (zxt a b ha hb _).mono ?_);rintro e w' ⟨rfl,rfl⟩) | fail)
 go_ret2
 exact ⟨rfl,rfl⟩
theorem zwk (a b:Int) (ha:U64 a) (hb:U64 b) (W:World):TW 115 #[.int .i64 23,(.int .u64 a),(.int .u64 b)] W (.tuple #[.int .u64 (oneV (decide (wrap64 a<wrap64 b))),.bool true]):=by
 have hU:=And.intro ha hb
 clear hU
 go_enter Tryz.func115,Tryz.ntmps115
 go_wp2_with (first | (go_at_call 157;(with_reducible refine (zvk a b ha hb _).mono ?_);rintro e w' ⟨rfl,rfl⟩) | fail)
 go_ret2
 exact ⟨rfl,rfl⟩
theorem zl0 (a b:Int) (ha:U64 a) (hb:U64 b) (W:World):TW 115 #[.int .i64 35,(.int .u64 a),(.int .u64 b)] W (.tuple #[.int .u64 (oneV (decide (a<b))),.bool true]):=by
 have hU:=And.intro ha hb
 clear hU
 go_enter Tryz.func115,Tryz.ntmps115
 go_wp2_with (first | (go_at_call 157;(with_reducible refine (zq3 a b ha hb _).mono ?_);rintro e w' ⟨rfl,rfl⟩) | fail)
 go_ret2
 exact ⟨rfl,rfl⟩
theorem zq5 (a b:Int) (ha:U64 a) (hb:U64 b) (W:World):TW 115 #[.int .i64 24,(.int .u64 a),(.int .u64 b)] W (.tuple #[.int .u64 (oneV (decide (a<b))),.bool true]):=by
 have hU:=And.intro ha hb
 clear hU
 go_enter Tryz.func115,Tryz.ntmps115
 go_wp2_with (first | (go_at_call 157;(with_reducible refine (zwA a b ha hb _).mono ?_);rintro e w' ⟨rfl,rfl⟩) | fail)
 go_ret2
 exact ⟨rfl,rfl⟩
theorem zsK (a b:Int) (ha:U64 a) (hb:U64 b) (W:World):TW 115 #[.int .i64 36,(.int .u64 a),(.int .u64 b)] W (.tuple #[.int .u64 (bits .xor .u64 a b),.bool true]):=by
 have hU:=And.intro ha hb
 clear hU
 go_enter Tryz.func115,Tryz.ntmps115
 go_wp2_with (first | (go_at_call 157;(with_reducible refine (zlF a b ha hb _).mono ?_);rintro e w' ⟨rfl,rfl⟩) | fail)
 go_ret2
 exact ⟨rfl,rfl⟩
theorem zpE (a b:Int) (ha:U64 a) (hb:U64 b) (W:World):TW 115 #[.int .i64 25,(.int .u64 a),(.int .u64 b)] W (.tuple #[.int .u64 (bits .xor .u64 a b),.bool true]):=by
 have hU:=And.intro ha hb
 clear hU
 go_enter Tryz.func115,Tryz.ntmps115
 go_wp2_with (first | (go_at_call 157;(with_reducible refine (zob a b ha hb _).mono ?_);rintro e w' ⟨rfl,rfl⟩) | fail)
 go_ret2
 exact ⟨rfl,rfl⟩
theorem zrb (a b:Int) (ha:U64 a) (hb:U64 b) (W:World):TW 115 #[.int .i64 39,(.int .u64 a),(.int .u64 b)] W (.tuple #[.int .u64 (bits .or .u64 a b),.bool true]):=by
 have hU:=And.intro ha hb
 clear hU
 go_enter Tryz.func115,Tryz.ntmps115
 go_wp2_with (first | (go_at_call 157;(with_reducible refine (zlC a b ha hb _).mono ?_);rintro e w' ⟨rfl,rfl⟩) | fail)
 go_ret2
 exact ⟨rfl,rfl⟩
theorem ztF (a b:Int) (ha:U64 a) (hb:U64 b) (W:World):TW 115 #[.int .i64 26,(.int .u64 a),(.int .u64 b)] W (.tuple #[.int .u64 (bits .or .u64 a b),.bool true]):=by
 have hU:=And.intro ha hb
 clear hU
 go_enter Tryz.func115,Tryz.ntmps115
 go_wp2_with (first | (go_at_call 157;(with_reducible refine (zoE a b ha hb _).mono ?_);rintro e w' ⟨rfl,rfl⟩) | fail)
 go_ret2
 exact ⟨rfl,rfl⟩
theorem zmi (a b:Int) (ha:U64 a) (hb:U64 b) (W:World):TW 115 #[.int .i64 40,(.int .u64 a),(.int .u64 b)] W (.tuple #[.int .u64 (bits .and .u64 a b),.bool true]):=by
 have hU:=And.intro ha hb
 clear hU
 go_enter Tryz.func115,Tryz.ntmps115
 go_wp2_with (first | (go_at_call 157;(with_reducible refine (znB a b ha hb _).mono ?_);rintro e w' ⟨rfl,rfl⟩) | fail)
 go_ret2
 exact ⟨rfl,rfl⟩
theorem zrX (a b:Int) (ha:U64 a) (hb:U64 b) (W:World):TW 115 #[.int .i64 27,(.int .u64 a),(.int .u64 b)] W (.tuple #[.int .u64 (bits .and .u64 a b),.bool true]):=by
 have hU:=And.intro ha hb
 clear hU
 go_enter Tryz.func115,Tryz.ntmps115
 go_wp2_with (first | (go_at_call 157;(with_reducible refine (zts a b ha hb _).mono ?_);rintro e w' ⟨rfl,rfl⟩) | fail)
 go_ret2
 exact ⟨rfl,rfl⟩
theorem zkD (a b:Int) (ha:U64 a) (hb:U64 b) (W:World):TW 115 #[.int .i64 60,(.int .u64 a),(.int .u64 b)] W (.tuple #[.int .u64 (uV (a*b)),.bool true]):=by
 have hU:=And.intro ha hb
 clear hU
 go_enter Tryz.func115,Tryz.ntmps115
 go_wp2_with (first | ((first | (go_at_call 157;with_reducible refine (zbG 60 a b (by decide) _).mono ?_) | (go_at_call 158;with_reducible refine (zsX a b ha hb _).mono ?_));rintro e w' ⟨rfl,rfl⟩) | fail)
 go_ret2
 exact ⟨rfl,rfl⟩
theorem zsR (a b:Int) (ha:U64 a) (hb:U64 b) (W:World):TW 115 #[.int .i64 61,(.int .u64 a),(.int .u64 b)] W (.tuple #[.int .u64 (uV (a*b / 18446744073709551616 - zd4 a b - zd4 b a)),.bool true]):=by
 have hU:=And.intro ha hb
 clear hU
 go_enter Tryz.func115,Tryz.ntmps115
 go_wp2_with (first | ((first | (go_at_call 157;with_reducible refine (zbG 61 a b (by decide) _).mono ?_) | (go_at_call 158;with_reducible refine (zrA a b ha hb _).mono ?_));rintro e w' ⟨rfl,rfl⟩) | fail)
 go_ret2
 exact ⟨rfl,rfl⟩
theorem zlb (a b:Int) (ha:U64 a) (hb:U64 b) (W:World):TW 115 #[.int .i64 62,(.int .u64 a),(.int .u64 b)] W (.tuple #[.int .u64 (uV (a*b / 18446744073709551616 - zd4 a b)),.bool true]):=by
 have hU:=And.intro ha hb
 clear hU
 go_enter Tryz.func115,Tryz.ntmps115
 go_wp2_with (first | ((first | (go_at_call 157;with_reducible refine (zbG 62 a b (by decide) _).mono ?_) | (go_at_call 158;with_reducible refine (zu4 a b ha hb _).mono ?_));rintro e w' ⟨rfl,rfl⟩) | fail)
 go_ret2
 exact ⟨rfl,rfl⟩
theorem zsP (a b:Int) (ha:U64 a) (hb:U64 b) (W:World):TW 115 #[.int .i64 63,(.int .u64 a),(.int .u64 b)] W (.tuple #[.int .u64 (a*b / 18446744073709551616),.bool true]):=by
 have hU:=And.intro ha hb
 clear hU
 go_enter Tryz.func115,Tryz.ntmps115
 go_wp2_with (first | ((first | (go_at_call 157;with_reducible refine (zbG 63 a b (by decide) _).mono ?_) | (go_at_call 158;with_reducible refine (zx6 a b ha hb _).mono ?_));rintro e w' ⟨rfl,rfl⟩) | fail)
 go_ret2
 exact ⟨rfl,rfl⟩
theorem zs6 (a b:Int) (ha:U64 a) (hb:U64 b) (W:World):TW 115 #[.int .i64 64,(.int .u64 a),(.int .u64 b)] W (.tuple #[.int .u64 (qsV a b),.bool true]):=by
 have hU:=And.intro ha hb
 clear hU
 go_enter Tryz.func115,Tryz.ntmps115
 go_wp2_with (first | ((first | (go_at_call 157;with_reducible refine (zbG 64 a b (by decide) _).mono ?_) | (go_at_call 158;with_reducible refine (ztO a b ha hb _).mono ?_));rintro e w' ⟨rfl,rfl⟩) | fail)
 go_ret2
 exact ⟨rfl,rfl⟩
theorem zn2 (a b:Int) (ha:U64 a) (hb:U64 b) (W:World):TW 115 #[.int .i64 65,(.int .u64 a),(.int .u64 b)] W (.tuple #[.int .u64 (quV a b),.bool true]):=by
 have hU:=And.intro ha hb
 clear hU
 go_enter Tryz.func115,Tryz.ntmps115
 go_wp2_with (first | ((first | (go_at_call 157;with_reducible refine (zbG 65 a b (by decide) _).mono ?_) | (go_at_call 158;with_reducible refine (zwa a b ha hb _).mono ?_));rintro e w' ⟨rfl,rfl⟩) | fail)
 go_ret2
 exact ⟨rfl,rfl⟩
theorem ztE (a b:Int) (ha:U64 a) (hb:U64 b) (W:World):TW 115 #[.int .i64 66,(.int .u64 a),(.int .u64 b)] W (.tuple #[.int .u64 (rsV a b),.bool true]):=by
 have hU:=And.intro ha hb
 clear hU
 go_enter Tryz.func115,Tryz.ntmps115
 go_wp2_with (first | ((first | (go_at_call 157;with_reducible refine (zbG 66 a b (by decide) _).mono ?_) | (go_at_call 158;with_reducible refine (zwh a b ha hb _).mono ?_));rintro e w' ⟨rfl,rfl⟩) | fail)
 go_ret2
 exact ⟨rfl,rfl⟩
theorem zw4 (a b:Int) (ha:U64 a) (hb:U64 b) (W:World):TW 115 #[.int .i64 67,(.int .u64 a),(.int .u64 b)] W (.tuple #[.int .u64 (reV a b),.bool true]):=by
 have hU:=And.intro ha hb
 clear hU
 go_enter Tryz.func115,Tryz.ntmps115
 go_wp2_with (first | ((first | (go_at_call 157;with_reducible refine (zbG 67 a b (by decide) _).mono ?_) | (go_at_call 158;with_reducible refine (ztP a b ha hb _).mono ?_));rintro e w' ⟨rfl,rfl⟩) | fail)
 go_ret2
 exact ⟨rfl,rfl⟩
theorem zpJ (a b:Int) (ha:U64 a) (hb:U64 b) (W:World):TW 115 #[.int .i64 45,(.int .u64 a),(.int .u64 b)] W (.tuple #[.int .u64 (zaZ (a+b)),.bool true]):=by
 have hU:=And.intro ha hb
 clear hU
 go_enter Tryz.func115,Tryz.ntmps115
 go_wp2_with (first | ((first | (go_at_call 157;with_reducible refine (zbG 45 a b (by decide) _).mono ?_) | (go_at_call 158;with_reducible refine (zcx 45 a b (by decide) _).mono ?_) | (go_at_call 159;with_reducible refine (zr8 a b ha hb _).mono ?_));rintro e w' ⟨rfl,rfl⟩) | fail)
 go_ret2
 exact ⟨rfl,rfl⟩
theorem zq8 (a b:Int) (ha:U64 a) (hb:U64 b) (W:World):TW 115 #[.int .i64 41,(.int .u64 a),(.int .u64 b)] W (.tuple #[.int .u64 (zaZ (a+b)),.bool true]):=by
 have hU:=And.intro ha hb
 clear hU
 go_enter Tryz.func115,Tryz.ntmps115
 go_wp2_with (first | ((first | (go_at_call 157;with_reducible refine (zbG 41 a b (by decide) _).mono ?_) | (go_at_call 158;with_reducible refine (zcx 41 a b (by decide) _).mono ?_) | (go_at_call 159;with_reducible refine (zvf a b ha hb _).mono ?_));rintro e w' ⟨rfl,rfl⟩) | fail)
 go_ret2
 exact ⟨rfl,rfl⟩
theorem zkF (a b:Int) (ha:U64 a) (hb:U64 b) (W:World):TW 115 #[.int .i64 46,(.int .u64 a),(.int .u64 b)] W (.tuple #[.int .u64 (zaZ (a - b)),.bool true]):=by
 have hU:=And.intro ha hb
 clear hU
 go_enter Tryz.func115,Tryz.ntmps115
 go_wp2_with (first | ((first | (go_at_call 157;with_reducible refine (zbG 46 a b (by decide) _).mono ?_) | (go_at_call 158;with_reducible refine (zcx 46 a b (by decide) _).mono ?_) | (go_at_call 159;with_reducible refine (zxG a b ha hb _).mono ?_));rintro e w' ⟨rfl,rfl⟩) | fail)
 go_ret2
 exact ⟨rfl,rfl⟩
theorem zlA (a b:Int) (ha:U64 a) (hb:U64 b) (W:World):TW 115 #[.int .i64 68,(.int .u64 a),(.int .u64 b)] W (.tuple #[.int .u64 (zaZ (a*b)),.bool true]):=by
 have hU:=And.intro ha hb
 clear hU
 go_enter Tryz.func115,Tryz.ntmps115
 go_wp2_with (first | ((first | (go_at_call 157;with_reducible refine (zbG 68 a b (by decide) _).mono ?_) | (go_at_call 158;with_reducible refine (zcx 68 a b (by decide) _).mono ?_) | (go_at_call 159;with_reducible refine (zqS a b ha hb _).mono ?_));rintro e w' ⟨rfl,rfl⟩) | fail)
 go_ret2
 exact ⟨rfl,rfl⟩
theorem zyn (a b:Int) (ha:U64 a) (hb:U64 b) (W:World):TW 115 #[.int .i64 47,(.int .u64 a),(.int .u64 b)] W (.tuple #[.int .u64 (zaZ (a*2 ^ (b % 32).toNat)),.bool true]):=by
 have hU:=And.intro ha hb
 clear hU
 go_enter Tryz.func115,Tryz.ntmps115
 go_wp2_with (first | ((first | (go_at_call 157;with_reducible refine (zbG 47 a b (by decide) _).mono ?_) | (go_at_call 158;with_reducible refine (zcx 47 a b (by decide) _).mono ?_) | (go_at_call 159;with_reducible refine (zoM a b ha hb _).mono ?_));rintro e w' ⟨rfl,rfl⟩) | fail)
 go_ret2
 exact ⟨rfl,rfl⟩
theorem zrg (a b:Int) (ha:U64 a) (hb:U64 b) (W:World):TW 115 #[.int .i64 42,(.int .u64 a),(.int .u64 b)] W (.tuple #[.int .u64 (zaZ (a*2 ^ (b % 32).toNat)),.bool true]):=by
 have hU:=And.intro ha hb
 clear hU
 go_enter Tryz.func115,Tryz.ntmps115
 go_wp2_with (first | ((first | (go_at_call 157;with_reducible refine (zbG 42 a b (by decide) _).mono ?_) | (go_at_call 158;with_reducible refine (zcx 42 a b (by decide) _).mono ?_) | (go_at_call 159;with_reducible refine (zmf a b ha hb _).mono ?_));rintro e w' ⟨rfl,rfl⟩) | fail)
 go_ret2
 exact ⟨rfl,rfl⟩
theorem zre (a b:Int) (ha:U64 a) (hb:U64 b) (W:World):TW 115 #[.int .i64 48,(.int .u64 a),(.int .u64 b)] W (.tuple #[.int .u64 (zaZ (lowV a / 2 ^ (b % 32).toNat)),.bool true]):=by
 have hU:=And.intro ha hb
 clear hU
 go_enter Tryz.func115,Tryz.ntmps115
 go_wp2_with (first | ((first | (go_at_call 157;with_reducible refine (zbG 48 a b (by decide) _).mono ?_) | (go_at_call 158;with_reducible refine (zcx 48 a b (by decide) _).mono ?_) | (go_at_call 159;with_reducible refine (zlf a b ha hb _).mono ?_));rintro e w' ⟨rfl,rfl⟩) | fail)
 go_ret2
 exact ⟨rfl,rfl⟩
theorem zxz (a b:Int) (ha:U64 a) (hb:U64 b) (W:World):TW 115 #[.int .i64 43,(.int .u64 a),(.int .u64 b)] W (.tuple #[.int .u64 (zaZ (lowV a / 2 ^ (b % 32).toNat)),.bool true]):=by
 have hU:=And.intro ha hb
 clear hU
 go_enter Tryz.func115,Tryz.ntmps115
 go_wp2_with (first | ((first | (go_at_call 157;with_reducible refine (zbG 43 a b (by decide) _).mono ?_) | (go_at_call 158;with_reducible refine (zcx 43 a b (by decide) _).mono ?_) | (go_at_call 159;with_reducible refine (zmt a b ha hb _).mono ?_));rintro e w' ⟨rfl,rfl⟩) | fail)
 go_ret2
 exact ⟨rfl,rfl⟩
theorem zu1 (a b:Int) (ha:U64 a) (hb:U64 b) (W:World):TW 115 #[.int .i64 49,(.int .u64 a),(.int .u64 b)] W (.tuple #[.int .u64 (uV (wrap32 a / 2 ^ (b % 32).toNat)),.bool true]):=by
 have hU:=And.intro ha hb
 clear hU
 go_enter Tryz.func115,Tryz.ntmps115
 go_wp2_with (first | ((first | (go_at_call 157;with_reducible refine (zbG 49 a b (by decide) _).mono ?_) | (go_at_call 158;with_reducible refine (zcx 49 a b (by decide) _).mono ?_) | (go_at_call 159;with_reducible refine (zsb a b ha hb _).mono ?_));rintro e w' ⟨rfl,rfl⟩) | fail)
 go_ret2
 exact ⟨rfl,rfl⟩
theorem zxC (a b:Int) (ha:U64 a) (hb:U64 b) (W:World):TW 115 #[.int .i64 44,(.int .u64 a),(.int .u64 b)] W (.tuple #[.int .u64 (uV (wrap32 a / 2 ^ (b % 32).toNat)),.bool true]):=by
 have hU:=And.intro ha hb
 clear hU
 go_enter Tryz.func115,Tryz.ntmps115
 go_wp2_with (first | ((first | (go_at_call 157;with_reducible refine (zbG 44 a b (by decide) _).mono ?_) | (go_at_call 158;with_reducible refine (zcx 44 a b (by decide) _).mono ?_) | (go_at_call 159;with_reducible refine (zwY a b ha hb _).mono ?_));rintro e w' ⟨rfl,rfl⟩) | fail)
 go_ret2
 exact ⟨rfl,rfl⟩
theorem zry (a b:Int) (ha:U64 a) (hb:U64 b) (W:World):TW 115 #[.int .i64 69,(.int .u64 a),(.int .u64 b)] W (.tuple #[.int .u64 (zaZ (qsV (zaZ a) (zaZ b))),.bool true]):=by
 have hU:=And.intro ha hb
 clear hU
 go_enter Tryz.func115,Tryz.ntmps115
 go_wp2_with (first | ((first | (go_at_call 157;with_reducible refine (zbG 69 a b (by decide) _).mono ?_) | (go_at_call 158;with_reducible refine (zcx 69 a b (by decide) _).mono ?_) | (go_at_call 159;with_reducible refine (zlq a b ha hb _).mono ?_));rintro e w' ⟨rfl,rfl⟩) | fail)
 go_ret2
 exact ⟨rfl,rfl⟩
theorem zlv (a b:Int) (ha:U64 a) (hb:U64 b) (W:World):TW 115 #[.int .i64 70,(.int .u64 a),(.int .u64 b)] W (.tuple #[.int .u64 (zaZ (quV (lowV a) (lowV b))),.bool true]):=by
 have hU:=And.intro ha hb
 clear hU
 go_enter Tryz.func115,Tryz.ntmps115
 go_wp2_with (first | ((first | (go_at_call 157;with_reducible refine (zbG 70 a b (by decide) _).mono ?_) | (go_at_call 158;with_reducible refine (zcx 70 a b (by decide) _).mono ?_) | (go_at_call 159;with_reducible refine (zot a b ha hb _).mono ?_));rintro e w' ⟨rfl,rfl⟩) | fail)
 go_ret2
 exact ⟨rfl,rfl⟩
theorem zk7 (a b:Int) (ha:U64 a) (hb:U64 b) (W:World):TW 115 #[.int .i64 71,(.int .u64 a),(.int .u64 b)] W (.tuple #[.int .u64 (zaZ (rsV (zaZ a) (zaZ b))),.bool true]):=by
 have hU:=And.intro ha hb
 clear hU
 go_enter Tryz.func115,Tryz.ntmps115
 go_wp2_with (first | ((first | (go_at_call 157;with_reducible refine (zbG 71 a b (by decide) _).mono ?_) | (go_at_call 158;with_reducible refine (zcx 71 a b (by decide) _).mono ?_) | (go_at_call 159;with_reducible refine (zp8 a b ha hb _).mono ?_));rintro e w' ⟨rfl,rfl⟩) | fail)
 go_ret2
 exact ⟨rfl,rfl⟩
theorem zwH (a b:Int) (ha:U64 a) (hb:U64 b) (W:World):TW 115 #[.int .i64 72,(.int .u64 a),(.int .u64 b)] W (.tuple #[.int .u64 (zaZ (reV (lowV a) (lowV b))),.bool true]):=by
 have hU:=And.intro ha hb
 clear hU
 go_enter Tryz.func115,Tryz.ntmps115
 go_wp2_with (first | ((first | (go_at_call 157;with_reducible refine (zbG 72 a b (by decide) _).mono ?_) | (go_at_call 158;with_reducible refine (zcx 72 a b (by decide) _).mono ?_) | (go_at_call 159;with_reducible refine (znK a b ha hb _).mono ?_));rintro e w' ⟨rfl,rfl⟩) | fail)
 go_ret2
 exact ⟨rfl,rfl⟩
theorem zfx {op:Int} {L M:List Int} (h:∀ k∈L,op≠k) (g:∀ k∈M,k∈L):∀ k∈M,op≠k:=fun k hk=>h k (g k hk)
theorem znl (op:Int) (a b:Int) (h:∀ k∈([31,22,32,33,28,37,29,38,30,34,23,35,24,36,25,39,26,40,27,60,61,62,63,64,65,66,67,45,41,46,68,47,42,48,43,49,44,69,70,71,72]:List Int),op≠k) (W:World):TW 115 #[.int .i64 op,(.int .u64 a),(.int .u64 b)] W (.tuple #[.int .u64 0,.bool false]):=by
 have h1:=hid (zfx h (M:=[31,22,32,33,28,37,29,38,30,34,23,35,24,36,25,39,26,40,27]) (by decide))
 have h2:=hid (zfx h (M:=[60,61,62,63,64,65,66,67]) (by decide))
 have h3:=hid (zfx h (M:=[45,41,46,68,47,42,48,43,49,44,69,70,71,72]) (by decide))
 clear h
 go_enter Tryz.func115,Tryz.ntmps115
 go_wp2_with (first | ((first | (go_at_call 157;with_reducible refine (zbG op a b h1.out _).mono ?_) | (go_at_call 158;with_reducible refine (zcx op a b h2.out _).mono ?_) | (go_at_call 159;with_reducible refine (zqA op a b h3.out _).mono ?_));rintro e w' ⟨rfl,rfl⟩) | fail)
 go_ret2
 exact ⟨rfl,rfl⟩
theorem zkE (a b:Int) (ha:U64 a) (hb:U64 b) (W:World):TW 202 #[.int .i64 86,(.int .u64 a),(.int .u64 b)] W (.tuple #[.int .u64 b,.bool true]):=by
 have hU:=And.intro ha hb
 clear hU
 go_enter Tryz.func202,Tryz.ntmps202
 go_wp2
 go_ret2
 exact ⟨rfl,rfl⟩
theorem zoG (a b:Int) (ha:U64 a) (hb:U64 b) (W:World):TW 202 #[.int .i64 87,(.int .u64 a),(.int .u64 b)] W (.tuple #[.int .u64 (uV (a+b)),.bool true]):=by
 have hU:=And.intro ha hb
 clear hU
 go_enter Tryz.func202,Tryz.ntmps202
 go_wp2
 go_ret2
 exact ⟨rfl,rfl⟩
theorem ztR (a b:Int) (ha:U64 a) (hb:U64 b) (W:World):TW 202 #[.int .i64 88,(.int .u64 a),(.int .u64 b)] W (.tuple #[.int .u64 (bits .xor .u64 a b),.bool true]):=by
 have hU:=And.intro ha hb
 clear hU
 go_enter Tryz.func202,Tryz.ntmps202
 go_wp2
 go_ret2
 exact ⟨rfl,rfl⟩
theorem zyi (a b:Int) (ha:U64 a) (hb:U64 b) (W:World):TW 202 #[.int .i64 89,(.int .u64 a),(.int .u64 b)] W (.tuple #[.int .u64 (bits .and .u64 a b),.bool true]):=by
 have hU:=And.intro ha hb
 clear hU
 go_enter Tryz.func202,Tryz.ntmps202
 go_wp2
 go_ret2
 exact ⟨rfl,rfl⟩
theorem zoJ (a b:Int) (ha:U64 a) (hb:U64 b) (W:World):TW 202 #[.int .i64 90,(.int .u64 a),(.int .u64 b)] W (.tuple #[.int .u64 (bits .or .u64 a b),.bool true]):=by
 have hU:=And.intro ha hb
 clear hU
 go_enter Tryz.func202,Tryz.ntmps202
 go_wp2
 go_ret2
 exact ⟨rfl,rfl⟩
theorem zkV (a b:Int) (ha:U64 a) (hb:U64 b) (W:World):TW 202 #[.int .i64 91,(.int .u64 a),(.int .u64 b)] W (.tuple #[.int .u64 (minS a b),.bool true]):=by
 have hU:=And.intro ha hb
 clear hU
 by_cases h:wrap64 b<wrap64 a
 ·go_enter Tryz.func202,Tryz.ntmps202
  go_wp2
  go_ret2
  exact ⟨zaO (znR a b ha hb h) rfl,rfl⟩
 ·have h:=Int.not_lt.mp h
  go_enter Tryz.func202,Tryz.ntmps202
  go_wp2
  go_ret2
  exact ⟨zaO (zqI a b ha hb h) rfl,rfl⟩
theorem zqH (a b:Int) (ha:U64 a) (hb:U64 b) (W:World):TW 202 #[.int .i64 92,(.int .u64 a),(.int .u64 b)] W (.tuple #[.int .u64 (maxS a b),.bool true]):=by
 have hU:=And.intro ha hb
 clear hU
 by_cases h:wrap64 a<wrap64 b
 ·go_enter Tryz.func202,Tryz.ntmps202
  go_wp2
  go_ret2
  exact ⟨zaO (zxD a b ha hb h) rfl,rfl⟩
 ·have h:=Int.not_lt.mp h
  go_enter Tryz.func202,Tryz.ntmps202
  go_wp2
  go_ret2
  exact ⟨zaO (ztJ a b ha hb h) rfl,rfl⟩
theorem zrW (a b:Int) (ha:U64 a) (hb:U64 b) (W:World):TW 202 #[.int .i64 93,(.int .u64 a),(.int .u64 b)] W (.tuple #[.int .u64 (minU a b),.bool true]):=by
 have hU:=And.intro ha hb
 clear hU
 by_cases h:b<a
 ·go_enter Tryz.func202,Tryz.ntmps202
  go_wp2
  go_ret2
  exact ⟨zaO (zjP a b h) rfl,rfl⟩
 ·have h:=Int.not_lt.mp h
  go_enter Tryz.func202,Tryz.ntmps202
  go_wp2
  go_ret2
  exact ⟨zaO (zjq a b h) rfl,rfl⟩
theorem zqV (a b:Int) (ha:U64 a) (hb:U64 b) (W:World):TW 202 #[.int .i64 94,(.int .u64 a),(.int .u64 b)] W (.tuple #[.int .u64 (maxU a b),.bool true]):=by
 have hU:=And.intro ha hb
 clear hU
 by_cases h:a<b
 ·go_enter Tryz.func202,Tryz.ntmps202
  go_wp2
  go_ret2
  exact ⟨zaO (zi5 a b h) rfl,rfl⟩
 ·have h:=Int.not_lt.mp h
  go_enter Tryz.func202,Tryz.ntmps202
  go_wp2
  go_ret2
  exact ⟨zaO (zis a b h) rfl,rfl⟩
theorem zdB (op:Int) (a b:Int) (h:∀ k∈([86,87,88,89,90,91,92,93,94]:List Int),op≠k) (W:World):TW 202 #[.int .i64 op,(.int .u64 a),(.int .u64 b)] W (.tuple #[.int .u64 0,.bool false]):=by
 have g86:(op==86)=false:=by rw [beq_eq_false_iff_ne];exact h 86 (by decide)
 have g87:(op==87)=false:=by rw [beq_eq_false_iff_ne];exact h 87 (by decide)
 have g88:(op==88)=false:=by rw [beq_eq_false_iff_ne];exact h 88 (by decide)
 have g89:(op==89)=false:=by rw [beq_eq_false_iff_ne];exact h 89 (by decide)
 have g90:(op==90)=false:=by rw [beq_eq_false_iff_ne];exact h 90 (by decide)
 have g91:(op==91)=false:=by rw [beq_eq_false_iff_ne];exact h 91 (by decide)
 have g92:(op==92)=false:=by rw [beq_eq_false_iff_ne];exact h 92 (by decide)
 have g93:(op==93)=false:=by rw [beq_eq_false_iff_ne];exact h 93 (by decide)
 have g94:(op==94)=false:=by rw [beq_eq_false_iff_ne];exact h 94 (by decide)
 clear h
 go_enter Tryz.func202,Tryz.ntmps202
 go_wp2
 go_ret2
 exact ⟨rfl,rfl⟩
theorem zmm (a b:Int) (ha:U64 a) (hb:U64 b) (W:World):TW 203 #[.int .i64 75,(.int .u64 a),(.int .u64 b)] W (.tuple #[.int .u64 (lowV b),.bool true]):=by
 have hU:=And.intro ha hb
 clear hU
 go_enter Tryz.func203,Tryz.ntmps203
 go_wp2_with (first | (go_at_call 211;(with_reducible refine (zcO _ _).mono ?_);rintro e w' ⟨rfl,rfl⟩) | fail)
 go_ret2
 exact ⟨rfl,rfl⟩
theorem zkA (a b:Int) (ha:U64 a) (hb:U64 b) (W:World):TW 203 #[.int .i64 76,(.int .u64 a),(.int .u64 b)] W (.tuple #[.int .u64 (lowV (a+b)),.bool true]):=by
 have hU:=And.intro ha hb
 clear hU
 go_enter Tryz.func203,Tryz.ntmps203
 go_wp2_with (first | (go_at_call 211;(with_reducible refine (zcO _ _).mono ?_);rintro e w' ⟨rfl,rfl⟩) | fail)
 go_ret2
 refine ⟨zaO ?_ rfl,rfl⟩
 simp only [IntKind.wrap_u64,zem]
 try omega
theorem zww (a b:Int) (ha:U64 a) (hb:U64 b) (W:World):TW 203 #[.int .i64 77,(.int .u64 a),(.int .u64 b)] W (.tuple #[.int .u64 (lowV (bits .xor .u64 a b)),.bool true]):=by
 have hU:=And.intro ha hb
 clear hU
 go_enter Tryz.func203,Tryz.ntmps203
 go_wp2_with (first | (go_at_call 211;(with_reducible refine (zcO _ _).mono ?_);rintro e w' ⟨rfl,rfl⟩) | fail)
 go_ret2
 exact ⟨rfl,rfl⟩
theorem zr6 (a b:Int) (ha:U64 a) (hb:U64 b) (W:World):TW 203 #[.int .i64 78,(.int .u64 a),(.int .u64 b)] W (.tuple #[.int .u64 (lowV (bits .and .u64 a b)),.bool true]):=by
 have hU:=And.intro ha hb
 clear hU
 go_enter Tryz.func203,Tryz.ntmps203
 go_wp2_with (first | (go_at_call 211;(with_reducible refine (zcO _ _).mono ?_);rintro e w' ⟨rfl,rfl⟩) | fail)
 go_ret2
 exact ⟨rfl,rfl⟩
theorem zlM (a b:Int) (ha:U64 a) (hb:U64 b) (W:World):TW 203 #[.int .i64 79,(.int .u64 a),(.int .u64 b)] W (.tuple #[.int .u64 (lowV (bits .or .u64 a b)),.bool true]):=by
 have hU:=And.intro ha hb
 clear hU
 go_enter Tryz.func203,Tryz.ntmps203
 go_wp2_with (first | (go_at_call 211;(with_reducible refine (zcO _ _).mono ?_);rintro e w' ⟨rfl,rfl⟩) | fail)
 go_ret2
 exact ⟨rfl,rfl⟩
theorem zqZ (a b:Int) (ha:U64 a) (hb:U64 b) (W:World):TW 203 #[.int .i64 80,(.int .u64 a),(.int .u64 b)] W (.tuple #[.int .u64 (minT a b),.bool true]):=by
 have hU:=And.intro ha hb
 clear hU
 by_cases h:wrap32 b<wrap32 a
 ·go_enter Tryz.func203,Tryz.ntmps203
  go_wp2
  go_ret2
  exact ⟨zaO (zoe a b h) rfl,rfl⟩
 ·have h:=Int.not_lt.mp h
  go_enter Tryz.func203,Tryz.ntmps203
  go_wp2
  go_ret2
  exact ⟨zaO (ztA a b h) rfl,rfl⟩
theorem zsd (a b:Int) (ha:U64 a) (hb:U64 b) (W:World):TW 203 #[.int .i64 81,(.int .u64 a),(.int .u64 b)] W (.tuple #[.int .u64 (maxT a b),.bool true]):=by
 have hU:=And.intro ha hb
 clear hU
 by_cases h:wrap32 a<wrap32 b
 ·go_enter Tryz.func203,Tryz.ntmps203
  go_wp2
  go_ret2
  exact ⟨zaO (zoi a b h) rfl,rfl⟩
 ·have h:=Int.not_lt.mp h
  go_enter Tryz.func203,Tryz.ntmps203
  go_wp2
  go_ret2
  exact ⟨zaO (zqh a b h) rfl,rfl⟩
theorem zxA (a b:Int) (ha:U64 a) (hb:U64 b) (W:World):TW 203 #[.int .i64 82,(.int .u64 a),(.int .u64 b)] W (.tuple #[.int .u64 (minU (lowV a) (lowV b)),.bool true]):=by
 have hU:=And.intro ha hb
 clear hU
 by_cases h:lowV b<lowV a
 ·go_enter Tryz.func203,Tryz.ntmps203
  go_wp2_with (first | (go_at_call 211;(with_reducible refine (zcO _ _).mono ?_);rintro e w' ⟨rfl,rfl⟩) | fail)
  go_ret2
  exact ⟨zaO (zjP (lowV a) (lowV b) h) rfl,rfl⟩
 ·have h:=Int.not_lt.mp h
  go_enter Tryz.func203,Tryz.ntmps203
  go_wp2_with (first | (go_at_call 211;(with_reducible refine (zcO _ _).mono ?_);rintro e w' ⟨rfl,rfl⟩) | fail)
  go_ret2
  exact ⟨zaO (zjq (lowV a) (lowV b) h) rfl,rfl⟩
theorem zuo (a b:Int) (ha:U64 a) (hb:U64 b) (W:World):TW 203 #[.int .i64 83,(.int .u64 a),(.int .u64 b)] W (.tuple #[.int .u64 (maxU (lowV a) (lowV b)),.bool true]):=by
 have hU:=And.intro ha hb
 clear hU
 by_cases h:lowV a<lowV b
 ·go_enter Tryz.func203,Tryz.ntmps203
  go_wp2_with (first | (go_at_call 211;(with_reducible refine (zcO _ _).mono ?_);rintro e w' ⟨rfl,rfl⟩) | fail)
  go_ret2
  exact ⟨zaO (zi5 (lowV a) (lowV b) h) rfl,rfl⟩
 ·have h:=Int.not_lt.mp h
  go_enter Tryz.func203,Tryz.ntmps203
  go_wp2_with (first | (go_at_call 211;(with_reducible refine (zcO _ _).mono ?_);rintro e w' ⟨rfl,rfl⟩) | fail)
  go_ret2
  exact ⟨zaO (zis (lowV a) (lowV b) h) rfl,rfl⟩
theorem zvE (op:Int) (a b:Int) (h:∀ k∈([75,76,77,78,79,80,81,82,83]:List Int),op≠k) (W:World):TW 203 #[.int .i64 op,(.int .u64 a),(.int .u64 b)] W (.tuple #[.int .u64 0,.bool false]):=by
 have g75:(op==75)=false:=by rw [beq_eq_false_iff_ne];exact h 75 (by decide)
 have g76:(op==76)=false:=by rw [beq_eq_false_iff_ne];exact h 76 (by decide)
 have g77:(op==77)=false:=by rw [beq_eq_false_iff_ne];exact h 77 (by decide)
 have g78:(op==78)=false:=by rw [beq_eq_false_iff_ne];exact h 78 (by decide)
 have g79:(op==79)=false:=by rw [beq_eq_false_iff_ne];exact h 79 (by decide)
 have g80:(op==80)=false:=by rw [beq_eq_false_iff_ne];exact h 80 (by decide)
 have g81:(op==81)=false:=by rw [beq_eq_false_iff_ne];exact h 81 (by decide)
 have g82:(op==82)=false:=by rw [beq_eq_false_iff_ne];exact h 82 (by decide)
 have g83:(op==83)=false:=by rw [beq_eq_false_iff_ne];exact h 83 (by decide)
 clear h
 go_enter Tryz.func203,Tryz.ntmps203
 go_wp2
 go_ret2
 exact ⟨rfl,rfl⟩
theorem zkU (a b:Int) (ha:U64 a) (hb:U64 b) (W:World):TW 156 #[.int .i64 86,(.int .u64 a),(.int .u64 b)] W (.tuple #[.int .u64 b,.bool true]):=by
 have hU:=And.intro ha hb
 clear hU
 go_enter Tryz.func156,Tryz.ntmps156
 go_wp2_with (first | (go_at_call 202;(with_reducible refine (zkE a b ha hb _).mono ?_);rintro e w' ⟨rfl,rfl⟩) | fail)
 go_ret2
 exact ⟨rfl,rfl⟩
theorem zmT (a b:Int) (ha:U64 a) (hb:U64 b) (W:World):TW 156 #[.int .i64 87,(.int .u64 a),(.int .u64 b)] W (.tuple #[.int .u64 (uV (a+b)),.bool true]):=by
 have hU:=And.intro ha hb
 clear hU
 go_enter Tryz.func156,Tryz.ntmps156
 go_wp2_with (first | (go_at_call 202;(with_reducible refine (zoG a b ha hb _).mono ?_);rintro e w' ⟨rfl,rfl⟩) | fail)
 go_ret2
 exact ⟨rfl,rfl⟩
theorem zlH (a b:Int) (ha:U64 a) (hb:U64 b) (W:World):TW 156 #[.int .i64 88,(.int .u64 a),(.int .u64 b)] W (.tuple #[.int .u64 (bits .xor .u64 a b),.bool true]):=by
 have hU:=And.intro ha hb
 clear hU
 go_enter Tryz.func156,Tryz.ntmps156
 go_wp2_with (first | (go_at_call 202;(with_reducible refine (ztR a b ha hb _).mono ?_);rintro e w' ⟨rfl,rfl⟩) | fail)
 go_ret2
 exact ⟨rfl,rfl⟩
theorem zwo (a b:Int) (ha:U64 a) (hb:U64 b) (W:World):TW 156 #[.int .i64 89,(.int .u64 a),(.int .u64 b)] W (.tuple #[.int .u64 (bits .and .u64 a b),.bool true]):=by
 have hU:=And.intro ha hb
 clear hU
 go_enter Tryz.func156,Tryz.ntmps156
 go_wp2_with (first | (go_at_call 202;(with_reducible refine (zyi a b ha hb _).mono ?_);rintro e w' ⟨rfl,rfl⟩) | fail)
 go_ret2
 exact ⟨rfl,rfl⟩
theorem znu (a b:Int) (ha:U64 a) (hb:U64 b) (W:World):TW 156 #[.int .i64 90,(.int .u64 a),(.int .u64 b)] W (.tuple #[.int .u64 (bits .or .u64 a b),.bool true]):=by
 have hU:=And.intro ha hb
 clear hU
 go_enter Tryz.func156,Tryz.ntmps156
 go_wp2_with (first | (go_at_call 202;(with_reducible refine (zoJ a b ha hb _).mono ?_);rintro e w' ⟨rfl,rfl⟩) | fail)
 go_ret2
 exact ⟨rfl,rfl⟩
theorem zr7 (a b:Int) (ha:U64 a) (hb:U64 b) (W:World):TW 156 #[.int .i64 91,(.int .u64 a),(.int .u64 b)] W (.tuple #[.int .u64 (minS a b),.bool true]):=by
 have hU:=And.intro ha hb
 clear hU
 go_enter Tryz.func156,Tryz.ntmps156
 go_wp2_with (first | (go_at_call 202;(with_reducible refine (zkV a b ha hb _).mono ?_);rintro e w' ⟨rfl,rfl⟩) | fail)
 go_ret2
 exact ⟨rfl,rfl⟩
theorem zlz (a b:Int) (ha:U64 a) (hb:U64 b) (W:World):TW 156 #[.int .i64 92,(.int .u64 a),(.int .u64 b)] W (.tuple #[.int .u64 (maxS a b),.bool true]):=by
 have hU:=And.intro ha hb
 clear hU
 go_enter Tryz.func156,Tryz.ntmps156
 go_wp2_with (first | (go_at_call 202;(with_reducible refine (zqH a b ha hb _).mono ?_);rintro e w' ⟨rfl,rfl⟩) | fail)
 go_ret2
 exact ⟨rfl,rfl⟩
theorem znj (a b:Int) (ha:U64 a) (hb:U64 b) (W:World):TW 156 #[.int .i64 93,(.int .u64 a),(.int .u64 b)] W (.tuple #[.int .u64 (minU a b),.bool true]):=by
 have hU:=And.intro ha hb
 clear hU
 go_enter Tryz.func156,Tryz.ntmps156
 go_wp2_with (first | (go_at_call 202;(with_reducible refine (zrW a b ha hb _).mono ?_);rintro e w' ⟨rfl,rfl⟩) | fail)
 go_ret2
 exact ⟨rfl,rfl⟩
theorem zu3 (a b:Int) (ha:U64 a) (hb:U64 b) (W:World):TW 156 #[.int .i64 94,(.int .u64 a),(.int .u64 b)] W (.tuple #[.int .u64 (maxU a b),.bool true]):=by
 have hU:=And.intro ha hb
 clear hU
 go_enter Tryz.func156,Tryz.ntmps156
 go_wp2_with (first | (go_at_call 202;(with_reducible refine (zqV a b ha hb _).mono ?_);rintro e w' ⟨rfl,rfl⟩) | fail)
 go_ret2
 exact ⟨rfl,rfl⟩
theorem zwE (a b:Int) (ha:U64 a) (hb:U64 b) (W:World):TW 156 #[.int .i64 75,(.int .u64 a),(.int .u64 b)] W (.tuple #[.int .u64 (lowV b),.bool true]):=by
 have hU:=And.intro ha hb
 clear hU
 go_enter Tryz.func156,Tryz.ntmps156
 go_wp2_with (first | ((first | (go_at_call 202;with_reducible refine (zdB 75 a b (by decide) _).mono ?_) | (go_at_call 203;with_reducible refine (zmm a b ha hb _).mono ?_));rintro e w' ⟨rfl,rfl⟩) | fail)
 go_ret2
 exact ⟨rfl,rfl⟩
theorem zxp (a b:Int) (ha:U64 a) (hb:U64 b) (W:World):TW 156 #[.int .i64 76,(.int .u64 a),(.int .u64 b)] W (.tuple #[.int .u64 (lowV (a+b)),.bool true]):=by
 have hU:=And.intro ha hb
 clear hU
 go_enter Tryz.func156,Tryz.ntmps156
 go_wp2_with (first | ((first | (go_at_call 202;with_reducible refine (zdB 76 a b (by decide) _).mono ?_) | (go_at_call 203;with_reducible refine (zkA a b ha hb _).mono ?_));rintro e w' ⟨rfl,rfl⟩) | fail)
 go_ret2
 exact ⟨rfl,rfl⟩
theorem zs2 (a b:Int) (ha:U64 a) (hb:U64 b) (W:World):TW 156 #[.int .i64 77,(.int .u64 a),(.int .u64 b)] W (.tuple #[.int .u64 (lowV (bits .xor .u64 a b)),.bool true]):=by
 have hU:=And.intro ha hb
 clear hU
 go_enter Tryz.func156,Tryz.ntmps156
 go_wp2_with (first | ((first | (go_at_call 202;with_reducible refine (zdB 77 a b (by decide) _).mono ?_) | (go_at_call 203;with_reducible refine (zww a b ha hb _).mono ?_));rintro e w' ⟨rfl,rfl⟩) | fail)
 go_ret2
 exact ⟨rfl,rfl⟩
theorem zns (a b:Int) (ha:U64 a) (hb:U64 b) (W:World):TW 156 #[.int .i64 78,(.int .u64 a),(.int .u64 b)] W (.tuple #[.int .u64 (lowV (bits .and .u64 a b)),.bool true]):=by
 have hU:=And.intro ha hb
 clear hU
 go_enter Tryz.func156,Tryz.ntmps156
 go_wp2_with (first | ((first | (go_at_call 202;with_reducible refine (zdB 78 a b (by decide) _).mono ?_) | (go_at_call 203;with_reducible refine (zr6 a b ha hb _).mono ?_));rintro e w' ⟨rfl,rfl⟩) | fail)
 go_ret2
 exact ⟨rfl,rfl⟩
theorem zkG (a b:Int) (ha:U64 a) (hb:U64 b) (W:World):TW 156 #[.int .i64 79,(.int .u64 a),(.int .u64 b)] W (.tuple #[.int .u64 (lowV (bits .or .u64 a b)),.bool true]):=by
 have hU:=And.intro ha hb
 clear hU
 go_enter Tryz.func156,Tryz.ntmps156
 go_wp2_with (first | ((first | (go_at_call 202;with_reducible refine (zdB 79 a b (by decide) _).mono ?_) | (go_at_call 203;with_reducible refine (zlM a b ha hb _).mono ?_));rintro e w' ⟨rfl,rfl⟩) | fail)
 go_ret2
 exact ⟨rfl,rfl⟩
theorem zoP (a b:Int) (ha:U64 a) (hb:U64 b) (W:World):TW 156 #[.int .i64 80,(.int .u64 a),(.int .u64 b)] W (.tuple #[.int .u64 (minT a b),.bool true]):=by
 have hU:=And.intro ha hb
 clear hU
 go_enter Tryz.func156,Tryz.ntmps156
 go_wp2_with (first | ((first | (go_at_call 202;with_reducible refine (zdB 80 a b (by decide) _).mono ?_) | (go_at_call 203;with_reducible refine (zqZ a b ha hb _).mono ?_));rintro e w' ⟨rfl,rfl⟩) | fail)
 go_ret2
 exact ⟨rfl,rfl⟩
theorem zk0 (a b:Int) (ha:U64 a) (hb:U64 b) (W:World):TW 156 #[.int .i64 81,(.int .u64 a),(.int .u64 b)] W (.tuple #[.int .u64 (maxT a b),.bool true]):=by
 have hU:=And.intro ha hb
 clear hU
 go_enter Tryz.func156,Tryz.ntmps156
 go_wp2_with (first | ((first | (go_at_call 202;with_reducible refine (zdB 81 a b (by decide) _).mono ?_) | (go_at_call 203;with_reducible refine (zsd a b ha hb _).mono ?_));rintro e w' ⟨rfl,rfl⟩) | fail)
 go_ret2
 exact ⟨rfl,rfl⟩
theorem zk6 (a b:Int) (ha:U64 a) (hb:U64 b) (W:World):TW 156 #[.int .i64 82,(.int .u64 a),(.int .u64 b)] W (.tuple #[.int .u64 (minU (lowV a) (lowV b)),.bool true]):=by
 have hU:=And.intro ha hb
 clear hU
 go_enter Tryz.func156,Tryz.ntmps156
 go_wp2_with (first | ((first | (go_at_call 202;with_reducible refine (zdB 82 a b (by decide) _).mono ?_) | (go_at_call 203;with_reducible refine (zxA a b ha hb _).mono ?_));rintro e w' ⟨rfl,rfl⟩) | fail)
 go_ret2
 exact ⟨rfl,rfl⟩
theorem znz (a b:Int) (ha:U64 a) (hb:U64 b) (W:World):TW 156 #[.int .i64 83,(.int .u64 a),(.int .u64 b)] W (.tuple #[.int .u64 (maxU (lowV a) (lowV b)),.bool true]):=by
 have hU:=And.intro ha hb
 clear hU
 go_enter Tryz.func156,Tryz.ntmps156
 go_wp2_with (first | ((first | (go_at_call 202;with_reducible refine (zdB 83 a b (by decide) _).mono ?_) | (go_at_call 203;with_reducible refine (zuo a b ha hb _).mono ?_));rintro e w' ⟨rfl,rfl⟩) | fail)
 go_ret2
 exact ⟨rfl,rfl⟩
theorem zvq (op:Int) (a b:Int) (h:∀ k∈([86,87,88,89,90,91,92,93,94,75,76,77,78,79,80,81,82,83]:List Int),op≠k) (W:World):TW 156 #[.int .i64 op,(.int .u64 a),(.int .u64 b)] W (.tuple #[.int .u64 0,.bool false]):=by
 have h1:=hid (zfx h (M:=[86,87,88,89,90,91,92,93,94]) (by decide))
 have h2:=hid (zfx h (M:=[75,76,77,78,79,80,81,82,83]) (by decide))
 clear h
 go_enter Tryz.func156,Tryz.ntmps156
 go_wp2_with (first | ((first | (go_at_call 202;with_reducible refine (zdB op a b h1.out _).mono ?_) | (go_at_call 203;with_reducible refine (zvE op a b h2.out _).mono ?_));rintro e w' ⟨rfl,rfl⟩) | fail)
 go_ret2
 exact ⟨rfl,rfl⟩
theorem zok (a b:Int) (W:World):TW 101 #[.int .i64 5,(.int .u64 a),(.int .u64 b)] W (.tuple #[.bool (a==b),.bool true]):=by
 go_enter Tryz.func101,Tryz.ntmps101
 go_wp2
 go_ret2
 exact ⟨rfl,rfl⟩
theorem zyb (a b:Int) (W:World):TW 101 #[.int .i64 6,(.int .u64 a),(.int .u64 b)] W (.tuple #[.bool (a != b),.bool true]):=by
 go_enter Tryz.func101,Tryz.ntmps101
 go_wp2
 go_ret2
 exact ⟨rfl,rfl⟩
theorem zxP (a b:Int) (W:World):TW 101 #[.int .i64 7,(.int .u64 a),(.int .u64 b)] W (.tuple #[.bool (decide (wrap64 a<wrap64 b)),.bool true]):=by
 go_enter Tryz.func101,Tryz.ntmps101
 go_wp2_with (first | (go_at_call 137;(with_reducible refine (zeZ _ _ _).mono ?_);rintro e w' ⟨rfl,rfl⟩) | fail)
 go_ret2
 exact ⟨rfl,rfl⟩
theorem zsL (a b:Int) (W:World):TW 101 #[.int .i64 8,(.int .u64 a),(.int .u64 b)] W (.tuple #[.bool (!decide (wrap64 a<wrap64 b)),.bool true]):=by
 go_enter Tryz.func101,Tryz.ntmps101
 go_wp2_with (first | (go_at_call 137;(with_reducible refine (zeZ _ _ _).mono ?_);rintro e w' ⟨rfl,rfl⟩) | fail)
 go_ret2
 exact ⟨rfl,rfl⟩
theorem ztV (a b:Int) (W:World):TW 101 #[.int .i64 9,(.int .u64 a),(.int .u64 b)] W (.tuple #[.bool (decide (a<b)),.bool true]):=by
 go_enter Tryz.func101,Tryz.ntmps101
 go_wp2
 go_ret2
 exact ⟨rfl,rfl⟩
theorem zuI (a b:Int) (W:World):TW 101 #[.int .i64 10,(.int .u64 a),(.int .u64 b)] W (.tuple #[.bool (decide (b≤a)),.bool true]):=by
 go_enter Tryz.func101,Tryz.ntmps101
 go_wp2
 go_ret2
 exact ⟨rfl,rfl⟩
theorem zoV (op:Int) (a b:Int) (h:∀ k∈([5,6,7,8,9,10]:List Int),op≠k) (W:World):TW 101 #[.int .i64 op,(.int .u64 a),(.int .u64 b)] W (.tuple #[.bool false,.bool false]):=by
 have g5:(op==5)=false:=by rw [beq_eq_false_iff_ne];exact h 5 (by decide)
 have g6:(op==6)=false:=by rw [beq_eq_false_iff_ne];exact h 6 (by decide)
 have g7:(op==7)=false:=by rw [beq_eq_false_iff_ne];exact h 7 (by decide)
 have g8:(op==8)=false:=by rw [beq_eq_false_iff_ne];exact h 8 (by decide)
 have g9:(op==9)=false:=by rw [beq_eq_false_iff_ne];exact h 9 (by decide)
 have g10:(op==10)=false:=by rw [beq_eq_false_iff_ne];exact h 10 (by decide)
 clear h
 go_enter Tryz.func101,Tryz.ntmps101
 go_wp2
 go_ret2
 exact ⟨rfl,rfl⟩
end Go.Proofs.YtplcfdnfeclpmaaGreatDoor.Al
