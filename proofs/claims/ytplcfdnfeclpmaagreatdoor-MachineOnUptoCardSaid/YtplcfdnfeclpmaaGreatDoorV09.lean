/- MachineOn, part 9. -/
import Derived.Test.YtplcfdnfeclpmaaGreatDoorV08
set_option maxHeartbeats 4000000
set_option maxRecDepth 100000
set_option linter.unusedVariables false
open Go.Lib (hid)
open Go Go.RowKit Go.Deep Go.Joins Go.Proofs.Tryz
namespace Go.Proofs.YtplcfdnfeclpmaaGreatDoor.Al
def minU (a b:Int):Int:=if a<b then a else b
def maxU (a b:Int):Int:=if b<a then a else b
def minS (a b:Int):Int:=if wrap64 a<wrap64 b then a else b
def maxS (a b:Int):Int:=if wrap64 b<wrap64 a then a else b
def minT (a b:Int):Int:=if wrap32 a<wrap32 b then lowV a else lowV b
def maxT (a b:Int):Int:=if wrap32 b<wrap32 a then lowV a else lowV b
theorem zjj (a b:Int) (h:b<a):b=minU a b:=by
 unfold minU
 split <;> omega
theorem zkQ (a b:Int) (h:a≤b):a=minU a b:=by
 unfold minU
 split <;> omega
theorem zi1 (a b:Int) (h:a<b):b=maxU a b:=by
 unfold maxU
 split <;> omega
theorem zjx (a b:Int) (h:b≤a):a=maxU a b:=by
 unfold maxU
 split <;> omega
theorem zsf (a b:Int) (ha:U64 a) (hb:U64 b) (h:wrap64 b<wrap64 a):IntKind.u64.wrap (wrap64 b)=minS a b:=by
 unfold minS;have A:=S_eq a;have B:=S_eq b;have ha1:=ha.1;have ha2:=ha.2;have hb1:=hb.1;have hb2:=hb.2;simp only [IntKind.wrap_u64]
 split <;> omega
theorem zxR (a b:Int) (ha:U64 a) (hb:U64 b) (h:wrap64 a≤wrap64 b):IntKind.u64.wrap (wrap64 a)=minS a b:=by
 unfold minS;have A:=S_eq a;have B:=S_eq b;have ha1:=ha.1;have ha2:=ha.2;have hb1:=hb.1;have hb2:=hb.2;simp only [IntKind.wrap_u64]
 split <;> omega
theorem zv5 (a b:Int) (ha:U64 a) (hb:U64 b) (h:wrap64 a<wrap64 b):IntKind.u64.wrap (wrap64 b)=maxS a b:=by
 unfold maxS;have A:=S_eq a;have B:=S_eq b;have ha1:=ha.1;have ha2:=ha.2;have hb1:=hb.1;have hb2:=hb.2;simp only [IntKind.wrap_u64]
 split <;> omega
theorem zs0 (a b:Int) (ha:U64 a) (hb:U64 b) (h:wrap64 b≤wrap64 a):IntKind.u64.wrap (wrap64 a)=maxS a b:=by
 unfold maxS;have A:=S_eq a;have B:=S_eq b;have ha1:=ha.1;have ha2:=ha.2;have hb1:=hb.1;have hb2:=hb.2;simp only [IntKind.wrap_u64]
 split <;> omega
theorem zru (a b:Int) (h:wrap32 b<wrap32 a):wrap32 b % 4294967296=minT a b:=by
 unfold minT;have A:=T_eq a;have B:=T_eq b;simp only [zeJ]
 split <;> omega
theorem zxM (a b:Int) (h:wrap32 a≤wrap32 b):wrap32 a % 4294967296=minT a b:=by
 unfold minT;have A:=T_eq a;have B:=T_eq b;simp only [zeJ]
 split <;> omega
theorem zAy (a b:Int) (h:wrap32 a<wrap32 b):wrap32 b % 4294967296=maxT a b:=by
 unfold maxT;have A:=T_eq a;have B:=T_eq b;simp only [zeJ]
 split <;> omega
theorem zsq (a b:Int) (h:wrap32 b≤wrap32 a):wrap32 a % 4294967296=maxT a b:=by
 unfold maxT;have A:=T_eq a;have B:=T_eq b;simp only [zeJ]
 split <;> omega
theorem zvC (a b:Int) (ha:U64 a) (hb:U64 b) (W:World):TW 115 #[.int .i64 31,(.int .u64 a),(.int .u64 b)] W (.tuple #[.int .u64 (uV (a+b)),.bool true]):=by
 go_enter func115,ntmps115;go_wp2_with (go_at_call 157;with_reducible refine (zsa a b ha hb _).tq ?_);go_ret2;exact ⟨rfl,rfl⟩
theorem zi0 (a b:Int) (ha:U64 a) (hb:U64 b) (W:World):TW 115 #[.int .i64 22,(.int .u64 a),(.int .u64 b)] W (.tuple #[.int .u64 (uV (a+b)),.bool true]):=by
 go_enter func115,ntmps115;go_wp2_with (go_at_call 157;with_reducible refine (zum a b ha hb _).tq ?_);go_ret2;exact ⟨rfl,rfl⟩
theorem zvm (a b:Int) (ha:U64 a) (hb:U64 b) (W:World):TW 115 #[.int .i64 32,(.int .u64 a),(.int .u64 b)] W (.tuple #[.int .u64 (uV (a - b)),.bool true]):=by
 go_enter func115,ntmps115;go_wp2_with (go_at_call 157;with_reducible refine (zAJ a b ha hb _).tq ?_);go_ret2;exact ⟨rfl,rfl⟩
theorem zwT (a b:Int) (ha:U64 a) (hb:U64 b) (W:World):TW 115 #[.int .i64 33,(.int .u64 a),(.int .u64 b)] W (.tuple #[.int .u64 (uV (a*2 ^ (b % 64).toNat)),.bool true]):=by
 go_enter func115,ntmps115;go_wp2_with (go_at_call 157;with_reducible refine (zrK a b ha hb _).tq ?_);go_ret2;exact ⟨rfl,rfl⟩
theorem zov (a b:Int) (ha:U64 a) (hb:U64 b) (W:World):TW 115 #[.int .i64 28,(.int .u64 a),(.int .u64 b)] W (.tuple #[.int .u64 (uV (a*2 ^ (b % 64).toNat)),.bool true]):=by
 go_enter func115,ntmps115;go_wp2_with (go_at_call 157;with_reducible refine (zwA a b ha hb _).tq ?_);go_ret2;exact ⟨rfl,rfl⟩
theorem zlK (a b:Int) (ha:U64 a) (hb:U64 b) (W:World):TW 115 #[.int .i64 37,(.int .u64 a),(.int .u64 b)] W (.tuple #[.int .u64 (a / 2 ^ (b % 64).toNat),.bool true]):=by
 go_enter func115,ntmps115;go_wp2_with (go_at_call 157;with_reducible refine (zyT a b ha hb _).tq ?_);go_ret2;exact ⟨rfl,rfl⟩
theorem zwf (a b:Int) (ha:U64 a) (hb:U64 b) (W:World):TW 115 #[.int .i64 29,(.int .u64 a),(.int .u64 b)] W (.tuple #[.int .u64 (a / 2 ^ (b % 64).toNat),.bool true]):=by
 go_enter func115,ntmps115;go_wp2_with (go_at_call 157;with_reducible refine (zzN a b ha hb _).tq ?_);go_ret2;exact ⟨rfl,rfl⟩
theorem zpy (a b:Int) (ha:U64 a) (hb:U64 b) (W:World):TW 115 #[.int .i64 38,(.int .u64 a),(.int .u64 b)] W (.tuple #[.int .u64 (uV (wrap64 a / 2 ^ (b % 64).toNat)),.bool true]):=by
 go_enter func115,ntmps115;go_wp2_with (go_at_call 157;with_reducible refine (zsz a b ha hb _).tq ?_);go_ret2;exact ⟨rfl,rfl⟩
theorem zzq (a b:Int) (ha:U64 a) (hb:U64 b) (W:World):TW 115 #[.int .i64 30,(.int .u64 a),(.int .u64 b)] W (.tuple #[.int .u64 (uV (wrap64 a / 2 ^ (b % 64).toNat)),.bool true]):=by
 go_enter func115,ntmps115;go_wp2_with (go_at_call 157;with_reducible refine (zm1 a b ha hb _).tq ?_);go_ret2;exact ⟨rfl,rfl⟩
theorem zs5 (a b:Int) (ha:U64 a) (hb:U64 b) (W:World):TW 115 #[.int .i64 34,(.int .u64 a),(.int .u64 b)] W (.tuple #[.int .u64 (oneV (decide (wrap64 a<wrap64 b))),.bool true]):=by
 go_enter func115,ntmps115;go_wp2_with (go_at_call 157;with_reducible refine (zxa a b ha hb _).tq ?_);go_ret2;exact ⟨rfl,rfl⟩
theorem zu5 (a b:Int) (ha:U64 a) (hb:U64 b) (W:World):TW 115 #[.int .i64 23,(.int .u64 a),(.int .u64 b)] W (.tuple #[.int .u64 (oneV (decide (wrap64 a<wrap64 b))),.bool true]):=by
 go_enter func115,ntmps115;go_wp2_with (go_at_call 157;with_reducible refine (zoB a b ha hb _).tq ?_);go_ret2;exact ⟨rfl,rfl⟩
theorem zrv (a b:Int) (ha:U64 a) (hb:U64 b) (W:World):TW 115 #[.int .i64 35,(.int .u64 a),(.int .u64 b)] W (.tuple #[.int .u64 (oneV (decide (a<b))),.bool true]):=by
 go_enter func115,ntmps115;go_wp2_with (go_at_call 157;with_reducible refine (zpu a b ha hb _).tq ?_);go_ret2;exact ⟨rfl,rfl⟩
theorem zpv (a b:Int) (ha:U64 a) (hb:U64 b) (W:World):TW 115 #[.int .i64 24,(.int .u64 a),(.int .u64 b)] W (.tuple #[.int .u64 (oneV (decide (a<b))),.bool true]):=by
 go_enter func115,ntmps115;go_wp2_with (go_at_call 157;with_reducible refine (zx8 a b ha hb _).tq ?_);go_ret2;exact ⟨rfl,rfl⟩
theorem ztW (a b:Int) (ha:U64 a) (hb:U64 b) (W:World):TW 115 #[.int .i64 36,(.int .u64 a),(.int .u64 b)] W (.tuple #[.int .u64 (bits .xor .u64 a b),.bool true]):=by
 go_enter func115,ntmps115;go_wp2_with (go_at_call 157;with_reducible refine (zql a b ha hb _).tq ?_);go_ret2;exact ⟨rfl,rfl⟩
theorem zsg (a b:Int) (ha:U64 a) (hb:U64 b) (W:World):TW 115 #[.int .i64 25,(.int .u64 a),(.int .u64 b)] W (.tuple #[.int .u64 (bits .xor .u64 a b),.bool true]):=by
 go_enter func115,ntmps115;go_wp2_with (go_at_call 157;with_reducible refine (zmS a b ha hb _).tq ?_);go_ret2;exact ⟨rfl,rfl⟩
theorem zoF (a b:Int) (ha:U64 a) (hb:U64 b) (W:World):TW 115 #[.int .i64 39,(.int .u64 a),(.int .u64 b)] W (.tuple #[.int .u64 (bits .or .u64 a b),.bool true]):=by
 go_enter func115,ntmps115;go_wp2_with (go_at_call 157;with_reducible refine (zol a b ha hb _).tq ?_);go_ret2;exact ⟨rfl,rfl⟩
theorem zro (a b:Int) (ha:U64 a) (hb:U64 b) (W:World):TW 115 #[.int .i64 26,(.int .u64 a),(.int .u64 b)] W (.tuple #[.int .u64 (bits .or .u64 a b),.bool true]):=by
 go_enter func115,ntmps115;go_wp2_with (go_at_call 157;with_reducible refine (zxN a b ha hb _).tq ?_);go_ret2;exact ⟨rfl,rfl⟩
theorem zyq (a b:Int) (ha:U64 a) (hb:U64 b) (W:World):TW 115 #[.int .i64 40,(.int .u64 a),(.int .u64 b)] W (.tuple #[.int .u64 (bits .and .u64 a b),.bool true]):=by
 go_enter func115,ntmps115;go_wp2_with (go_at_call 157;with_reducible refine (zAv a b ha hb _).tq ?_);go_ret2;exact ⟨rfl,rfl⟩
theorem zwM (a b:Int) (ha:U64 a) (hb:U64 b) (W:World):TW 115 #[.int .i64 27,(.int .u64 a),(.int .u64 b)] W (.tuple #[.int .u64 (bits .and .u64 a b),.bool true]):=by
 go_enter func115,ntmps115;go_wp2_with (go_at_call 157;with_reducible refine (zts a b ha hb _).tq ?_);go_ret2;exact ⟨rfl,rfl⟩
theorem zoG (a b:Int) (ha:U64 a) (hb:U64 b) (W:World):TW 115 #[.int .i64 60,(.int .u64 a),(.int .u64 b)] W (.tuple #[.int .u64 (uV (a*b)),.bool true]):=by
 go_enter func115,ntmps115;go_wp2_with ((first | (go_at_call 157;with_reducible refine (zbZ 60 a b (by decide) _).tq ?_) | (go_at_call 158;with_reducible refine (zoz a b ha hb _).tq ?_)));go_ret2;exact ⟨rfl,rfl⟩
theorem zoC (a b:Int) (ha:U64 a) (hb:U64 b) (W:World):TW 115 #[.int .i64 61,(.int .u64 a),(.int .u64 b)] W (.tuple #[.int .u64 (uV (a*b / 18446744073709551616 - zey a b - zey b a)),.bool true]):=by
 go_enter func115,ntmps115;go_wp2_with ((first | (go_at_call 157;with_reducible refine (zbZ 61 a b (by decide) _).tq ?_) | (go_at_call 158;with_reducible refine (zrU a b ha hb _).tq ?_)));go_ret2;exact ⟨rfl,rfl⟩
theorem zrH (a b:Int) (ha:U64 a) (hb:U64 b) (W:World):TW 115 #[.int .i64 62,(.int .u64 a),(.int .u64 b)] W (.tuple #[.int .u64 (uV (a*b / 18446744073709551616 - zey a b)),.bool true]):=by
 go_enter func115,ntmps115;go_wp2_with ((first | (go_at_call 157;with_reducible refine (zbZ 62 a b (by decide) _).tq ?_) | (go_at_call 158;with_reducible refine (zsi a b ha hb _).tq ?_)));go_ret2;exact ⟨rfl,rfl⟩
theorem ztA (a b:Int) (ha:U64 a) (hb:U64 b) (W:World):TW 115 #[.int .i64 63,(.int .u64 a),(.int .u64 b)] W (.tuple #[.int .u64 (a*b / 18446744073709551616),.bool true]):=by
 go_enter func115,ntmps115;go_wp2_with ((first | (go_at_call 157;with_reducible refine (zbZ 63 a b (by decide) _).tq ?_) | (go_at_call 158;with_reducible refine (zl6 a b ha hb _).tq ?_)));go_ret2;exact ⟨rfl,rfl⟩
theorem zu9 (a b:Int) (ha:U64 a) (hb:U64 b) (W:World):TW 115 #[.int .i64 64,(.int .u64 a),(.int .u64 b)] W (.tuple #[.int .u64 (qsV a b),.bool true]):=by
 go_enter func115,ntmps115;go_wp2_with ((first | (go_at_call 157;with_reducible refine (zbZ 64 a b (by decide) _).tq ?_) | (go_at_call 158;with_reducible refine (zmw a b ha hb _).tq ?_)));go_ret2;exact ⟨rfl,rfl⟩
theorem ztp (a b:Int) (ha:U64 a) (hb:U64 b) (W:World):TW 115 #[.int .i64 65,(.int .u64 a),(.int .u64 b)] W (.tuple #[.int .u64 (quV a b),.bool true]):=by
 go_enter func115,ntmps115;go_wp2_with ((first | (go_at_call 157;with_reducible refine (zbZ 65 a b (by decide) _).tq ?_) | (go_at_call 158;with_reducible refine (zm8 a b ha hb _).tq ?_)));go_ret2;exact ⟨rfl,rfl⟩
theorem zlF (a b:Int) (ha:U64 a) (hb:U64 b) (W:World):TW 115 #[.int .i64 66,(.int .u64 a),(.int .u64 b)] W (.tuple #[.int .u64 (rsV a b),.bool true]):=by
 go_enter func115,ntmps115;go_wp2_with ((first | (go_at_call 157;with_reducible refine (zbZ 66 a b (by decide) _).tq ?_) | (go_at_call 158;with_reducible refine (zpo a b ha hb _).tq ?_)));go_ret2;exact ⟨rfl,rfl⟩
theorem zvj (a b:Int) (ha:U64 a) (hb:U64 b) (W:World):TW 115 #[.int .i64 67,(.int .u64 a),(.int .u64 b)] W (.tuple #[.int .u64 (reV a b),.bool true]):=by
 go_enter func115,ntmps115;go_wp2_with ((first | (go_at_call 157;with_reducible refine (zbZ 67 a b (by decide) _).tq ?_) | (go_at_call 158;with_reducible refine (zw4 a b ha hb _).tq ?_)));go_ret2;exact ⟨rfl,rfl⟩
theorem znb (a b:Int) (ha:U64 a) (hb:U64 b) (W:World):TW 115 #[.int .i64 45,(.int .u64 a),(.int .u64 b)] W (.tuple #[.int .u64 (za3 (a+b)),.bool true]):=by
 go_enter func115,ntmps115;go_wp2_with ((first | (go_at_call 157;with_reducible refine (zbZ 45 a b (by decide) _).tq ?_) | (go_at_call 158;with_reducible refine (zcR 45 a b (by decide) _).tq ?_) | (go_at_call 159;with_reducible refine (zxk a b ha hb _).tq ?_)));go_ret2;exact ⟨rfl,rfl⟩
theorem zyu (a b:Int) (ha:U64 a) (hb:U64 b) (W:World):TW 115 #[.int .i64 41,(.int .u64 a),(.int .u64 b)] W (.tuple #[.int .u64 (za3 (a+b)),.bool true]):=by
 go_enter func115,ntmps115;go_wp2_with ((first | (go_at_call 157;with_reducible refine (zbZ 41 a b (by decide) _).tq ?_) | (go_at_call 158;with_reducible refine (zcR 41 a b (by decide) _).tq ?_) | (go_at_call 159;with_reducible refine (zna a b ha hb _).tq ?_)));go_ret2;exact ⟨rfl,rfl⟩
theorem zzb (a b:Int) (ha:U64 a) (hb:U64 b) (W:World):TW 115 #[.int .i64 46,(.int .u64 a),(.int .u64 b)] W (.tuple #[.int .u64 (za3 (a - b)),.bool true]):=by
 go_enter func115,ntmps115;go_wp2_with ((first | (go_at_call 157;with_reducible refine (zbZ 46 a b (by decide) _).tq ?_) | (go_at_call 158;with_reducible refine (zcR 46 a b (by decide) _).tq ?_) | (go_at_call 159;with_reducible refine (zvA a b ha hb _).tq ?_)));go_ret2;exact ⟨rfl,rfl⟩
theorem zpG (a b:Int) (ha:U64 a) (hb:U64 b) (W:World):TW 115 #[.int .i64 68,(.int .u64 a),(.int .u64 b)] W (.tuple #[.int .u64 (za3 (a*b)),.bool true]):=by
 go_enter func115,ntmps115;go_wp2_with ((first | (go_at_call 157;with_reducible refine (zbZ 68 a b (by decide) _).tq ?_) | (go_at_call 158;with_reducible refine (zcR 68 a b (by decide) _).tq ?_) | (go_at_call 159;with_reducible refine (zmY a b ha hb _).tq ?_)));go_ret2;exact ⟨rfl,rfl⟩
theorem zup (a b:Int) (ha:U64 a) (hb:U64 b) (W:World):TW 115 #[.int .i64 47,(.int .u64 a),(.int .u64 b)] W (.tuple #[.int .u64 (za3 (a*2 ^ (b % 32).toNat)),.bool true]):=by
 go_enter func115,ntmps115;go_wp2_with ((first | (go_at_call 157;with_reducible refine (zbZ 47 a b (by decide) _).tq ?_) | (go_at_call 158;with_reducible refine (zcR 47 a b (by decide) _).tq ?_) | (go_at_call 159;with_reducible refine (ztr a b ha hb _).tq ?_)));go_ret2;exact ⟨rfl,rfl⟩
theorem zvS (a b:Int) (ha:U64 a) (hb:U64 b) (W:World):TW 115 #[.int .i64 42,(.int .u64 a),(.int .u64 b)] W (.tuple #[.int .u64 (za3 (a*2 ^ (b % 32).toNat)),.bool true]):=by
 go_enter func115,ntmps115;go_wp2_with ((first | (go_at_call 157;with_reducible refine (zbZ 42 a b (by decide) _).tq ?_) | (go_at_call 158;with_reducible refine (zcR 42 a b (by decide) _).tq ?_) | (go_at_call 159;with_reducible refine (zmC a b ha hb _).tq ?_)));go_ret2;exact ⟨rfl,rfl⟩
theorem zmn (a b:Int) (ha:U64 a) (hb:U64 b) (W:World):TW 115 #[.int .i64 48,(.int .u64 a),(.int .u64 b)] W (.tuple #[.int .u64 (za3 (lowV a / 2 ^ (b % 32).toNat)),.bool true]):=by
 go_enter func115,ntmps115;go_wp2_with ((first | (go_at_call 157;with_reducible refine (zbZ 48 a b (by decide) _).tq ?_) | (go_at_call 158;with_reducible refine (zcR 48 a b (by decide) _).tq ?_) | (go_at_call 159;with_reducible refine (zxS a b ha hb _).tq ?_)));go_ret2;exact ⟨rfl,rfl⟩
theorem znI (a b:Int) (ha:U64 a) (hb:U64 b) (W:World):TW 115 #[.int .i64 43,(.int .u64 a),(.int .u64 b)] W (.tuple #[.int .u64 (za3 (lowV a / 2 ^ (b % 32).toNat)),.bool true]):=by
 go_enter func115,ntmps115;go_wp2_with ((first | (go_at_call 157;with_reducible refine (zbZ 43 a b (by decide) _).tq ?_) | (go_at_call 158;with_reducible refine (zcR 43 a b (by decide) _).tq ?_) | (go_at_call 159;with_reducible refine (zzR a b ha hb _).tq ?_)));go_ret2;exact ⟨rfl,rfl⟩
theorem zre (a b:Int) (ha:U64 a) (hb:U64 b) (W:World):TW 115 #[.int .i64 49,(.int .u64 a),(.int .u64 b)] W (.tuple #[.int .u64 (uV (wrap32 a / 2 ^ (b % 32).toNat)),.bool true]):=by
 go_enter func115,ntmps115;go_wp2_with ((first | (go_at_call 157;with_reducible refine (zbZ 49 a b (by decide) _).tq ?_) | (go_at_call 158;with_reducible refine (zcR 49 a b (by decide) _).tq ?_) | (go_at_call 159;with_reducible refine (zvW a b ha hb _).tq ?_)));go_ret2;exact ⟨rfl,rfl⟩
theorem zwV (a b:Int) (ha:U64 a) (hb:U64 b) (W:World):TW 115 #[.int .i64 44,(.int .u64 a),(.int .u64 b)] W (.tuple #[.int .u64 (uV (wrap32 a / 2 ^ (b % 32).toNat)),.bool true]):=by
 go_enter func115,ntmps115;go_wp2_with ((first | (go_at_call 157;with_reducible refine (zbZ 44 a b (by decide) _).tq ?_) | (go_at_call 158;with_reducible refine (zcR 44 a b (by decide) _).tq ?_) | (go_at_call 159;with_reducible refine (zu4 a b ha hb _).tq ?_)));go_ret2;exact ⟨rfl,rfl⟩
theorem zzU (a b:Int) (ha:U64 a) (hb:U64 b) (W:World):TW 115 #[.int .i64 69,(.int .u64 a),(.int .u64 b)] W (.tuple #[.int .u64 (za3 (qsV (za3 a) (za3 b))),.bool true]):=by
 go_enter func115,ntmps115;go_wp2_with ((first | (go_at_call 157;with_reducible refine (zbZ 69 a b (by decide) _).tq ?_) | (go_at_call 158;with_reducible refine (zcR 69 a b (by decide) _).tq ?_) | (go_at_call 159;with_reducible refine (znQ a b ha hb _).tq ?_)));go_ret2;exact ⟨rfl,rfl⟩
theorem zm3 (a b:Int) (ha:U64 a) (hb:U64 b) (W:World):TW 115 #[.int .i64 70,(.int .u64 a),(.int .u64 b)] W (.tuple #[.int .u64 (za3 (quV (lowV a) (lowV b))),.bool true]):=by
 go_enter func115,ntmps115;go_wp2_with ((first | (go_at_call 157;with_reducible refine (zbZ 70 a b (by decide) _).tq ?_) | (go_at_call 158;with_reducible refine (zcR 70 a b (by decide) _).tq ?_) | (go_at_call 159;with_reducible refine (zyR a b ha hb _).tq ?_)));go_ret2;exact ⟨rfl,rfl⟩
theorem zoZ (a b:Int) (ha:U64 a) (hb:U64 b) (W:World):TW 115 #[.int .i64 71,(.int .u64 a),(.int .u64 b)] W (.tuple #[.int .u64 (za3 (rsV (za3 a) (za3 b))),.bool true]):=by
 go_enter func115,ntmps115;go_wp2_with ((first | (go_at_call 157;with_reducible refine (zbZ 71 a b (by decide) _).tq ?_) | (go_at_call 158;with_reducible refine (zcR 71 a b (by decide) _).tq ?_) | (go_at_call 159;with_reducible refine (ztH a b ha hb _).tq ?_)));go_ret2;exact ⟨rfl,rfl⟩
theorem zor (a b:Int) (ha:U64 a) (hb:U64 b) (W:World):TW 115 #[.int .i64 72,(.int .u64 a),(.int .u64 b)] W (.tuple #[.int .u64 (za3 (reV (lowV a) (lowV b))),.bool true]):=by
 go_enter func115,ntmps115;go_wp2_with ((first | (go_at_call 157;with_reducible refine (zbZ 72 a b (by decide) _).tq ?_) | (go_at_call 158;with_reducible refine (zcR 72 a b (by decide) _).tq ?_) | (go_at_call 159;with_reducible refine (zvk a b ha hb _).tq ?_)));go_ret2;exact ⟨rfl,rfl⟩
theorem zfy {op:Int} {L M:List Int} (h:∀ k∈L,op≠k) (g:∀ k∈M,k∈L):∀ k∈M,op≠k:=fun k hk=>h k (g k hk)
theorem zqF (op:Int) (a b:Int) (h:∀ k∈([31,22,32,33,28,37,29,38,30,34,23,35,24,36,25,39,26,40,27,60,61,62,63,64,65,66,67,45,41,46,68,47,42,48,43,49,44,69,70,71,72]:List Int),op≠k) (W:World):TW 115 #[.int .i64 op,(.int .u64 a),(.int .u64 b)] W (.tuple #[.int .u64 0,.bool false]):=by
 have h1:=hid (zfy h (M:=[31,22,32,33,28,37,29,38,30,34,23,35,24,36,25,39,26,40,27]) (by decide));have h2:=hid (zfy h (M:=[60,61,62,63,64,65,66,67]) (by decide));have h3:=hid (zfy h (M:=[45,41,46,68,47,42,48,43,49,44,69,70,71,72]) (by decide));clear h;go_enter func115,ntmps115;go_wp2_with ((first | (go_at_call 157;with_reducible refine (zbZ op a b h1.out _).tq ?_) | (go_at_call 158;with_reducible refine (zcR op a b h2.out _).tq ?_) | (go_at_call 159;with_reducible refine (zmk op a b h3.out _).tq ?_)));go_ret2;exact ⟨rfl,rfl⟩
theorem zwd (a b:Int) (ha:U64 a) (hb:U64 b) (W:World):TW 202 #[.int .i64 86,(.int .u64 a),(.int .u64 b)] W (.tuple #[.int .u64 b,.bool true]):=by
 go_enter func202,ntmps202
 go_wp2
 go_ret2;exact ⟨rfl,rfl⟩
theorem zqL (a b:Int) (ha:U64 a) (hb:U64 b) (W:World):TW 202 #[.int .i64 87,(.int .u64 a),(.int .u64 b)] W (.tuple #[.int .u64 (uV (a+b)),.bool true]):=by
 go_enter func202,ntmps202
 go_wp2
 go_ret2;exact ⟨rfl,rfl⟩
theorem zxF (a b:Int) (ha:U64 a) (hb:U64 b) (W:World):TW 202 #[.int .i64 88,(.int .u64 a),(.int .u64 b)] W (.tuple #[.int .u64 (bits .xor .u64 a b),.bool true]):=by
 go_enter func202,ntmps202
 go_wp2
 go_ret2;exact ⟨rfl,rfl⟩
theorem zAF (a b:Int) (ha:U64 a) (hb:U64 b) (W:World):TW 202 #[.int .i64 89,(.int .u64 a),(.int .u64 b)] W (.tuple #[.int .u64 (bits .and .u64 a b),.bool true]):=by
 go_enter func202,ntmps202
 go_wp2
 go_ret2;exact ⟨rfl,rfl⟩
theorem zpO (a b:Int) (ha:U64 a) (hb:U64 b) (W:World):TW 202 #[.int .i64 90,(.int .u64 a),(.int .u64 b)] W (.tuple #[.int .u64 (bits .or .u64 a b),.bool true]):=by
 go_enter func202,ntmps202
 go_wp2
 go_ret2;exact ⟨rfl,rfl⟩
theorem zr1 (a b:Int) (ha:U64 a) (hb:U64 b) (W:World):TW 202 #[.int .i64 91,(.int .u64 a),(.int .u64 b)] W (.tuple #[.int .u64 (minS a b),.bool true]):=by
 by_cases h:wrap64 b<wrap64 a
 ·go_enter func202,ntmps202
  go_wp2
  go_ret2;exact ⟨zaP (zsf a b ha hb h) rfl,rfl⟩
 ·have h:=Int.not_lt.mp h
  go_enter func202,ntmps202
  go_wp2
  go_ret2;exact ⟨zaP (zxR a b ha hb h) rfl,rfl⟩
theorem zmX (a b:Int) (ha:U64 a) (hb:U64 b) (W:World):TW 202 #[.int .i64 92,(.int .u64 a),(.int .u64 b)] W (.tuple #[.int .u64 (maxS a b),.bool true]):=by
 by_cases h:wrap64 a<wrap64 b
 ·go_enter func202,ntmps202
  go_wp2
  go_ret2;exact ⟨zaP (zv5 a b ha hb h) rfl,rfl⟩
 ·have h:=Int.not_lt.mp h
  go_enter func202,ntmps202
  go_wp2
  go_ret2;exact ⟨zaP (zs0 a b ha hb h) rfl,rfl⟩
theorem zxG (a b:Int) (ha:U64 a) (hb:U64 b) (W:World):TW 202 #[.int .i64 93,(.int .u64 a),(.int .u64 b)] W (.tuple #[.int .u64 (minU a b),.bool true]):=by
 by_cases h:b<a
 ·go_enter func202,ntmps202
  go_wp2
  go_ret2;exact ⟨zaP (zjj a b h) rfl,rfl⟩
 ·have h:=Int.not_lt.mp h
  go_enter func202,ntmps202
  go_wp2
  go_ret2;exact ⟨zaP (zkQ a b h) rfl,rfl⟩
theorem zvV (a b:Int) (ha:U64 a) (hb:U64 b) (W:World):TW 202 #[.int .i64 94,(.int .u64 a),(.int .u64 b)] W (.tuple #[.int .u64 (maxU a b),.bool true]):=by
 by_cases h:a<b
 ·go_enter func202,ntmps202
  go_wp2
  go_ret2;exact ⟨zaP (zi1 a b h) rfl,rfl⟩
 ·have h:=Int.not_lt.mp h
  go_enter func202,ntmps202
  go_wp2
  go_ret2;exact ⟨zaP (zjx a b h) rfl,rfl⟩
theorem zdU (op:Int) (a b:Int) (h:∀ k∈([86,87,88,89,90,91,92,93,94]:List Int),op≠k) (W:World):TW 202 #[.int .i64 op,(.int .u64 a),(.int .u64 b)] W (.tuple #[.int .u64 0,.bool false]):=by
 have g86:(op==86)=false:=by rw [beq_eq_false_iff_ne];exact h 86 (by decide)
 have g87:(op==87)=false:=by rw [beq_eq_false_iff_ne];exact h 87 (by decide)
 have g88:(op==88)=false:=by rw [beq_eq_false_iff_ne];exact h 88 (by decide)
 have g89:(op==89)=false:=by rw [beq_eq_false_iff_ne];exact h 89 (by decide)
 have g90:(op==90)=false:=by rw [beq_eq_false_iff_ne];exact h 90 (by decide)
 have g91:(op==91)=false:=by rw [beq_eq_false_iff_ne];exact h 91 (by decide)
 have g92:(op==92)=false:=by rw [beq_eq_false_iff_ne];exact h 92 (by decide)
 have g93:(op==93)=false:=by rw [beq_eq_false_iff_ne];exact h 93 (by decide)
 have g94:(op==94)=false:=by rw [beq_eq_false_iff_ne];exact h 94 (by decide)
 clear h;go_enter func202,ntmps202
 go_wp2
 go_ret2;exact ⟨rfl,rfl⟩
theorem ztS (a b:Int) (ha:U64 a) (hb:U64 b) (W:World):TW 203 #[.int .i64 75,(.int .u64 a),(.int .u64 b)] W (.tuple #[.int .u64 (lowV b),.bool true]):=by
 go_enter func203,ntmps203;go_wp2_with (go_at_call 211;with_reducible refine (zc9 _ _).tq ?_);go_ret2;exact ⟨rfl,rfl⟩
theorem znM (a b:Int) (ha:U64 a) (hb:U64 b) (W:World):TW 203 #[.int .i64 76,(.int .u64 a),(.int .u64 b)] W (.tuple #[.int .u64 (lowV (a+b)),.bool true]):=by
 go_enter func203,ntmps203;go_wp2_with (go_at_call 211;with_reducible refine (zc9 _ _).tq ?_);go_ret2;refine ⟨zaP ?_ rfl,rfl⟩
 simp only [IntKind.wrap_u64,zeJ]
 try omega
theorem zsA (a b:Int) (ha:U64 a) (hb:U64 b) (W:World):TW 203 #[.int .i64 77,(.int .u64 a),(.int .u64 b)] W (.tuple #[.int .u64 (lowV (bits .xor .u64 a b)),.bool true]):=by
 go_enter func203,ntmps203;go_wp2_with (go_at_call 211;with_reducible refine (zc9 _ _).tq ?_);go_ret2;exact ⟨rfl,rfl⟩
theorem zAa (a b:Int) (ha:U64 a) (hb:U64 b) (W:World):TW 203 #[.int .i64 78,(.int .u64 a),(.int .u64 b)] W (.tuple #[.int .u64 (lowV (bits .and .u64 a b)),.bool true]):=by
 go_enter func203,ntmps203;go_wp2_with (go_at_call 211;with_reducible refine (zc9 _ _).tq ?_);go_ret2;exact ⟨rfl,rfl⟩
theorem ztQ (a b:Int) (ha:U64 a) (hb:U64 b) (W:World):TW 203 #[.int .i64 79,(.int .u64 a),(.int .u64 b)] W (.tuple #[.int .u64 (lowV (bits .or .u64 a b)),.bool true]):=by
 go_enter func203,ntmps203;go_wp2_with (go_at_call 211;with_reducible refine (zc9 _ _).tq ?_);go_ret2;exact ⟨rfl,rfl⟩
theorem zry (a b:Int) (ha:U64 a) (hb:U64 b) (W:World):TW 203 #[.int .i64 80,(.int .u64 a),(.int .u64 b)] W (.tuple #[.int .u64 (minT a b),.bool true]):=by
 by_cases h:wrap32 b<wrap32 a
 ·go_enter func203,ntmps203
  go_wp2
  go_ret2;exact ⟨zaP (zru a b h) rfl,rfl⟩
 ·have h:=Int.not_lt.mp h
  go_enter func203,ntmps203
  go_wp2
  go_ret2;exact ⟨zaP (zxM a b h) rfl,rfl⟩
theorem zzf (a b:Int) (ha:U64 a) (hb:U64 b) (W:World):TW 203 #[.int .i64 81,(.int .u64 a),(.int .u64 b)] W (.tuple #[.int .u64 (maxT a b),.bool true]):=by
 by_cases h:wrap32 a<wrap32 b
 ·go_enter func203,ntmps203
  go_wp2
  go_ret2;exact ⟨zaP (zAy a b h) rfl,rfl⟩
 ·have h:=Int.not_lt.mp h
  go_enter func203,ntmps203
  go_wp2
  go_ret2;exact ⟨zaP (zsq a b h) rfl,rfl⟩
theorem zx4 (a b:Int) (ha:U64 a) (hb:U64 b) (W:World):TW 203 #[.int .i64 82,(.int .u64 a),(.int .u64 b)] W (.tuple #[.int .u64 (minU (lowV a) (lowV b)),.bool true]):=by
 by_cases h:lowV b<lowV a
 ·go_enter func203,ntmps203
  go_wp2_with (go_at_call 211;with_reducible refine (zc9 _ _).tq ?_);go_ret2;exact ⟨zaP (zjj (lowV a) (lowV b) h) rfl,rfl⟩
 ·have h:=Int.not_lt.mp h
  go_enter func203,ntmps203;go_wp2_with (go_at_call 211;with_reducible refine (zc9 _ _).tq ?_);go_ret2;exact ⟨zaP (zkQ (lowV a) (lowV b) h) rfl,rfl⟩
theorem zo0 (a b:Int) (ha:U64 a) (hb:U64 b) (W:World):TW 203 #[.int .i64 83,(.int .u64 a),(.int .u64 b)] W (.tuple #[.int .u64 (maxU (lowV a) (lowV b)),.bool true]):=by
 by_cases h:lowV a<lowV b
 ·go_enter func203,ntmps203
  go_wp2_with (go_at_call 211;with_reducible refine (zc9 _ _).tq ?_);go_ret2;exact ⟨zaP (zi1 (lowV a) (lowV b) h) rfl,rfl⟩
 ·have h:=Int.not_lt.mp h
  go_enter func203,ntmps203;go_wp2_with (go_at_call 211;with_reducible refine (zc9 _ _).tq ?_);go_ret2;exact ⟨zaP (zjx (lowV a) (lowV b) h) rfl,rfl⟩
theorem zlI (op:Int) (a b:Int) (h:∀ k∈([75,76,77,78,79,80,81,82,83]:List Int),op≠k) (W:World):TW 203 #[.int .i64 op,(.int .u64 a),(.int .u64 b)] W (.tuple #[.int .u64 0,.bool false]):=by
 have g75:(op==75)=false:=by rw [beq_eq_false_iff_ne];exact h 75 (by decide)
 have g76:(op==76)=false:=by rw [beq_eq_false_iff_ne];exact h 76 (by decide)
 have g77:(op==77)=false:=by rw [beq_eq_false_iff_ne];exact h 77 (by decide)
 have g78:(op==78)=false:=by rw [beq_eq_false_iff_ne];exact h 78 (by decide)
 have g79:(op==79)=false:=by rw [beq_eq_false_iff_ne];exact h 79 (by decide)
 have g80:(op==80)=false:=by rw [beq_eq_false_iff_ne];exact h 80 (by decide)
 have g81:(op==81)=false:=by rw [beq_eq_false_iff_ne];exact h 81 (by decide)
 have g82:(op==82)=false:=by rw [beq_eq_false_iff_ne];exact h 82 (by decide)
 have g83:(op==83)=false:=by rw [beq_eq_false_iff_ne];exact h 83 (by decide)
 clear h;go_enter func203,ntmps203
 go_wp2
 go_ret2;exact ⟨rfl,rfl⟩
theorem zrg (a b:Int) (ha:U64 a) (hb:U64 b) (W:World):TW 156 #[.int .i64 86,(.int .u64 a),(.int .u64 b)] W (.tuple #[.int .u64 b,.bool true]):=by
 go_enter func156,ntmps156;go_wp2_with (go_at_call 202;with_reducible refine (zwd a b ha hb _).tq ?_);go_ret2;exact ⟨rfl,rfl⟩
theorem zxQ (a b:Int) (ha:U64 a) (hb:U64 b) (W:World):TW 156 #[.int .i64 87,(.int .u64 a),(.int .u64 b)] W (.tuple #[.int .u64 (uV (a+b)),.bool true]):=by
 go_enter func156,ntmps156;go_wp2_with (go_at_call 202;with_reducible refine (zqL a b ha hb _).tq ?_);go_ret2;exact ⟨rfl,rfl⟩
theorem zrG (a b:Int) (ha:U64 a) (hb:U64 b) (W:World):TW 156 #[.int .i64 88,(.int .u64 a),(.int .u64 b)] W (.tuple #[.int .u64 (bits .xor .u64 a b),.bool true]):=by
 go_enter func156,ntmps156;go_wp2_with (go_at_call 202;with_reducible refine (zxF a b ha hb _).tq ?_);go_ret2;exact ⟨rfl,rfl⟩
theorem zsX (a b:Int) (ha:U64 a) (hb:U64 b) (W:World):TW 156 #[.int .i64 89,(.int .u64 a),(.int .u64 b)] W (.tuple #[.int .u64 (bits .and .u64 a b),.bool true]):=by
 go_enter func156,ntmps156;go_wp2_with (go_at_call 202;with_reducible refine (zAF a b ha hb _).tq ?_);go_ret2;exact ⟨rfl,rfl⟩
theorem zrI (a b:Int) (ha:U64 a) (hb:U64 b) (W:World):TW 156 #[.int .i64 90,(.int .u64 a),(.int .u64 b)] W (.tuple #[.int .u64 (bits .or .u64 a b),.bool true]):=by
 go_enter func156,ntmps156;go_wp2_with (go_at_call 202;with_reducible refine (zpO a b ha hb _).tq ?_);go_ret2;exact ⟨rfl,rfl⟩
theorem zr7 (a b:Int) (ha:U64 a) (hb:U64 b) (W:World):TW 156 #[.int .i64 91,(.int .u64 a),(.int .u64 b)] W (.tuple #[.int .u64 (minS a b),.bool true]):=by
 go_enter func156,ntmps156;go_wp2_with (go_at_call 202;with_reducible refine (zr1 a b ha hb _).tq ?_);go_ret2;exact ⟨rfl,rfl⟩
theorem zzc (a b:Int) (ha:U64 a) (hb:U64 b) (W:World):TW 156 #[.int .i64 92,(.int .u64 a),(.int .u64 b)] W (.tuple #[.int .u64 (maxS a b),.bool true]):=by
 go_enter func156,ntmps156;go_wp2_with (go_at_call 202;with_reducible refine (zmX a b ha hb _).tq ?_);go_ret2;exact ⟨rfl,rfl⟩
theorem zpe (a b:Int) (ha:U64 a) (hb:U64 b) (W:World):TW 156 #[.int .i64 93,(.int .u64 a),(.int .u64 b)] W (.tuple #[.int .u64 (minU a b),.bool true]):=by
 go_enter func156,ntmps156;go_wp2_with (go_at_call 202;with_reducible refine (zxG a b ha hb _).tq ?_);go_ret2;exact ⟨rfl,rfl⟩
theorem ztj (a b:Int) (ha:U64 a) (hb:U64 b) (W:World):TW 156 #[.int .i64 94,(.int .u64 a),(.int .u64 b)] W (.tuple #[.int .u64 (maxU a b),.bool true]):=by
 go_enter func156,ntmps156;go_wp2_with (go_at_call 202;with_reducible refine (zvV a b ha hb _).tq ?_);go_ret2;exact ⟨rfl,rfl⟩
theorem znl (a b:Int) (ha:U64 a) (hb:U64 b) (W:World):TW 156 #[.int .i64 75,(.int .u64 a),(.int .u64 b)] W (.tuple #[.int .u64 (lowV b),.bool true]):=by
 go_enter func156,ntmps156;go_wp2_with ((first | (go_at_call 202;with_reducible refine (zdU 75 a b (by decide) _).tq ?_) | (go_at_call 203;with_reducible refine (ztS a b ha hb _).tq ?_)));go_ret2;exact ⟨rfl,rfl⟩
theorem zuX (a b:Int) (ha:U64 a) (hb:U64 b) (W:World):TW 156 #[.int .i64 76,(.int .u64 a),(.int .u64 b)] W (.tuple #[.int .u64 (lowV (a+b)),.bool true]):=by
 go_enter func156,ntmps156;go_wp2_with ((first | (go_at_call 202;with_reducible refine (zdU 76 a b (by decide) _).tq ?_) | (go_at_call 203;with_reducible refine (znM a b ha hb _).tq ?_)));go_ret2;exact ⟨rfl,rfl⟩
theorem zlH (a b:Int) (ha:U64 a) (hb:U64 b) (W:World):TW 156 #[.int .i64 77,(.int .u64 a),(.int .u64 b)] W (.tuple #[.int .u64 (lowV (bits .xor .u64 a b)),.bool true]):=by
 go_enter func156,ntmps156;go_wp2_with ((first | (go_at_call 202;with_reducible refine (zdU 77 a b (by decide) _).tq ?_) | (go_at_call 203;with_reducible refine (zsA a b ha hb _).tq ?_)));go_ret2;exact ⟨rfl,rfl⟩
theorem zmx (a b:Int) (ha:U64 a) (hb:U64 b) (W:World):TW 156 #[.int .i64 78,(.int .u64 a),(.int .u64 b)] W (.tuple #[.int .u64 (lowV (bits .and .u64 a b)),.bool true]):=by
 go_enter func156,ntmps156;go_wp2_with ((first | (go_at_call 202;with_reducible refine (zdU 78 a b (by decide) _).tq ?_) | (go_at_call 203;with_reducible refine (zAa a b ha hb _).tq ?_)));go_ret2;exact ⟨rfl,rfl⟩
theorem zlJ (a b:Int) (ha:U64 a) (hb:U64 b) (W:World):TW 156 #[.int .i64 79,(.int .u64 a),(.int .u64 b)] W (.tuple #[.int .u64 (lowV (bits .or .u64 a b)),.bool true]):=by
 go_enter func156,ntmps156;go_wp2_with ((first | (go_at_call 202;with_reducible refine (zdU 79 a b (by decide) _).tq ?_) | (go_at_call 203;with_reducible refine (ztQ a b ha hb _).tq ?_)));go_ret2;exact ⟨rfl,rfl⟩
theorem zl2 (a b:Int) (ha:U64 a) (hb:U64 b) (W:World):TW 156 #[.int .i64 80,(.int .u64 a),(.int .u64 b)] W (.tuple #[.int .u64 (minT a b),.bool true]):=by
 go_enter func156,ntmps156;go_wp2_with ((first | (go_at_call 202;with_reducible refine (zdU 80 a b (by decide) _).tq ?_) | (go_at_call 203;with_reducible refine (zry a b ha hb _).tq ?_)));go_ret2;exact ⟨rfl,rfl⟩
theorem zzS (a b:Int) (ha:U64 a) (hb:U64 b) (W:World):TW 156 #[.int .i64 81,(.int .u64 a),(.int .u64 b)] W (.tuple #[.int .u64 (maxT a b),.bool true]):=by
 go_enter func156,ntmps156;go_wp2_with ((first | (go_at_call 202;with_reducible refine (zdU 81 a b (by decide) _).tq ?_) | (go_at_call 203;with_reducible refine (zzf a b ha hb _).tq ?_)));go_ret2;exact ⟨rfl,rfl⟩
theorem zlL (a b:Int) (ha:U64 a) (hb:U64 b) (W:World):TW 156 #[.int .i64 82,(.int .u64 a),(.int .u64 b)] W (.tuple #[.int .u64 (minU (lowV a) (lowV b)),.bool true]):=by
 go_enter func156,ntmps156;go_wp2_with ((first | (go_at_call 202;with_reducible refine (zdU 82 a b (by decide) _).tq ?_) | (go_at_call 203;with_reducible refine (zx4 a b ha hb _).tq ?_)));go_ret2;exact ⟨rfl,rfl⟩
theorem zzI (a b:Int) (ha:U64 a) (hb:U64 b) (W:World):TW 156 #[.int .i64 83,(.int .u64 a),(.int .u64 b)] W (.tuple #[.int .u64 (maxU (lowV a) (lowV b)),.bool true]):=by
 go_enter func156,ntmps156;go_wp2_with ((first | (go_at_call 202;with_reducible refine (zdU 83 a b (by decide) _).tq ?_) | (go_at_call 203;with_reducible refine (zo0 a b ha hb _).tq ?_)));go_ret2;exact ⟨rfl,rfl⟩
theorem zq8 (op:Int) (a b:Int) (h:∀ k∈([86,87,88,89,90,91,92,93,94,75,76,77,78,79,80,81,82,83]:List Int),op≠k) (W:World):TW 156 #[.int .i64 op,(.int .u64 a),(.int .u64 b)] W (.tuple #[.int .u64 0,.bool false]):=by
 have h1:=hid (zfy h (M:=[86,87,88,89,90,91,92,93,94]) (by decide));have h2:=hid (zfy h (M:=[75,76,77,78,79,80,81,82,83]) (by decide));clear h;go_enter func156,ntmps156;go_wp2_with ((first | (go_at_call 202;with_reducible refine (zdU op a b h1.out _).tq ?_) | (go_at_call 203;with_reducible refine (zlI op a b h2.out _).tq ?_)));go_ret2;exact ⟨rfl,rfl⟩
theorem zyA (a b:Int) (W:World):TW 101 #[.int .i64 5,(.int .u64 a),(.int .u64 b)] W (.tuple #[.bool (a==b),.bool true]):=by
 go_enter func101,ntmps101
 go_wp2
 go_ret2;exact ⟨rfl,rfl⟩
theorem zun (a b:Int) (W:World):TW 101 #[.int .i64 6,(.int .u64 a),(.int .u64 b)] W (.tuple #[.bool (a != b),.bool true]):=by
 go_enter func101,ntmps101
 go_wp2
 go_ret2;exact ⟨rfl,rfl⟩
theorem zvX (a b:Int) (W:World):TW 101 #[.int .i64 7,(.int .u64 a),(.int .u64 b)] W (.tuple #[.bool (decide (wrap64 a<wrap64 b)),.bool true]):=by
 go_enter func101,ntmps101;go_wp2_with (go_at_call 137;with_reducible refine (zfo _ _ _).tq ?_);go_ret2;exact ⟨rfl,rfl⟩
theorem zoO (a b:Int) (W:World):TW 101 #[.int .i64 8,(.int .u64 a),(.int .u64 b)] W (.tuple #[.bool (!decide (wrap64 a<wrap64 b)),.bool true]):=by
 go_enter func101,ntmps101;go_wp2_with (go_at_call 137;with_reducible refine (zfo _ _ _).tq ?_);go_ret2;exact ⟨rfl,rfl⟩
theorem zsN (a b:Int) (W:World):TW 101 #[.int .i64 9,(.int .u64 a),(.int .u64 b)] W (.tuple #[.bool (decide (a<b)),.bool true]):=by
 go_enter func101,ntmps101
 go_wp2
 go_ret2;exact ⟨rfl,rfl⟩
theorem zxD (a b:Int) (W:World):TW 101 #[.int .i64 10,(.int .u64 a),(.int .u64 b)] W (.tuple #[.bool (decide (b≤a)),.bool true]):=by
 go_enter func101,ntmps101
 go_wp2
 go_ret2;exact ⟨rfl,rfl⟩
theorem zpJ (op:Int) (a b:Int) (h:∀ k∈([5,6,7,8,9,10]:List Int),op≠k) (W:World):TW 101 #[.int .i64 op,(.int .u64 a),(.int .u64 b)] W (.tuple #[.bool false,.bool false]):=by
 have g5:(op==5)=false:=by rw [beq_eq_false_iff_ne];exact h 5 (by decide)
 have g6:(op==6)=false:=by rw [beq_eq_false_iff_ne];exact h 6 (by decide)
 have g7:(op==7)=false:=by rw [beq_eq_false_iff_ne];exact h 7 (by decide)
 have g8:(op==8)=false:=by rw [beq_eq_false_iff_ne];exact h 8 (by decide)
 have g9:(op==9)=false:=by rw [beq_eq_false_iff_ne];exact h 9 (by decide)
 have g10:(op==10)=false:=by rw [beq_eq_false_iff_ne];exact h 10 (by decide)
 clear h;go_enter func101,ntmps101
 go_wp2
 go_ret2;exact ⟨rfl,rfl⟩
end Go.Proofs.YtplcfdnfeclpmaaGreatDoor.Al
