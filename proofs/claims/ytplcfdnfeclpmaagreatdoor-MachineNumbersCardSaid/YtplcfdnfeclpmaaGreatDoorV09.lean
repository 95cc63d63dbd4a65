/- MachineNumbers, part 9. -/
import Derived.Test.YtplcfdnfeclpmaaGreatDoorV08
set_option maxHeartbeats 4000000
set_option maxRecDepth 100000
set_option linter.unusedVariables false
open Go.Lib (hid)
open Go Go.RowKit Go.Deep Go.Joins Go.Proofs.Tryz
namespace Go.Proofs.YtplcfdnfeclpmaaGreatDoor.Al
def minU (a b:Int):Int:=if a<b then a else b
def maxU (a b:Int):Int:=if b<a then a else b
def minS (a b:Int):Int:=if wrap64 a<wrap64 b then a else b
def maxS (a b:Int):Int:=if wrap64 b<wrap64 a then a else b
def minT (a b:Int):Int:=if wrap32 a<wrap32 b then lowV a else lowV b
def maxT (a b:Int):Int:=if wrap32 b<wrap32 a then lowV a else lowV b
theorem zkU (a b:Int) (h:b<a):b=minU a b:=by
 unfold minU
 split <;> omega
theorem zkX (a b:Int) (h:a≤b):a=minU a b:=by
 unfold minU
 split <;> omega
theorem ziZ (a b:Int) (h:a<b):b=maxU a b:=by
 unfold maxU
 split <;> omega
theorem zkh (a b:Int) (h:b≤a):a=maxU a b:=by
 unfold maxU
 split <;> omega
theorem zm6 (a b:Int) (ha:U64 a) (hb:U64 b) (h:wrap64 b<wrap64 a):IntKind.u64.wrap (wrap64 b)=minS a b:=by
 unfold minS;have A:=S_eq a;have B:=S_eq b;have ha1:=ha.1;have ha2:=ha.2;have hb1:=hb.1;have hb2:=hb.2;simp only [IntKind.wrap_u64]
 split <;> omega
theorem znB (a b:Int) (ha:U64 a) (hb:U64 b) (h:wrap64 a≤wrap64 b):IntKind.u64.wrap (wrap64 a)=minS a b:=by
 unfold minS;have A:=S_eq a;have B:=S_eq b;have ha1:=ha.1;have ha2:=ha.2;have hb1:=hb.1;have hb2:=hb.2;simp only [IntKind.wrap_u64]
 split <;> omega
theorem znH (a b:Int) (ha:U64 a) (hb:U64 b) (h:wrap64 a<wrap64 b):IntKind.u64.wrap (wrap64 b)=maxS a b:=by
 unfold maxS;have A:=S_eq a;have B:=S_eq b;have ha1:=ha.1;have ha2:=ha.2;have hb1:=hb.1;have hb2:=hb.2;simp only [IntKind.wrap_u64]
 split <;> omega
theorem zms (a b:Int) (ha:U64 a) (hb:U64 b) (h:wrap64 b≤wrap64 a):IntKind.u64.wrap (wrap64 a)=maxS a b:=by
 unfold maxS;have A:=S_eq a;have B:=S_eq b;have ha1:=ha.1;have ha2:=ha.2;have hb1:=hb.1;have hb2:=hb.2;simp only [IntKind.wrap_u64]
 split <;> omega
theorem zyN (a b:Int) (h:wrap32 b<wrap32 a):wrap32 b % 4294967296=minT a b:=by
 unfold minT;have A:=T_eq a;have B:=T_eq b;simp only [zey]
 split <;> omega
theorem ztd (a b:Int) (h:wrap32 a≤wrap32 b):wrap32 a % 4294967296=minT a b:=by
 unfold minT;have A:=T_eq a;have B:=T_eq b;simp only [zey]
 split <;> omega
theorem zzh (a b:Int) (h:wrap32 a<wrap32 b):wrap32 b % 4294967296=maxT a b:=by
 unfold maxT;have A:=T_eq a;have B:=T_eq b;simp only [zey]
 split <;> omega
theorem zu0 (a b:Int) (h:wrap32 b≤wrap32 a):wrap32 a % 4294967296=maxT a b:=by
 unfold maxT;have A:=T_eq a;have B:=T_eq b;simp only [zey]
 split <;> omega
theorem zpL (a b:Int) (ha:U64 a) (hb:U64 b) (W:World):TW 115 #[.int .i64 31,(.int .u64 a),(.int .u64 b)] W (.tuple #[.int .u64 (uV (a+b)),.bool true]):=by
 go_enter func115,ntmps115;go_wp2_with (go_at_call 157;with_reducible refine (zwH a b ha hb _).tq ?_);go_ret2;exact ⟨rfl,rfl⟩
theorem zkS (a b:Int) (ha:U64 a) (hb:U64 b) (W:World):TW 115 #[.int .i64 22,(.int .u64 a),(.int .u64 b)] W (.tuple #[.int .u64 (uV (a+b)),.bool true]):=by
 go_enter func115,ntmps115;go_wp2_with (go_at_call 157;with_reducible refine (zs0 a b ha hb _).tq ?_);go_ret2;exact ⟨rfl,rfl⟩
theorem zxM (a b:Int) (ha:U64 a) (hb:U64 b) (W:World):TW 115 #[.int .i64 32,(.int .u64 a),(.int .u64 b)] W (.tuple #[.int .u64 (uV (a - b)),.bool true]):=by
 go_enter func115,ntmps115;go_wp2_with (go_at_call 157;with_reducible refine (zrD a b ha hb _).tq ?_);go_ret2;exact ⟨rfl,rfl⟩
theorem zqm (a b:Int) (ha:U64 a) (hb:U64 b) (W:World):TW 115 #[.int .i64 33,(.int .u64 a),(.int .u64 b)] W (.tuple #[.int .u64 (uV (a*2 ^ (b % 64).toNat)),.bool true]):=by
 go_enter func115,ntmps115;go_wp2_with (go_at_call 157;with_reducible refine (zv9 a b ha hb _).tq ?_);go_ret2;exact ⟨rfl,rfl⟩
theorem zlL (a b:Int) (ha:U64 a) (hb:U64 b) (W:World):TW 115 #[.int .i64 28,(.int .u64 a),(.int .u64 b)] W (.tuple #[.int .u64 (uV (a*2 ^ (b % 64).toNat)),.bool true]):=by
 go_enter func115,ntmps115;go_wp2_with (go_at_call 157;with_reducible refine (zsI a b ha hb _).tq ?_);go_ret2;exact ⟨rfl,rfl⟩
theorem znD (a b:Int) (ha:U64 a) (hb:U64 b) (W:World):TW 115 #[.int .i64 37,(.int .u64 a),(.int .u64 b)] W (.tuple #[.int .u64 (a / 2 ^ (b % 64).toNat),.bool true]):=by
 go_enter func115,ntmps115;go_wp2_with (go_at_call 157;with_reducible refine (zpg a b ha hb _).tq ?_);go_ret2;exact ⟨rfl,rfl⟩
theorem zmv (a b:Int) (ha:U64 a) (hb:U64 b) (W:World):TW 115 #[.int .i64 29,(.int .u64 a),(.int .u64 b)] W (.tuple #[.int .u64 (a / 2 ^ (b % 64).toNat),.bool true]):=by
 go_enter func115,ntmps115;go_wp2_with (go_at_call 157;with_reducible refine (zny a b ha hb _).tq ?_);go_ret2;exact ⟨rfl,rfl⟩
theorem zwo (a b:Int) (ha:U64 a) (hb:U64 b) (W:World):TW 115 #[.int .i64 38,(.int .u64 a),(.int .u64 b)] W (.tuple #[.int .u64 (uV (wrap64 a / 2 ^ (b % 64).toNat)),.bool true]):=by
 go_enter func115,ntmps115;go_wp2_with (go_at_call 157;with_reducible refine (zuP a b ha hb _).tq ?_);go_ret2;exact ⟨rfl,rfl⟩
theorem znb (a b:Int) (ha:U64 a) (hb:U64 b) (W:World):TW 115 #[.int .i64 30,(.int .u64 a),(.int .u64 b)] W (.tuple #[.int .u64 (uV (wrap64 a / 2 ^ (b % 64).toNat)),.bool true]):=by
 go_enter func115,ntmps115;go_wp2_with (go_at_call 157;with_reducible refine (zz9 a b ha hb _).tq ?_);go_ret2;exact ⟨rfl,rfl⟩
theorem zpn (a b:Int) (ha:U64 a) (hb:U64 b) (W:World):TW 115 #[.int .i64 34,(.int .u64 a),(.int .u64 b)] W (.tuple #[.int .u64 (oneV (decide (wrap64 a<wrap64 b))),.bool true]):=by
 go_enter func115,ntmps115;go_wp2_with (go_at_call 157;with_reducible refine (ztW a b ha hb _).tq ?_);go_ret2;exact ⟨rfl,rfl⟩
theorem zt4 (a b:Int) (ha:U64 a) (hb:U64 b) (W:World):TW 115 #[.int .i64 23,(.int .u64 a),(.int .u64 b)] W (.tuple #[.int .u64 (oneV (decide (wrap64 a<wrap64 b))),.bool true]):=by
 go_enter func115,ntmps115;go_wp2_with (go_at_call 157;with_reducible refine (zqC a b ha hb _).tq ?_);go_ret2;exact ⟨rfl,rfl⟩
theorem zty (a b:Int) (ha:U64 a) (hb:U64 b) (W:World):TW 115 #[.int .i64 35,(.int .u64 a),(.int .u64 b)] W (.tuple #[.int .u64 (oneV (decide (a<b))),.bool true]):=by
 go_enter func115,ntmps115;go_wp2_with (go_at_call 157;with_reducible refine (znl a b ha hb _).tq ?_);go_ret2;exact ⟨rfl,rfl⟩
theorem zmV (a b:Int) (ha:U64 a) (hb:U64 b) (W:World):TW 115 #[.int .i64 24,(.int .u64 a),(.int .u64 b)] W (.tuple #[.int .u64 (oneV (decide (a<b))),.bool true]):=by
 go_enter func115,ntmps115;go_wp2_with (go_at_call 157;with_reducible refine (zrw a b ha hb _).tq ?_);go_ret2;exact ⟨rfl,rfl⟩
theorem zyG (a b:Int) (ha:U64 a) (hb:U64 b) (W:World):TW 115 #[.int .i64 36,(.int .u64 a),(.int .u64 b)] W (.tuple #[.int .u64 (bits .xor .u64 a b),.bool true]):=by
 go_enter func115,ntmps115;go_wp2_with (go_at_call 157;with_reducible refine (zzJ a b ha hb _).tq ?_);go_ret2;exact ⟨rfl,rfl⟩
theorem zmr (a b:Int) (ha:U64 a) (hb:U64 b) (W:World):TW 115 #[.int .i64 25,(.int .u64 a),(.int .u64 b)] W (.tuple #[.int .u64 (bits .xor .u64 a b),.bool true]):=by
 go_enter func115,ntmps115;go_wp2_with (go_at_call 157;with_reducible refine (zvE a b ha hb _).tq ?_);go_ret2;exact ⟨rfl,rfl⟩
theorem zlV (a b:Int) (ha:U64 a) (hb:U64 b) (W:World):TW 115 #[.int .i64 39,(.int .u64 a),(.int .u64 b)] W (.tuple #[.int .u64 (bits .or .u64 a b),.bool true]):=by
 go_enter func115,ntmps115;go_wp2_with (go_at_call 157;with_reducible refine (zm7 a b ha hb _).tq ?_);go_ret2;exact ⟨rfl,rfl⟩
theorem zqG (a b:Int) (ha:U64 a) (hb:U64 b) (W:World):TW 115 #[.int .i64 26,(.int .u64 a),(.int .u64 b)] W (.tuple #[.int .u64 (bits .or .u64 a b),.bool true]):=by
 go_enter func115,ntmps115;go_wp2_with (go_at_call 157;with_reducible refine (zqM a b ha hb _).tq ?_);go_ret2;exact ⟨rfl,rfl⟩
theorem znI (a b:Int) (ha:U64 a) (hb:U64 b) (W:World):TW 115 #[.int .i64 40,(.int .u64 a),(.int .u64 b)] W (.tuple #[.int .u64 (bits .and .u64 a b),.bool true]):=by
 go_enter func115,ntmps115;go_wp2_with (go_at_call 157;with_reducible refine (zoC a b ha hb _).tq ?_);go_ret2;exact ⟨rfl,rfl⟩
theorem zuD (a b:Int) (ha:U64 a) (hb:U64 b) (W:World):TW 115 #[.int .i64 27,(.int .u64 a),(.int .u64 b)] W (.tuple #[.int .u64 (bits .and .u64 a b),.bool true]):=by
 go_enter func115,ntmps115;go_wp2_with (go_at_call 157;with_reducible refine (zw1 a b ha hb _).tq ?_);go_ret2;exact ⟨rfl,rfl⟩
theorem zsy (a b:Int) (ha:U64 a) (hb:U64 b) (W:World):TW 115 #[.int .i64 60,(.int .u64 a),(.int .u64 b)] W (.tuple #[.int .u64 (uV (a*b)),.bool true]):=by
 go_enter func115,ntmps115;go_wp2_with ((first | (go_at_call 157;with_reducible refine (zbV 60 a b (by decide) _).tq ?_) | (go_at_call 158;with_reducible refine (zqZ a b ha hb _).tq ?_)));go_ret2;exact ⟨rfl,rfl⟩
theorem zya (a b:Int) (ha:U64 a) (hb:U64 b) (W:World):TW 115 #[.int .i64 61,(.int .u64 a),(.int .u64 b)] W (.tuple #[.int .u64 (uV (a*b / 18446744073709551616 - zef a b - zef b a)),.bool true]):=by
 go_enter func115,ntmps115;go_wp2_with ((first | (go_at_call 157;with_reducible refine (zbV 61 a b (by decide) _).tq ?_) | (go_at_call 158;with_reducible refine (zx2 a b ha hb _).tq ?_)));go_ret2;exact ⟨rfl,rfl⟩
theorem zuu (a b:Int) (ha:U64 a) (hb:U64 b) (W:World):TW 115 #[.int .i64 62,(.int .u64 a),(.int .u64 b)] W (.tuple #[.int .u64 (uV (a*b / 18446744073709551616 - zef a b)),.bool true]):=by
 go_enter func115,ntmps115;go_wp2_with ((first | (go_at_call 157;with_reducible refine (zbV 62 a b (by decide) _).tq ?_) | (go_at_call 158;with_reducible refine (zws a b ha hb _).tq ?_)));go_ret2;exact ⟨rfl,rfl⟩
theorem znE (a b:Int) (ha:U64 a) (hb:U64 b) (W:World):TW 115 #[.int .i64 63,(.int .u64 a),(.int .u64 b)] W (.tuple #[.int .u64 (a*b / 18446744073709551616),.bool true]):=by
 go_enter func115,ntmps115;go_wp2_with ((first | (go_at_call 157;with_reducible refine (zbV 63 a b (by decide) _).tq ?_) | (go_at_call 158;with_reducible refine (zuV a b ha hb _).tq ?_)));go_ret2;exact ⟨rfl,rfl⟩
theorem zzv (a b:Int) (ha:U64 a) (hb:U64 b) (W:World):TW 115 #[.int .i64 64,(.int .u64 a),(.int .u64 b)] W (.tuple #[.int .u64 (qsV a b),.bool true]):=by
 go_enter func115,ntmps115;go_wp2_with ((first | (go_at_call 157;with_reducible refine (zbV 64 a b (by decide) _).tq ?_) | (go_at_call 158;with_reducible refine (zuh a b ha hb _).tq ?_)));go_ret2;exact ⟨rfl,rfl⟩
theorem zvf (a b:Int) (ha:U64 a) (hb:U64 b) (W:World):TW 115 #[.int .i64 65,(.int .u64 a),(.int .u64 b)] W (.tuple #[.int .u64 (quV a b),.bool true]):=by
 go_enter func115,ntmps115;go_wp2_with ((first | (go_at_call 157;with_reducible refine (zbV 65 a b (by decide) _).tq ?_) | (go_at_call 158;with_reducible refine (zwv a b ha hb _).tq ?_)));go_ret2;exact ⟨rfl,rfl⟩
theorem zvr (a b:Int) (ha:U64 a) (hb:U64 b) (W:World):TW 115 #[.int .i64 66,(.int .u64 a),(.int .u64 b)] W (.tuple #[.int .u64 (rsV a b),.bool true]):=by
 go_enter func115,ntmps115;go_wp2_with ((first | (go_at_call 157;with_reducible refine (zbV 66 a b (by decide) _).tq ?_) | (go_at_call 158;with_reducible refine (zt2 a b ha hb _).tq ?_)));go_ret2;exact ⟨rfl,rfl⟩
theorem zo9 (a b:Int) (ha:U64 a) (hb:U64 b) (W:World):TW 115 #[.int .i64 67,(.int .u64 a),(.int .u64 b)] W (.tuple #[.int .u64 (reV a b),.bool true]):=by
 go_enter func115,ntmps115;go_wp2_with ((first | (go_at_call 157;with_reducible refine (zbV 67 a b (by decide) _).tq ?_) | (go_at_call 158;with_reducible refine (zxc a b ha hb _).tq ?_)));go_ret2;exact ⟨rfl,rfl⟩
theorem zwM (a b:Int) (ha:U64 a) (hb:U64 b) (W:World):TW 115 #[.int .i64 45,(.int .u64 a),(.int .u64 b)] W (.tuple #[.int .u64 (za2 (a+b)),.bool true]):=by
 go_enter func115,ntmps115;go_wp2_with ((first | (go_at_call 157;with_reducible refine (zbV 45 a b (by decide) _).tq ?_) | (go_at_call 158;with_reducible refine (zcK 45 a b (by decide) _).tq ?_) | (go_at_call 159;with_reducible refine (zy2 a b ha hb _).tq ?_)));go_ret2;exact ⟨rfl,rfl⟩
theorem zx8 (a b:Int) (ha:U64 a) (hb:U64 b) (W:World):TW 115 #[.int .i64 41,(.int .u64 a),(.int .u64 b)] W (.tuple #[.int .u64 (za2 (a+b)),.bool true]):=by
 go_enter func115,ntmps115;go_wp2_with ((first | (go_at_call 157;with_reducible refine (zbV 41 a b (by decide) _).tq ?_) | (go_at_call 158;with_reducible refine (zcK 41 a b (by decide) _).tq ?_) | (go_at_call 159;with_reducible refine (zv6 a b ha hb _).tq ?_)));go_ret2;exact ⟨rfl,rfl⟩
theorem znv (a b:Int) (ha:U64 a) (hb:U64 b) (W:World):TW 115 #[.int .i64 46,(.int .u64 a),(.int .u64 b)] W (.tuple #[.int .u64 (za2 (a - b)),.bool true]):=by
 go_enter func115,ntmps115;go_wp2_with ((first | (go_at_call 157;with_reducible refine (zbV 46 a b (by decide) _).tq ?_) | (go_at_call 158;with_reducible refine (zcK 46 a b (by decide) _).tq ?_) | (go_at_call 159;with_reducible refine (zut a b ha hb _).tq ?_)));go_ret2;exact ⟨rfl,rfl⟩
theorem zsY (a b:Int) (ha:U64 a) (hb:U64 b) (W:World):TW 115 #[.int .i64 68,(.int .u64 a),(.int .u64 b)] W (.tuple #[.int .u64 (za2 (a*b)),.bool true]):=by
 go_enter func115,ntmps115;go_wp2_with ((first | (go_at_call 157;with_reducible refine (zbV 68 a b (by decide) _).tq ?_) | (go_at_call 158;with_reducible refine (zcK 68 a b (by decide) _).tq ?_) | (go_at_call 159;with_reducible refine (zrW a b ha hb _).tq ?_)));go_ret2;exact ⟨rfl,rfl⟩
theorem zpV (a b:Int) (ha:U64 a) (hb:U64 b) (W:World):TW 115 #[.int .i64 47,(.int .u64 a),(.int .u64 b)] W (.tuple #[.int .u64 (za2 (a*2 ^ (b % 32).toNat)),.bool true]):=by
 go_enter func115,ntmps115;go_wp2_with ((first | (go_at_call 157;with_reducible refine (zbV 47 a b (by decide) _).tq ?_) | (go_at_call 158;with_reducible refine (zcK 47 a b (by decide) _).tq ?_) | (go_at_call 159;with_reducible refine (zuj a b ha hb _).tq ?_)));go_ret2;exact ⟨rfl,rfl⟩
theorem zuk (a b:Int) (ha:U64 a) (hb:U64 b) (W:World):TW 115 #[.int .i64 42,(.int .u64 a),(.int .u64 b)] W (.tuple #[.int .u64 (za2 (a*2 ^ (b % 32).toNat)),.bool true]):=by
 go_enter func115,ntmps115;go_wp2_with ((first | (go_at_call 157;with_reducible refine (zbV 42 a b (by decide) _).tq ?_) | (go_at_call 158;with_reducible refine (zcK 42 a b (by decide) _).tq ?_) | (go_at_call 159;with_reducible refine (zrX a b ha hb _).tq ?_)));go_ret2;exact ⟨rfl,rfl⟩
theorem zzG (a b:Int) (ha:U64 a) (hb:U64 b) (W:World):TW 115 #[.int .i64 48,(.int .u64 a),(.int .u64 b)] W (.tuple #[.int .u64 (za2 (lowV a / 2 ^ (b % 32).toNat)),.bool true]):=by
 go_enter func115,ntmps115;go_wp2_with ((first | (go_at_call 157;with_reducible refine (zbV 48 a b (by decide) _).tq ?_) | (go_at_call 158;with_reducible refine (zcK 48 a b (by decide) _).tq ?_) | (go_at_call 159;with_reducible refine (zyd a b ha hb _).tq ?_)));go_ret2;exact ⟨rfl,rfl⟩
theorem zlN (a b:Int) (ha:U64 a) (hb:U64 b) (W:World):TW 115 #[.int .i64 43,(.int .u64 a),(.int .u64 b)] W (.tuple #[.int .u64 (za2 (lowV a / 2 ^ (b % 32).toNat)),.bool true]):=by
 go_enter func115,ntmps115;go_wp2_with ((first | (go_at_call 157;with_reducible refine (zbV 43 a b (by decide) _).tq ?_) | (go_at_call 158;with_reducible refine (zcK 43 a b (by decide) _).tq ?_) | (go_at_call 159;with_reducible refine (zyb a b ha hb _).tq ?_)));go_ret2;exact ⟨rfl,rfl⟩
theorem zxb (a b:Int) (ha:U64 a) (hb:U64 b) (W:World):TW 115 #[.int .i64 49,(.int .u64 a),(.int .u64 b)] W (.tuple #[.int .u64 (uV (wrap32 a / 2 ^ (b % 32).toNat)),.bool true]):=by
 go_enter func115,ntmps115;go_wp2_with ((first | (go_at_call 157;with_reducible refine (zbV 49 a b (by decide) _).tq ?_) | (go_at_call 158;with_reducible refine (zcK 49 a b (by decide) _).tq ?_) | (go_at_call 159;with_reducible refine (zoI a b ha hb _).tq ?_)));go_ret2;exact ⟨rfl,rfl⟩
theorem zrf (a b:Int) (ha:U64 a) (hb:U64 b) (W:World):TW 115 #[.int .i64 44,(.int .u64 a),(.int .u64 b)] W (.tuple #[.int .u64 (uV (wrap32 a / 2 ^ (b % 32).toNat)),.bool true]):=by
 go_enter func115,ntmps115;go_wp2_with ((first | (go_at_call 157;with_reducible refine (zbV 44 a b (by decide) _).tq ?_) | (go_at_call 158;with_reducible refine (zcK 44 a b (by decide) _).tq ?_) | (go_at_call 159;with_reducible refine (zyw a b ha hb _).tq ?_)));go_ret2;exact ⟨rfl,rfl⟩
theorem zrd (a b:Int) (ha:U64 a) (hb:U64 b) (W:World):TW 115 #[.int .i64 69,(.int .u64 a),(.int .u64 b)] W (.tuple #[.int .u64 (za2 (qsV (za2 a) (za2 b))),.bool true]):=by
 go_enter func115,ntmps115;go_wp2_with ((first | (go_at_call 157;with_reducible refine (zbV 69 a b (by decide) _).tq ?_) | (go_at_call 158;with_reducible refine (zcK 69 a b (by decide) _).tq ?_) | (go_at_call 159;with_reducible refine (zqL a b ha hb _).tq ?_)));go_ret2;exact ⟨rfl,rfl⟩
theorem zsq (a b:Int) (ha:U64 a) (hb:U64 b) (W:World):TW 115 #[.int .i64 70,(.int .u64 a),(.int .u64 b)] W (.tuple #[.int .u64 (za2 (quV (lowV a) (lowV b))),.bool true]):=by
 go_enter func115,ntmps115;go_wp2_with ((first | (go_at_call 157;with_reducible refine (zbV 70 a b (by decide) _).tq ?_) | (go_at_call 158;with_reducible refine (zcK 70 a b (by decide) _).tq ?_) | (go_at_call 159;with_reducible refine (zwt a b ha hb _).tq ?_)));go_ret2;exact ⟨rfl,rfl⟩
theorem zrH (a b:Int) (ha:U64 a) (hb:U64 b) (W:World):TW 115 #[.int .i64 71,(.int .u64 a),(.int .u64 b)] W (.tuple #[.int .u64 (za2 (rsV (za2 a) (za2 b))),.bool true]):=by
 go_enter func115,ntmps115;go_wp2_with ((first | (go_at_call 157;with_reducible refine (zbV 71 a b (by decide) _).tq ?_) | (go_at_call 158;with_reducible refine (zcK 71 a b (by decide) _).tq ?_) | (go_at_call 159;with_reducible refine (zlw a b ha hb _).tq ?_)));go_ret2;exact ⟨rfl,rfl⟩
theorem ztv (a b:Int) (ha:U64 a) (hb:U64 b) (W:World):TW 115 #[.int .i64 72,(.int .u64 a),(.int .u64 b)] W (.tuple #[.int .u64 (za2 (reV (lowV a) (lowV b))),.bool true]):=by
 go_enter func115,ntmps115;go_wp2_with ((first | (go_at_call 157;with_reducible refine (zbV 72 a b (by decide) _).tq ?_) | (go_at_call 158;with_reducible refine (zcK 72 a b (by decide) _).tq ?_) | (go_at_call 159;with_reducible refine (zzH a b ha hb _).tq ?_)));go_ret2;exact ⟨rfl,rfl⟩
theorem zfR {op:Int} {L M:List Int} (h:∀ k∈L,op≠k) (g:∀ k∈M,k∈L):∀ k∈M,op≠k:=fun k hk=>h k (g k hk)
theorem ztO (op:Int) (a b:Int) (h:∀ k∈([31,22,32,33,28,37,29,38,30,34,23,35,24,36,25,39,26,40,27,60,61,62,63,64,65,66,67,45,41,46,68,47,42,48,43,49,44,69,70,71,72]:List Int),op≠k) (W:World):TW 115 #[.int .i64 op,(.int .u64 a),(.int .u64 b)] W (.tuple #[.int .u64 0,.bool false]):=by
 have h1:=hid (zfR h (M:=[31,22,32,33,28,37,29,38,30,34,23,35,24,36,25,39,26,40,27]) (by decide));have h2:=hid (zfR h (M:=[60,61,62,63,64,65,66,67]) (by decide));have h3:=hid (zfR h (M:=[45,41,46,68,47,42,48,43,49,44,69,70,71,72]) (by decide));clear h;go_enter func115,ntmps115;go_wp2_with ((first | (go_at_call 157;with_reducible refine (zbV op a b h1.out _).tq ?_) | (go_at_call 158;with_reducible refine (zcK op a b h2.out _).tq ?_) | (go_at_call 159;with_reducible refine (zx1 op a b h3.out _).tq ?_)));go_ret2;exact ⟨rfl,rfl⟩
theorem zm2 (a b:Int) (ha:U64 a) (hb:U64 b) (W:World):TW 202 #[.int .i64 86,(.int .u64 a),(.int .u64 b)] W (.tuple #[.int .u64 b,.bool true]):=by
 go_enter func202,ntmps202
 go_wp2
 go_ret2;exact ⟨rfl,rfl⟩
theorem zpD (a b:Int) (ha:U64 a) (hb:U64 b) (W:World):TW 202 #[.int .i64 87,(.int .u64 a),(.int .u64 b)] W (.tuple #[.int .u64 (uV (a+b)),.bool true]):=by
 go_enter func202,ntmps202
 go_wp2
 go_ret2;exact ⟨rfl,rfl⟩
theorem zui (a b:Int) (ha:U64 a) (hb:U64 b) (W:World):TW 202 #[.int .i64 88,(.int .u64 a),(.int .u64 b)] W (.tuple #[.int .u64 (bits .xor .u64 a b),.bool true]):=by
 go_enter func202,ntmps202
 go_wp2
 go_ret2;exact ⟨rfl,rfl⟩
theorem zzp (a b:Int) (ha:U64 a) (hb:U64 b) (W:World):TW 202 #[.int .i64 89,(.int .u64 a),(.int .u64 b)] W (.tuple #[.int .u64 (bits .and .u64 a b),.bool true]):=by
 go_enter func202,ntmps202
 go_wp2
 go_ret2;exact ⟨rfl,rfl⟩
theorem zmD (a b:Int) (ha:U64 a) (hb:U64 b) (W:World):TW 202 #[.int .i64 90,(.int .u64 a),(.int .u64 b)] W (.tuple #[.int .u64 (bits .or .u64 a b),.bool true]):=by
 go_enter func202,ntmps202
 go_wp2
 go_ret2;exact ⟨rfl,rfl⟩
theorem zAd (a b:Int) (ha:U64 a) (hb:U64 b) (W:World):TW 202 #[.int .i64 91,(.int .u64 a),(.int .u64 b)] W (.tuple #[.int .u64 (minS a b),.bool true]):=by
 by_cases h:wrap64 b<wrap64 a
 ·go_enter func202,ntmps202
  go_wp2
  go_ret2;exact ⟨zaQ (zm6 a b ha hb h) rfl,rfl⟩
 ·have h:=Int.not_lt.mp h
  go_enter func202,ntmps202
  go_wp2
  go_ret2;exact ⟨zaQ (znB a b ha hb h) rfl,rfl⟩
theorem zsO (a b:Int) (ha:U64 a) (hb:U64 b) (W:World):TW 202 #[.int .i64 92,(.int .u64 a),(.int .u64 b)] W (.tuple #[.int .u64 (maxS a b),.bool true]):=by
 by_cases h:wrap64 a<wrap64 b
 ·go_enter func202,ntmps202
  go_wp2
  go_ret2;exact ⟨zaQ (znH a b ha hb h) rfl,rfl⟩
 ·have h:=Int.not_lt.mp h
  go_enter func202,ntmps202
  go_wp2
  go_ret2;exact ⟨zaQ (zms a b ha hb h) rfl,rfl⟩
theorem zpF (a b:Int) (ha:U64 a) (hb:U64 b) (W:World):TW 202 #[.int .i64 93,(.int .u64 a),(.int .u64 b)] W (.tuple #[.int .u64 (minU a b),.bool true]):=by
 by_cases h:b<a
 ·go_enter func202,ntmps202
  go_wp2
  go_ret2;exact ⟨zaQ (zkU a b h) rfl,rfl⟩
 ·have h:=Int.not_lt.mp h
  go_enter func202,ntmps202
  go_wp2
  go_ret2;exact ⟨zaQ (zkX a b h) rfl,rfl⟩
theorem zoT (a b:Int) (ha:U64 a) (hb:U64 b) (W:World):TW 202 #[.int .i64 94,(.int .u64 a),(.int .u64 b)] W (.tuple #[.int .u64 (maxU a b),.bool true]):=by
 by_cases h:a<b
 ·go_enter func202,ntmps202
  go_wp2
  go_ret2;exact ⟨zaQ (ziZ a b h) rfl,rfl⟩
 ·have h:=Int.not_lt.mp h
  go_enter func202,ntmps202
  go_wp2
  go_ret2;exact ⟨zaQ (zkh a b h) rfl,rfl⟩
theorem zdR (op:Int) (a b:Int) (h:∀ k∈([86,87,88,89,90,91,92,93,94]:List Int),op≠k) (W:World):TW 202 #[.int .i64 op,(.int .u64 a),(.int .u64 b)] W (.tuple #[.int .u64 0,.bool false]):=by
 have g86:(op==86)=false:=by rw [beq_eq_false_iff_ne];exact h 86 (by decide)
 have g87:(op==87)=false:=by rw [beq_eq_false_iff_ne];exact h 87 (by decide)
 have g88:(op==88)=false:=by rw [beq_eq_false_iff_ne];exact h 88 (by decide)
 have g89:(op==89)=false:=by rw [beq_eq_false_iff_ne];exact h 89 (by decide)
 have g90:(op==90)=false:=by rw [beq_eq_false_iff_ne];exact h 90 (by decide)
 have g91:(op==91)=false:=by rw [beq_eq_false_iff_ne];exact h 91 (by decide)
 have g92:(op==92)=false:=by rw [beq_eq_false_iff_ne];exact h 92 (by decide)
 have g93:(op==93)=false:=by rw [beq_eq_false_iff_ne];exact h 93 (by decide)
 have g94:(op==94)=false:=by rw [beq_eq_false_iff_ne];exact h 94 (by decide)
 clear h;go_enter func202,ntmps202
 go_wp2
 go_ret2;exact ⟨rfl,rfl⟩
theorem zmU (a b:Int) (ha:U64 a) (hb:U64 b) (W:World):TW 203 #[.int .i64 75,(.int .u64 a),(.int .u64 b)] W (.tuple #[.int .u64 (lowV b),.bool true]):=by
 go_enter func203,ntmps203;go_wp2_with (go_at_call 211;with_reducible refine (zcY _ _).tq ?_);go_ret2;exact ⟨rfl,rfl⟩
theorem zoL (a b:Int) (ha:U64 a) (hb:U64 b) (W:World):TW 203 #[.int .i64 76,(.int .u64 a),(.int .u64 b)] W (.tuple #[.int .u64 (lowV (a+b)),.bool true]):=by
 go_enter func203,ntmps203;go_wp2_with (go_at_call 211;with_reducible refine (zcY _ _).tq ?_);go_ret2;refine ⟨zaQ ?_ rfl,rfl⟩
 simp only [IntKind.wrap_u64,zey]
 try omega
theorem zmg (a b:Int) (ha:U64 a) (hb:U64 b) (W:World):TW 203 #[.int .i64 77,(.int .u64 a),(.int .u64 b)] W (.tuple #[.int .u64 (lowV (bits .xor .u64 a b)),.bool true]):=by
 go_enter func203,ntmps203;go_wp2_with (go_at_call 211;with_reducible refine (zcY _ _).tq ?_);go_ret2;exact ⟨rfl,rfl⟩
theorem zwy (a b:Int) (ha:U64 a) (hb:U64 b) (W:World):TW 203 #[.int .i64 78,(.int .u64 a),(.int .u64 b)] W (.tuple #[.int .u64 (lowV (bits .and .u64 a b)),.bool true]):=by
 go_enter func203,ntmps203;go_wp2_with (go_at_call 211;with_reducible refine (zcY _ _).tq ?_);go_ret2;exact ⟨rfl,rfl⟩
theorem zmo (a b:Int) (ha:U64 a) (hb:U64 b) (W:World):TW 203 #[.int .i64 79,(.int .u64 a),(.int .u64 b)] W (.tuple #[.int .u64 (lowV (bits .or .u64 a b)),.bool true]):=by
 go_enter func203,ntmps203;go_wp2_with (go_at_call 211;with_reducible refine (zcY _ _).tq ?_);go_ret2;exact ⟨rfl,rfl⟩
theorem zvZ (a b:Int) (ha:U64 a) (hb:U64 b) (W:World):TW 203 #[.int .i64 80,(.int .u64 a),(.int .u64 b)] W (.tuple #[.int .u64 (minT a b),.bool true]):=by
 by_cases h:wrap32 b<wrap32 a
 ·go_enter func203,ntmps203
  go_wp2
  go_ret2;exact ⟨zaQ (zyN a b h) rfl,rfl⟩
 ·have h:=Int.not_lt.mp h
  go_enter func203,ntmps203
  go_wp2
  go_ret2;exact ⟨zaQ (ztd a b h) rfl,rfl⟩
theorem zob (a b:Int) (ha:U64 a) (hb:U64 b) (W:World):TW 203 #[.int .i64 81,(.int .u64 a),(.int .u64 b)] W (.tuple #[.int .u64 (maxT a b),.bool true]):=by
 by_cases h:wrap32 a<wrap32 b
 ·go_enter func203,ntmps203
  go_wp2
  go_ret2;exact ⟨zaQ (zzh a b h) rfl,rfl⟩
 ·have h:=Int.not_lt.mp h
  go_enter func203,ntmps203
  go_wp2
  go_ret2;exact ⟨zaQ (zu0 a b h) rfl,rfl⟩
theorem zoZ (a b:Int) (ha:U64 a) (hb:U64 b) (W:World):TW 203 #[.int .i64 82,(.int .u64 a),(.int .u64 b)] W (.tuple #[.int .u64 (minU (lowV a) (lowV b)),.bool true]):=by
 by_cases h:lowV b<lowV a
 ·go_enter func203,ntmps203
  go_wp2_with (go_at_call 211;with_reducible refine (zcY _ _).tq ?_);go_ret2;exact ⟨zaQ (zkU (lowV a) (lowV b) h) rfl,rfl⟩
 ·have h:=Int.not_lt.mp h
  go_enter func203,ntmps203;go_wp2_with (go_at_call 211;with_reducible refine (zcY _ _).tq ?_);go_ret2;exact ⟨zaQ (zkX (lowV a) (lowV b) h) rfl,rfl⟩
theorem zww (a b:Int) (ha:U64 a) (hb:U64 b) (W:World):TW 203 #[.int .i64 83,(.int .u64 a),(.int .u64 b)] W (.tuple #[.int .u64 (maxU (lowV a) (lowV b)),.bool true]):=by
 by_cases h:lowV a<lowV b
 ·go_enter func203,ntmps203
  go_wp2_with (go_at_call 211;with_reducible refine (zcY _ _).tq ?_);go_ret2;exact ⟨zaQ (ziZ (lowV a) (lowV b) h) rfl,rfl⟩
 ·have h:=Int.not_lt.mp h
  go_enter func203,ntmps203;go_wp2_with (go_at_call 211;with_reducible refine (zcY _ _).tq ?_);go_ret2;exact ⟨zaQ (zkh (lowV a) (lowV b) h) rfl,rfl⟩
theorem zvU (op:Int) (a b:Int) (h:∀ k∈([75,76,77,78,79,80,81,82,83]:List Int),op≠k) (W:World):TW 203 #[.int .i64 op,(.int .u64 a),(.int .u64 b)] W (.tuple #[.int .u64 0,.bool false]):=by
 have g75:(op==75)=false:=by rw [beq_eq_false_iff_ne];exact h 75 (by decide)
 have g76:(op==76)=false:=by rw [beq_eq_false_iff_ne];exact h 76 (by decide)
 have g77:(op==77)=false:=by rw [beq_eq_false_iff_ne];exact h 77 (by decide)
 have g78:(op==78)=false:=by rw [beq_eq_false_iff_ne];exact h 78 (by decide)
 have g79:(op==79)=false:=by rw [beq_eq_false_iff_ne];exact h 79 (by decide)
 have g80:(op==80)=false:=by rw [beq_eq_false_iff_ne];exact h 80 (by decide)
 have g81:(op==81)=false:=by rw [beq_eq_false_iff_ne];exact h 81 (by decide)
 have g82:(op==82)=false:=by rw [beq_eq_false_iff_ne];exact h 82 (by decide)
 have g83:(op==83)=false:=by rw [beq_eq_false_iff_ne];exact h 83 (by decide)
 clear h;go_enter func203,ntmps203
 go_wp2
 go_ret2;exact ⟨rfl,rfl⟩
theorem zuo (a b:Int) (ha:U64 a) (hb:U64 b) (W:World):TW 156 #[.int .i64 86,(.int .u64 a),(.int .u64 b)] W (.tuple #[.int .u64 b,.bool true]):=by
 go_enter func156,ntmps156;go_wp2_with (go_at_call 202;with_reducible refine (zm2 a b ha hb _).tq ?_);go_ret2;exact ⟨rfl,rfl⟩
theorem zq6 (a b:Int) (ha:U64 a) (hb:U64 b) (W:World):TW 156 #[.int .i64 87,(.int .u64 a),(.int .u64 b)] W (.tuple #[.int .u64 (uV (a+b)),.bool true]):=by
 go_enter func156,ntmps156;go_wp2_with (go_at_call 202;with_reducible refine (zpD a b ha hb _).tq ?_);go_ret2;exact ⟨rfl,rfl⟩
theorem zvj (a b:Int) (ha:U64 a) (hb:U64 b) (W:World):TW 156 #[.int .i64 88,(.int .u64 a),(.int .u64 b)] W (.tuple #[.int .u64 (bits .xor .u64 a b),.bool true]):=by
 go_enter func156,ntmps156;go_wp2_with (go_at_call 202;with_reducible refine (zui a b ha hb _).tq ?_);go_ret2;exact ⟨rfl,rfl⟩
theorem zpt (a b:Int) (ha:U64 a) (hb:U64 b) (W:World):TW 156 #[.int .i64 89,(.int .u64 a),(.int .u64 b)] W (.tuple #[.int .u64 (bits .and .u64 a b),.bool true]):=by
 go_enter func156,ntmps156;go_wp2_with (go_at_call 202;with_reducible refine (zzp a b ha hb _).tq ?_);go_ret2;exact ⟨rfl,rfl⟩
theorem zxi (a b:Int) (ha:U64 a) (hb:U64 b) (W:World):TW 156 #[.int .i64 90,(.int .u64 a),(.int .u64 b)] W (.tuple #[.int .u64 (bits .or .u64 a b),.bool true]):=by
 go_enter func156,ntmps156;go_wp2_with (go_at_call 202;with_reducible refine (zmD a b ha hb _).tq ?_);go_ret2;exact ⟨rfl,rfl⟩
theorem zva (a b:Int) (ha:U64 a) (hb:U64 b) (W:World):TW 156 #[.int .i64 91,(.int .u64 a),(.int .u64 b)] W (.tuple #[.int .u64 (minS a b),.bool true]):=by
 go_enter func156,ntmps156;go_wp2_with (go_at_call 202;with_reducible refine (zAd a b ha hb _).tq ?_);go_ret2;exact ⟨rfl,rfl⟩
theorem zqB (a b:Int) (ha:U64 a) (hb:U64 b) (W:World):TW 156 #[.int .i64 92,(.int .u64 a),(.int .u64 b)] W (.tuple #[.int .u64 (maxS a b),.bool true]):=by
 go_enter func156,ntmps156;go_wp2_with (go_at_call 202;with_reducible refine (zsO a b ha hb _).tq ?_);go_ret2;exact ⟨rfl,rfl⟩
theorem zxT (a b:Int) (ha:U64 a) (hb:U64 b) (W:World):TW 156 #[.int .i64 93,(.int .u64 a),(.int .u64 b)] W (.tuple #[.int .u64 (minU a b),.bool true]):=by
 go_enter func156,ntmps156;go_wp2_with (go_at_call 202;with_reducible refine (zpF a b ha hb _).tq ?_);go_ret2;exact ⟨rfl,rfl⟩
theorem zpr (a b:Int) (ha:U64 a) (hb:U64 b) (W:World):TW 156 #[.int .i64 94,(.int .u64 a),(.int .u64 b)] W (.tuple #[.int .u64 (maxU a b),.bool true]):=by
 go_enter func156,ntmps156;go_wp2_with (go_at_call 202;with_reducible refine (zoT a b ha hb _).tq ?_);go_ret2;exact ⟨rfl,rfl⟩
theorem zxz (a b:Int) (ha:U64 a) (hb:U64 b) (W:World):TW 156 #[.int .i64 75,(.int .u64 a),(.int .u64 b)] W (.tuple #[.int .u64 (lowV b),.bool true]):=by
 go_enter func156,ntmps156;go_wp2_with ((first | (go_at_call 202;with_reducible refine (zdR 75 a b (by decide) _).tq ?_) | (go_at_call 203;with_reducible refine (zmU a b ha hb _).tq ?_)));go_ret2;exact ⟨rfl,rfl⟩
theorem zmq (a b:Int) (ha:U64 a) (hb:U64 b) (W:World):TW 156 #[.int .i64 76,(.int .u64 a),(.int .u64 b)] W (.tuple #[.int .u64 (lowV (a+b)),.bool true]):=by
 go_enter func156,ntmps156;go_wp2_with ((first | (go_at_call 202;with_reducible refine (zdR 76 a b (by decide) _).tq ?_) | (go_at_call 203;with_reducible refine (zoL a b ha hb _).tq ?_)));go_ret2;exact ⟨rfl,rfl⟩
theorem zzs (a b:Int) (ha:U64 a) (hb:U64 b) (W:World):TW 156 #[.int .i64 77,(.int .u64 a),(.int .u64 b)] W (.tuple #[.int .u64 (lowV (bits .xor .u64 a b)),.bool true]):=by
 go_enter func156,ntmps156;go_wp2_with ((first | (go_at_call 202;with_reducible refine (zdR 77 a b (by decide) _).tq ?_) | (go_at_call 203;with_reducible refine (zmg a b ha hb _).tq ?_)));go_ret2;exact ⟨rfl,rfl⟩
theorem znU (a b:Int) (ha:U64 a) (hb:U64 b) (W:World):TW 156 #[.int .i64 78,(.int .u64 a),(.int .u64 b)] W (.tuple #[.int .u64 (lowV (bits .and .u64 a b)),.bool true]):=by
 go_enter func156,ntmps156;go_wp2_with ((first | (go_at_call 202;with_reducible refine (zdR 78 a b (by decide) _).tq ?_) | (go_at_call 203;with_reducible refine (zwy a b ha hb _).tq ?_)));go_ret2;exact ⟨rfl,rfl⟩
theorem zz4 (a b:Int) (ha:U64 a) (hb:U64 b) (W:World):TW 156 #[.int .i64 79,(.int .u64 a),(.int .u64 b)] W (.tuple #[.int .u64 (lowV (bits .or .u64 a b)),.bool true]):=by
 go_enter func156,ntmps156;go_wp2_with ((first | (go_at_call 202;with_reducible refine (zdR 79 a b (by decide) _).tq ?_) | (go_at_call 203;with_reducible refine (zmo a b ha hb _).tq ?_)));go_ret2;exact ⟨rfl,rfl⟩
theorem zz5 (a b:Int) (ha:U64 a) (hb:U64 b) (W:World):TW 156 #[.int .i64 80,(.int .u64 a),(.int .u64 b)] W (.tuple #[.int .u64 (minT a b),.bool true]):=by
 go_enter func156,ntmps156;go_wp2_with ((first | (go_at_call 202;with_reducible refine (zdR 80 a b (by decide) _).tq ?_) | (go_at_call 203;with_reducible refine (zvZ a b ha hb _).tq ?_)));go_ret2;exact ⟨rfl,rfl⟩
theorem zly (a b:Int) (ha:U64 a) (hb:U64 b) (W:World):TW 156 #[.int .i64 81,(.int .u64 a),(.int .u64 b)] W (.tuple #[.int .u64 (maxT a b),.bool true]):=by
 go_enter func156,ntmps156;go_wp2_with ((first | (go_at_call 202;with_reducible refine (zdR 81 a b (by decide) _).tq ?_) | (go_at_call 203;with_reducible refine (zob a b ha hb _).tq ?_)));go_ret2;exact ⟨rfl,rfl⟩
theorem zyo (a b:Int) (ha:U64 a) (hb:U64 b) (W:World):TW 156 #[.int .i64 82,(.int .u64 a),(.int .u64 b)] W (.tuple #[.int .u64 (minU (lowV a) (lowV b)),.bool true]):=by
 go_enter func156,ntmps156;go_wp2_with ((first | (go_at_call 202;with_reducible refine (zdR 82 a b (by decide) _).tq ?_) | (go_at_call 203;with_reducible refine (zoZ a b ha hb _).tq ?_)));go_ret2;exact ⟨rfl,rfl⟩
theorem zwG (a b:Int) (ha:U64 a) (hb:U64 b) (W:World):TW 156 #[.int .i64 83,(.int .u64 a),(.int .u64 b)] W (.tuple #[.int .u64 (maxU (lowV a) (lowV b)),.bool true]):=by
 go_enter func156,ntmps156;go_wp2_with ((first | (go_at_call 202;with_reducible refine (zdR 83 a b (by decide) _).tq ?_) | (go_at_call 203;with_reducible refine (zww a b ha hb _).tq ?_)));go_ret2;exact ⟨rfl,rfl⟩
theorem zvF (op:Int) (a b:Int) (h:∀ k∈([86,87,88,89,90,91,92,93,94,75,76,77,78,79,80,81,82,83]:List Int),op≠k) (W:World):TW 156 #[.int .i64 op,(.int .u64 a),(.int .u64 b)] W (.tuple #[.int .u64 0,.bool false]):=by
 have h1:=hid (zfR h (M:=[86,87,88,89,90,91,92,93,94]) (by decide));have h2:=hid (zfR h (M:=[75,76,77,78,79,80,81,82,83]) (by decide));clear h;go_enter func156,ntmps156;go_wp2_with ((first | (go_at_call 202;with_reducible refine (zdR op a b h1.out _).tq ?_) | (go_at_call 203;with_reducible refine (zvU op a b h2.out _).tq ?_)));go_ret2;exact ⟨rfl,rfl⟩
theorem zrO (a b:Int) (W:World):TW 101 #[.int .i64 5,(.int .u64 a),(.int .u64 b)] W (.tuple #[.bool (a==b),.bool true]):=by
 go_enter func101,ntmps101
 go_wp2
 go_ret2;exact ⟨rfl,rfl⟩
theorem zvG (a b:Int) (W:World):TW 101 #[.int .i64 6,(.int .u64 a),(.int .u64 b)] W (.tuple #[.bool (a != b),.bool true]):=by
 go_enter func101,ntmps101
 go_wp2
 go_ret2;exact ⟨rfl,rfl⟩
theorem zn9 (a b:Int) (W:World):TW 101 #[.int .i64 7,(.int .u64 a),(.int .u64 b)] W (.tuple #[.bool (decide (wrap64 a<wrap64 b)),.bool true]):=by
 go_enter func101,ntmps101;go_wp2_with (go_at_call 137;with_reducible refine (zeK _ _ _).tq ?_);go_ret2;exact ⟨rfl,rfl⟩
theorem zzz (a b:Int) (W:World):TW 101 #[.int .i64 8,(.int .u64 a),(.int .u64 b)] W (.tuple #[.bool (!decide (wrap64 a<wrap64 b)),.bool true]):=by
 go_enter func101,ntmps101;go_wp2_with (go_at_call 137;with_reducible refine (zeK _ _ _).tq ?_);go_ret2;exact ⟨rfl,rfl⟩
theorem zmy (a b:Int) (W:World):TW 101 #[.int .i64 9,(.int .u64 a),(.int .u64 b)] W (.tuple #[.bool (decide (a<b)),.bool true]):=by
 go_enter func101,ntmps101
 go_wp2
 go_ret2;exact ⟨rfl,rfl⟩
theorem zqw (a b:Int) (W:World):TW 101 #[.int .i64 10,(.int .u64 a),(.int .u64 b)] W (.tuple #[.bool (decide (b≤a)),.bool true]):=by
 go_enter func101,ntmps101
 go_wp2
 go_ret2;exact ⟨rfl,rfl⟩
theorem zxg (op:Int) (a b:Int) (h:∀ k∈([5,6,7,8,9,10]:List Int),op≠k) (W:World):TW 101 #[.int .i64 op,(.int .u64 a),(.int .u64 b)] W (.tuple #[.bool false,.bool false]):=by
 have g5:(op==5)=false:=by rw [beq_eq_false_iff_ne];exact h 5 (by decide)
 have g6:(op==6)=false:=by rw [beq_eq_false_iff_ne];exact h 6 (by decide)
 have g7:(op==7)=false:=by rw [beq_eq_false_iff_ne];exact h 7 (by decide)
 have g8:(op==8)=false:=by rw [beq_eq_false_iff_ne];exact h 8 (by decide)
 have g9:(op==9)=false:=by rw [beq_eq_false_iff_ne];exact h 9 (by decide)
 have g10:(op==10)=false:=by rw [beq_eq_false_iff_ne];exact h 10 (by decide)
 clear h;go_enter func101,ntmps101
 go_wp2
 go_ret2;exact ⟨rfl,rfl⟩
end Go.Proofs.YtplcfdnfeclpmaaGreatDoor.Al
