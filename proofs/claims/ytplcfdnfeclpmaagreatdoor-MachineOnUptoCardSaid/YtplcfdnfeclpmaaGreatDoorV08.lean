/- MachineOn, part 8. -/
import Derived.Test.YtplcfdnfeclpmaaGreatDoorV07
set_option maxHeartbeats 4000000
set_option maxRecDepth 100000
set_option linter.unusedVariables false
open Go.Lib (hid)
open Go Go.RowKit Go.Deep Go.Joins Go.Proofs.Tryz
namespace Go.Proofs.YtplcfdnfeclpmaaGreatDoor.Al
theorem zlu (b:Int) (hb:U64 b) (k:Nat) (hk:k≤6):bits .and .u64 b ((2 ^ k - 1:Nat):Int)=b % ((2 ^ k:Nat):Int):=by
 obtain ⟨n,rfl⟩:=Int.eq_ofNat_of_zero_le hb.1;have h1:(2:Nat) ^ k≤2 ^ 6:=Nat.pow_le_pow_right (by omega) hk;have h:=bits_and_u64_nat n (2 ^ k - 1) (by have:=hb.2;omega) (by omega);rw [Nat.and_two_pow_sub_one_eq_mod] at h;rw [h,Int.natCast_emod]
theorem zfi (b:Int) (hb:U64 b):∃ k:Int,bits .and .u64 b 63=k∧0≤k∧k≤63∧k=b % 64 :=
 ⟨b % 64,zlu b hb 6 (by omega),by omega,by omega,rfl⟩
theorem zfe (b:Int) (hb:U64 b):∃ k:Int,bits .and .u64 b 31=k∧0≤k∧k≤31∧k=b % 32 :=
 ⟨b % 32,zlu b hb 5 (by omega),by omega,by omega,rfl⟩
theorem zsa (a b:Int) (ha:U64 a) (hb:U64 b) (W:World):TW 157 #[.int .i64 31,(.int .u64 a),(.int .u64 b)] W (.tuple #[.int .u64 (uV (a+b)),.bool true]):=by
 go_enter func157,ntmps157
 go_wp2
 go_ret2;exact ⟨rfl,rfl⟩
theorem zum (a b:Int) (ha:U64 a) (hb:U64 b) (W:World):TW 157 #[.int .i64 22,(.int .u64 a),(.int .u64 b)] W (.tuple #[.int .u64 (uV (a+b)),.bool true]):=by
 go_enter func157,ntmps157
 go_wp2
 go_ret2;exact ⟨rfl,rfl⟩
theorem zAJ (a b:Int) (ha:U64 a) (hb:U64 b) (W:World):TW 157 #[.int .i64 32,(.int .u64 a),(.int .u64 b)] W (.tuple #[.int .u64 (uV (a - b)),.bool true]):=by
 go_enter func157,ntmps157
 go_wp2
 go_ret2;exact ⟨rfl,rfl⟩
theorem zrK (a b:Int) (ha:U64 a) (hb:U64 b) (W:World):TW 157 #[.int .i64 33,(.int .u64 a),(.int .u64 b)] W (.tuple #[.int .u64 (uV (a*2 ^ (b % 64).toNat)),.bool true]):=by
 obtain ⟨k,hk,h0,h1,he⟩:=zfi b hb;go_enter func157,ntmps157
 go_wp2
 go_ret2;exact ⟨rfl,rfl⟩
theorem zwA (a b:Int) (ha:U64 a) (hb:U64 b) (W:World):TW 157 #[.int .i64 28,(.int .u64 a),(.int .u64 b)] W (.tuple #[.int .u64 (uV (a*2 ^ (b % 64).toNat)),.bool true]):=by
 obtain ⟨k,hk,h0,h1,he⟩:=zfi b hb;go_enter func157,ntmps157
 go_wp2
 go_ret2;exact ⟨rfl,rfl⟩
theorem zyT (a b:Int) (ha:U64 a) (hb:U64 b) (W:World):TW 157 #[.int .i64 37,(.int .u64 a),(.int .u64 b)] W (.tuple #[.int .u64 (a / 2 ^ (b % 64).toNat),.bool true]):=by
 obtain ⟨k,hk,h0,h1,he⟩:=zfi b hb;go_enter func157,ntmps157
 go_wp2
 go_ret2;exact ⟨rfl,rfl⟩
theorem zzN (a b:Int) (ha:U64 a) (hb:U64 b) (W:World):TW 157 #[.int .i64 29,(.int .u64 a),(.int .u64 b)] W (.tuple #[.int .u64 (a / 2 ^ (b % 64).toNat),.bool true]):=by
 obtain ⟨k,hk,h0,h1,he⟩:=zfi b hb;go_enter func157,ntmps157
 go_wp2
 go_ret2;exact ⟨rfl,rfl⟩
theorem zsz (a b:Int) (ha:U64 a) (hb:U64 b) (W:World):TW 157 #[.int .i64 38,(.int .u64 a),(.int .u64 b)] W (.tuple #[.int .u64 (uV (wrap64 a / 2 ^ (b % 64).toNat)),.bool true]):=by
 obtain ⟨k,hk,h0,h1,he⟩:=zfi b hb;go_enter func157,ntmps157
 go_wp2
 go_ret2;exact ⟨rfl,rfl⟩
theorem zm1 (a b:Int) (ha:U64 a) (hb:U64 b) (W:World):TW 157 #[.int .i64 30,(.int .u64 a),(.int .u64 b)] W (.tuple #[.int .u64 (uV (wrap64 a / 2 ^ (b % 64).toNat)),.bool true]):=by
 obtain ⟨k,hk,h0,h1,he⟩:=zfi b hb;go_enter func157,ntmps157
 go_wp2
 go_ret2;exact ⟨rfl,rfl⟩
theorem zxa (a b:Int) (ha:U64 a) (hb:U64 b) (W:World):TW 157 #[.int .i64 34,(.int .u64 a),(.int .u64 b)] W (.tuple #[.int .u64 (oneV (decide (wrap64 a<wrap64 b))),.bool true]):=by
 go_enter func157,ntmps157;go_wp2_with ((first | (go_at_call 137;with_reducible refine (zfo _ _ _).tq ?_) | (go_at_call 204;with_reducible refine (zgn _ _).tq ?_)));go_ret2;exact ⟨rfl,rfl⟩
theorem zoB (a b:Int) (ha:U64 a) (hb:U64 b) (W:World):TW 157 #[.int .i64 23,(.int .u64 a),(.int .u64 b)] W (.tuple #[.int .u64 (oneV (decide (wrap64 a<wrap64 b))),.bool true]):=by
 go_enter func157,ntmps157;go_wp2_with ((first | (go_at_call 137;with_reducible refine (zfo _ _ _).tq ?_) | (go_at_call 204;with_reducible refine (zgn _ _).tq ?_)));go_ret2;exact ⟨rfl,rfl⟩
theorem zpu (a b:Int) (ha:U64 a) (hb:U64 b) (W:World):TW 157 #[.int .i64 35,(.int .u64 a),(.int .u64 b)] W (.tuple #[.int .u64 (oneV (decide (a<b))),.bool true]):=by
 go_enter func157,ntmps157;go_wp2_with (go_at_call 204;with_reducible refine (zgn _ _).tq ?_);go_ret2;exact ⟨rfl,rfl⟩
theorem zx8 (a b:Int) (ha:U64 a) (hb:U64 b) (W:World):TW 157 #[.int .i64 24,(.int .u64 a),(.int .u64 b)] W (.tuple #[.int .u64 (oneV (decide (a<b))),.bool true]):=by
 go_enter func157,ntmps157;go_wp2_with (go_at_call 204;with_reducible refine (zgn _ _).tq ?_);go_ret2;exact ⟨rfl,rfl⟩
theorem zql (a b:Int) (ha:U64 a) (hb:U64 b) (W:World):TW 157 #[.int .i64 36,(.int .u64 a),(.int .u64 b)] W (.tuple #[.int .u64 (bits .xor .u64 a b),.bool true]):=by
 go_enter func157,ntmps157
 go_wp2
 go_ret2;exact ⟨rfl,rfl⟩
theorem zmS (a b:Int) (ha:U64 a) (hb:U64 b) (W:World):TW 157 #[.int .i64 25,(.int .u64 a),(.int .u64 b)] W (.tuple #[.int .u64 (bits .xor .u64 a b),.bool true]):=by
 go_enter func157,ntmps157
 go_wp2
 go_ret2;exact ⟨rfl,rfl⟩
theorem zol (a b:Int) (ha:U64 a) (hb:U64 b) (W:World):TW 157 #[.int .i64 39,(.int .u64 a),(.int .u64 b)] W (.tuple #[.int .u64 (bits .or .u64 a b),.bool true]):=by
 go_enter func157,ntmps157
 go_wp2
 go_ret2;exact ⟨rfl,rfl⟩
theorem zxN (a b:Int) (ha:U64 a) (hb:U64 b) (W:World):TW 157 #[.int .i64 26,(.int .u64 a),(.int .u64 b)] W (.tuple #[.int .u64 (bits .or .u64 a b),.bool true]):=by
 go_enter func157,ntmps157
 go_wp2
 go_ret2;exact ⟨rfl,rfl⟩
theorem zAv (a b:Int) (ha:U64 a) (hb:U64 b) (W:World):TW 157 #[.int .i64 40,(.int .u64 a),(.int .u64 b)] W (.tuple #[.int .u64 (bits .and .u64 a b),.bool true]):=by
 go_enter func157,ntmps157
 go_wp2
 go_ret2;exact ⟨rfl,rfl⟩
theorem zts (a b:Int) (ha:U64 a) (hb:U64 b) (W:World):TW 157 #[.int .i64 27,(.int .u64 a),(.int .u64 b)] W (.tuple #[.int .u64 (bits .and .u64 a b),.bool true]):=by
 go_enter func157,ntmps157
 go_wp2
 go_ret2;exact ⟨rfl,rfl⟩
theorem zbZ (op:Int) (a b:Int) (h:∀ k∈([31,22,32,33,28,37,29,38,30,34,23,35,24,36,25,39,26,40,27]:List Int),op≠k) (W:World):TW 157 #[.int .i64 op,(.int .u64 a),(.int .u64 b)] W (.tuple #[.int .u64 0,.bool false]):=by
 have g31:(op==31)=false:=by rw [beq_eq_false_iff_ne];exact h 31 (by decide)
 have g22:(op==22)=false:=by rw [beq_eq_false_iff_ne];exact h 22 (by decide)
 have g32:(op==32)=false:=by rw [beq_eq_false_iff_ne];exact h 32 (by decide)
 have g33:(op==33)=false:=by rw [beq_eq_false_iff_ne];exact h 33 (by decide)
 have g28:(op==28)=false:=by rw [beq_eq_false_iff_ne];exact h 28 (by decide)
 have g37:(op==37)=false:=by rw [beq_eq_false_iff_ne];exact h 37 (by decide)
 have g29:(op==29)=false:=by rw [beq_eq_false_iff_ne];exact h 29 (by decide)
 have g38:(op==38)=false:=by rw [beq_eq_false_iff_ne];exact h 38 (by decide)
 have g30:(op==30)=false:=by rw [beq_eq_false_iff_ne];exact h 30 (by decide)
 have g34:(op==34)=false:=by rw [beq_eq_false_iff_ne];exact h 34 (by decide)
 have g23:(op==23)=false:=by rw [beq_eq_false_iff_ne];exact h 23 (by decide)
 have g35:(op==35)=false:=by rw [beq_eq_false_iff_ne];exact h 35 (by decide)
 have g24:(op==24)=false:=by rw [beq_eq_false_iff_ne];exact h 24 (by decide)
 have g36:(op==36)=false:=by rw [beq_eq_false_iff_ne];exact h 36 (by decide)
 have g25:(op==25)=false:=by rw [beq_eq_false_iff_ne];exact h 25 (by decide)
 have g39:(op==39)=false:=by rw [beq_eq_false_iff_ne];exact h 39 (by decide)
 have g26:(op==26)=false:=by rw [beq_eq_false_iff_ne];exact h 26 (by decide)
 have g40:(op==40)=false:=by rw [beq_eq_false_iff_ne];exact h 40 (by decide)
 have g27:(op==27)=false:=by rw [beq_eq_false_iff_ne];exact h 27 (by decide)
 clear h;go_enter func157,ntmps157
 go_wp2
 go_ret2;exact ⟨rfl,rfl⟩
theorem zoz (a b:Int) (ha:U64 a) (hb:U64 b) (W:World):TW 158 #[.int .i64 60,(.int .u64 a),(.int .u64 b)] W (.tuple #[.int .u64 (uV (a*b)),.bool true]):=by
 go_enter func158,ntmps158
 go_wp2
 go_ret2;exact ⟨rfl,rfl⟩
theorem zrU (a b:Int) (ha:U64 a) (hb:U64 b) (W:World):TW 158 #[.int .i64 61,(.int .u64 a),(.int .u64 b)] W (.tuple #[.int .u64 (uV (a*b / 18446744073709551616 - zey a b - zey b a)),.bool true]):=by
 go_enter func158,ntmps158;go_wp2_with ((first | (go_at_call 205;with_reducible refine (zii _ _ ha hb _).tq ?_) | (go_at_call 206;with_reducible refine (zjO _ _ _).tq ?_)));go_ret2;refine ⟨zaP ?_ rfl,rfl⟩
 simp only [IntKind.wrap_u64,zfc]
 try omega
theorem zsi (a b:Int) (ha:U64 a) (hb:U64 b) (W:World):TW 158 #[.int .i64 62,(.int .u64 a),(.int .u64 b)] W (.tuple #[.int .u64 (uV (a*b / 18446744073709551616 - zey a b)),.bool true]):=by
 go_enter func158,ntmps158;go_wp2_with ((first | (go_at_call 205;with_reducible refine (zii _ _ ha hb _).tq ?_) | (go_at_call 206;with_reducible refine (zjO _ _ _).tq ?_)));go_ret2;refine ⟨zaP ?_ rfl,rfl⟩
 simp only [IntKind.wrap_u64,zfc]
 try omega
theorem zl6 (a b:Int) (ha:U64 a) (hb:U64 b) (W:World):TW 158 #[.int .i64 63,(.int .u64 a),(.int .u64 b)] W (.tuple #[.int .u64 (a*b / 18446744073709551616),.bool true]):=by
 go_enter func158,ntmps158;go_wp2_with (go_at_call 205;with_reducible refine (zii _ _ ha hb _).tq ?_);go_ret2;exact ⟨rfl,rfl⟩
theorem zmw (a b:Int) (ha:U64 a) (hb:U64 b) (W:World):TW 158 #[.int .i64 64,(.int .u64 a),(.int .u64 b)] W (.tuple #[.int .u64 (qsV a b),.bool true]):=by
 go_enter func158,ntmps158;go_wp2_with (go_at_call 207;with_reducible refine (zj1 _ _ hb _).tq ?_);go_ret2;exact ⟨rfl,rfl⟩
theorem zm8 (a b:Int) (ha:U64 a) (hb:U64 b) (W:World):TW 158 #[.int .i64 65,(.int .u64 a),(.int .u64 b)] W (.tuple #[.int .u64 (quV a b),.bool true]):=by
 go_enter func158,ntmps158;go_wp2_with (go_at_call 208;with_reducible refine (ziI _ _ ha hb _).tq ?_);go_ret2;exact ⟨rfl,rfl⟩
theorem zpo (a b:Int) (ha:U64 a) (hb:U64 b) (W:World):TW 158 #[.int .i64 66,(.int .u64 a),(.int .u64 b)] W (.tuple #[.int .u64 (rsV a b),.bool true]):=by
 go_enter func158,ntmps158;go_wp2_with (go_at_call 209;with_reducible refine (zjF _ _ hb _).tq ?_);go_ret2;exact ⟨rfl,rfl⟩
theorem zw4 (a b:Int) (ha:U64 a) (hb:U64 b) (W:World):TW 158 #[.int .i64 67,(.int .u64 a),(.int .u64 b)] W (.tuple #[.int .u64 (reV a b),.bool true]):=by
 go_enter func158,ntmps158;go_wp2_with (go_at_call 210;with_reducible refine (zku _ _ ha hb _).tq ?_);go_ret2;exact ⟨rfl,rfl⟩
theorem zcR (op:Int) (a b:Int) (h:∀ k∈([60,61,62,63,64,65,66,67]:List Int),op≠k) (W:World):TW 158 #[.int .i64 op,(.int .u64 a),(.int .u64 b)] W (.tuple #[.int .u64 0,.bool false]):=by
 have g60:(op==60)=false:=by rw [beq_eq_false_iff_ne];exact h 60 (by decide)
 have g61:(op==61)=false:=by rw [beq_eq_false_iff_ne];exact h 61 (by decide)
 have g62:(op==62)=false:=by rw [beq_eq_false_iff_ne];exact h 62 (by decide)
 have g63:(op==63)=false:=by rw [beq_eq_false_iff_ne];exact h 63 (by decide)
 have g64:(op==64)=false:=by rw [beq_eq_false_iff_ne];exact h 64 (by decide)
 have g65:(op==65)=false:=by rw [beq_eq_false_iff_ne];exact h 65 (by decide)
 have g66:(op==66)=false:=by rw [beq_eq_false_iff_ne];exact h 66 (by decide)
 have g67:(op==67)=false:=by rw [beq_eq_false_iff_ne];exact h 67 (by decide)
 clear h;go_enter func158,ntmps158
 go_wp2
 go_ret2;exact ⟨rfl,rfl⟩
theorem zxk (a b:Int) (ha:U64 a) (hb:U64 b) (W:World):TW 159 #[.int .i64 45,(.int .u64 a),(.int .u64 b)] W (.tuple #[.int .u64 (za3 (a+b)),.bool true]):=by
 go_enter func159,ntmps159;go_wp2_with (go_at_call 112;with_reducible refine (zcl _ _).tq ?_);go_ret2;refine ⟨zaP ?_ rfl,rfl⟩
 simp only [IntKind.wrap_u64,zdA]
 try omega
theorem zna (a b:Int) (ha:U64 a) (hb:U64 b) (W:World):TW 159 #[.int .i64 41,(.int .u64 a),(.int .u64 b)] W (.tuple #[.int .u64 (za3 (a+b)),.bool true]):=by
 go_enter func159,ntmps159;go_wp2_with (go_at_call 112;with_reducible refine (zcl _ _).tq ?_);go_ret2;refine ⟨zaP ?_ rfl,rfl⟩
 simp only [IntKind.wrap_u64,zdA]
 try omega
theorem zvA (a b:Int) (ha:U64 a) (hb:U64 b) (W:World):TW 159 #[.int .i64 46,(.int .u64 a),(.int .u64 b)] W (.tuple #[.int .u64 (za3 (a - b)),.bool true]):=by
 go_enter func159,ntmps159;go_wp2_with (go_at_call 112;with_reducible refine (zcl _ _).tq ?_);go_ret2;refine ⟨zaP ?_ rfl,rfl⟩
 simp only [IntKind.wrap_u64,zdA]
 try omega
theorem zmY (a b:Int) (ha:U64 a) (hb:U64 b) (W:World):TW 159 #[.int .i64 68,(.int .u64 a),(.int .u64 b)] W (.tuple #[.int .u64 (za3 (a*b)),.bool true]):=by
 go_enter func159,ntmps159;go_wp2_with (go_at_call 112;with_reducible refine (zcl _ _).tq ?_);go_ret2;refine ⟨zaP ?_ rfl,rfl⟩
 simp only [IntKind.wrap_u64,zdA]
 try omega
theorem ztr (a b:Int) (ha:U64 a) (hb:U64 b) (W:World):TW 159 #[.int .i64 47,(.int .u64 a),(.int .u64 b)] W (.tuple #[.int .u64 (za3 (a*2 ^ (b % 32).toNat)),.bool true]):=by
 obtain ⟨k,hk,h0,h1,he⟩:=zfe b hb;go_enter func159,ntmps159;go_wp2_with (go_at_call 112;with_reducible refine (zcl _ _).tq ?_);go_ret2;refine ⟨zaP ?_ rfl,rfl⟩
 first | rfl | (simp only [IntKind.wrap_u64,zdA];omega)
theorem zmC (a b:Int) (ha:U64 a) (hb:U64 b) (W:World):TW 159 #[.int .i64 42,(.int .u64 a),(.int .u64 b)] W (.tuple #[.int .u64 (za3 (a*2 ^ (b % 32).toNat)),.bool true]):=by
 obtain ⟨k,hk,h0,h1,he⟩:=zfe b hb;go_enter func159,ntmps159;go_wp2_with (go_at_call 112;with_reducible refine (zcl _ _).tq ?_);go_ret2;refine ⟨zaP ?_ rfl,rfl⟩
 first | rfl | (simp only [IntKind.wrap_u64,zdA];omega)
theorem zxS (a b:Int) (ha:U64 a) (hb:U64 b) (W:World):TW 159 #[.int .i64 48,(.int .u64 a),(.int .u64 b)] W (.tuple #[.int .u64 (za3 (lowV a / 2 ^ (b % 32).toNat)),.bool true]):=by
 obtain ⟨k,hk,h0,h1,he⟩:=zfe b hb;go_enter func159,ntmps159;go_wp2_with ((first | (go_at_call 112;with_reducible refine (zcl _ _).tq ?_) | (go_at_call 211;with_reducible refine (zc9 _ _).tq ?_)));go_ret2;refine ⟨zaP ?_ rfl,rfl⟩
 first | rfl | (simp only [IntKind.wrap_u64,zdA];omega)
theorem zzR (a b:Int) (ha:U64 a) (hb:U64 b) (W:World):TW 159 #[.int .i64 43,(.int .u64 a),(.int .u64 b)] W (.tuple #[.int .u64 (za3 (lowV a / 2 ^ (b % 32).toNat)),.bool true]):=by
 obtain ⟨k,hk,h0,h1,he⟩:=zfe b hb;go_enter func159,ntmps159;go_wp2_with ((first | (go_at_call 112;with_reducible refine (zcl _ _).tq ?_) | (go_at_call 211;with_reducible refine (zc9 _ _).tq ?_)));go_ret2;refine ⟨zaP ?_ rfl,rfl⟩
 first | rfl | (simp only [IntKind.wrap_u64,zdA];omega)
theorem zvW (a b:Int) (ha:U64 a) (hb:U64 b) (W:World):TW 159 #[.int .i64 49,(.int .u64 a),(.int .u64 b)] W (.tuple #[.int .u64 (uV (wrap32 a / 2 ^ (b % 32).toNat)),.bool true]):=by
 obtain ⟨k,hk,h0,h1,he⟩:=zfe b hb;go_enter func159,ntmps159
 go_wp2
 go_ret2;refine ⟨zaP ?_ rfl,rfl⟩
 first | rfl | (simp only [IntKind.wrap_u64,zdA];omega)
theorem zu4 (a b:Int) (ha:U64 a) (hb:U64 b) (W:World):TW 159 #[.int .i64 44,(.int .u64 a),(.int .u64 b)] W (.tuple #[.int .u64 (uV (wrap32 a / 2 ^ (b % 32).toNat)),.bool true]):=by
 obtain ⟨k,hk,h0,h1,he⟩:=zfe b hb;go_enter func159,ntmps159
 go_wp2
 go_ret2;refine ⟨zaP ?_ rfl,rfl⟩
 first | rfl | (simp only [IntKind.wrap_u64,zdA];omega)
theorem znQ (a b:Int) (ha:U64 a) (hb:U64 b) (W:World):TW 159 #[.int .i64 69,(.int .u64 a),(.int .u64 b)] W (.tuple #[.int .u64 (za3 (qsV (za3 a) (za3 b))),.bool true]):=by
 go_enter func159,ntmps159;go_wp2_with ((first | (go_at_call 112;with_reducible refine (zcl _ _).tq ?_) | (go_at_call 207;with_reducible refine (zj1 _ _ (zaw _) _).tq ?_)));go_ret2;exact ⟨rfl,rfl⟩
theorem zyR (a b:Int) (ha:U64 a) (hb:U64 b) (W:World):TW 159 #[.int .i64 70,(.int .u64 a),(.int .u64 b)] W (.tuple #[.int .u64 (za3 (quV (lowV a) (lowV b))),.bool true]):=by
 go_enter func159,ntmps159;go_wp2_with ((first | (go_at_call 112;with_reducible refine (zcl _ _).tq ?_) | (go_at_call 211;with_reducible refine (zc9 _ _).tq ?_) | (go_at_call 208;with_reducible refine (ziI _ _ (zab _) (zab _) _).tq ?_)));go_ret2;exact ⟨rfl,rfl⟩
theorem ztH (a b:Int) (ha:U64 a) (hb:U64 b) (W:World):TW 159 #[.int .i64 71,(.int .u64 a),(.int .u64 b)] W (.tuple #[.int .u64 (za3 (rsV (za3 a) (za3 b))),.bool true]):=by
 go_enter func159,ntmps159;go_wp2_with ((first | (go_at_call 112;with_reducible refine (zcl _ _).tq ?_) | (go_at_call 209;with_reducible refine (zjF _ _ (zaw _) _).tq ?_)));go_ret2;exact ⟨rfl,rfl⟩
theorem zvk (a b:Int) (ha:U64 a) (hb:U64 b) (W:World):TW 159 #[.int .i64 72,(.int .u64 a),(.int .u64 b)] W (.tuple #[.int .u64 (za3 (reV (lowV a) (lowV b))),.bool true]):=by
 go_enter func159,ntmps159;go_wp2_with ((first | (go_at_call 112;with_reducible refine (zcl _ _).tq ?_) | (go_at_call 211;with_reducible refine (zc9 _ _).tq ?_) | (go_at_call 210;with_reducible refine (zku _ _ (zab _) (zab _) _).tq ?_)));go_ret2;exact ⟨rfl,rfl⟩
theorem zmk (op:Int) (a b:Int) (h:∀ k∈([45,41,46,68,47,42,48,43,49,44,69,70,71,72]:List Int),op≠k) (W:World):TW 159 #[.int .i64 op,(.int .u64 a),(.int .u64 b)] W (.tuple #[.int .u64 0,.bool false]):=by
 have g45:(op==45)=false:=by rw [beq_eq_false_iff_ne];exact h 45 (by decide)
 have g41:(op==41)=false:=by rw [beq_eq_false_iff_ne];exact h 41 (by decide)
 have g46:(op==46)=false:=by rw [beq_eq_false_iff_ne];exact h 46 (by decide)
 have g68:(op==68)=false:=by rw [beq_eq_false_iff_ne];exact h 68 (by decide)
 have g47:(op==47)=false:=by rw [beq_eq_false_iff_ne];exact h 47 (by decide)
 have g42:(op==42)=false:=by rw [beq_eq_false_iff_ne];exact h 42 (by decide)
 have g48:(op==48)=false:=by rw [beq_eq_false_iff_ne];exact h 48 (by decide)
 have g43:(op==43)=false:=by rw [beq_eq_false_iff_ne];exact h 43 (by decide)
 have g49:(op==49)=false:=by rw [beq_eq_false_iff_ne];exact h 49 (by decide)
 have g44:(op==44)=false:=by rw [beq_eq_false_iff_ne];exact h 44 (by decide)
 have g69:(op==69)=false:=by rw [beq_eq_false_iff_ne];exact h 69 (by decide)
 have g70:(op==70)=false:=by rw [beq_eq_false_iff_ne];exact h 70 (by decide)
 have g71:(op==71)=false:=by rw [beq_eq_false_iff_ne];exact h 71 (by decide)
 have g72:(op==72)=false:=by rw [beq_eq_false_iff_ne];exact h 72 (by decide)
 clear h;go_enter func159,ntmps159
 go_wp2
 go_ret2;exact ⟨rfl,rfl⟩
end Go.Proofs.YtplcfdnfeclpmaaGreatDoor.Al
