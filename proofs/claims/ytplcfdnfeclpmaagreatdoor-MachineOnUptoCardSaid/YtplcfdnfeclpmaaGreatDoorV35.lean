/- MachineOn, part 35. -/
import Derived.Test.YtplcfdnfeclpmaaGreatDoorV09
set_option maxHeartbeats 4000000
set_option maxRecDepth 100000
open Go.Lib (hid)
open Go Go.RowKit Go.Deep Go.Joins Go.Proofs.Tryz
namespace Go.Proofs.YtplcfdnfeclpmaaGreatDoor.Al
theorem zad (op:BinOp) (a b:Int):U64 (bits op .u64 a b):=⟨bits_lo_u64 op a b,by have:=bits_hi_u64 op a b;omega⟩
theorem zaJ (p:Bool):U64 (oneV p):=by unfold oneV U64;cases p <;> simp
theorem zaK (a:Int) (ha:U64 a) (k:Nat):U64 (a / 2 ^ k):=by
 have h0:(0:Int)<2 ^ k:=Int.pow_pos (by omega);refine ⟨Int.ediv_nonneg ha.1 (Int.le_of_lt h0),?_⟩
 exact Int.lt_of_le_of_lt (Int.ediv_le_self _ ha.1) ha.2
theorem zaG (a b:Int) (ha:U64 a) (hb:U64 b):U64 (a*b / 18446744073709551616):=by
 obtain ⟨a0,a1⟩:=ha;obtain ⟨b0,b1⟩:=hb;have h:a*b≤18446744073709551615*18446744073709551615:=Int.mul_le_mul (by omega) (by omega) b0 (by omega);have h0:0≤a*b:=Int.mul_nonneg a0 b0;refine ⟨Int.ediv_nonneg h0 (by omega),?_⟩
 exact Int.ediv_lt_of_lt_mul (by omega) (by omega)
theorem zaH (a b:Int):U64 (qsV a b):=by
 unfold qsV
 split
 ·exact ⟨by omega,by omega⟩
 ·exact zax _
theorem zaq (a b:Int) (ha:U64 a):U64 (rsV a b):=by
 unfold rsV
 split
 ·exact ha
 ·exact zax _
theorem zal (a b:Int) (ha:U64 a) (hb:U64 b):U64 (minU a b):=by unfold minU;split <;> assumption
theorem zak (a b:Int) (ha:U64 a) (hb:U64 b):U64 (maxU a b):=by unfold maxU;split <;> assumption
theorem zaE (a b:Int) (ha:U64 a) (hb:U64 b):U64 (minS a b):=by unfold minS;split <;> assumption
theorem zaI (a b:Int) (ha:U64 a) (hb:U64 b):U64 (maxS a b):=by unfold maxS;split <;> assumption
theorem zaF (a b:Int):U64 (minT a b):=by unfold minT;split <;> exact zab _
theorem zaL (a b:Int):U64 (maxT a b):=by unfold maxT;split <;> exact zab _
theorem zap:U64 0:=⟨by omega,by omega⟩
theorem zo5 (op a b:Int) (ha:U64 a) (hb:U64 b):∃ x:Int,U64 x∧∃ p:Bool,∀ W,TW 115 #[.int .i64 op,.int .u64 a,.int .u64 b] W (.tuple #[.int .u64 x,.bool p]):=by
 by_cases h:op∈([31,22,32,33,28,37,29,38,30,34,23,35,24,36,25,39,26,40,27,60,61,62,63,64,65,66,67,45,41,46,68,47,42,48,43,49,44,69,70,71,72]:List Int)
 ·simp only [List.mem_cons,List.not_mem_nil,or_false] at h
  rcases h with rfl | rfl | rfl | rfl | rfl | rfl | rfl | rfl | rfl | rfl | rfl | rfl | rfl | rfl | rfl | rfl | rfl | rfl | rfl | rfl | rfl | rfl | rfl | rfl | rfl | rfl | rfl | rfl | rfl | rfl | rfl | rfl | rfl | rfl | rfl | rfl | rfl | rfl | rfl | rfl | rfl
  refine ⟨_,?_,_,fun W=>zvC a b ha hb W⟩;rotate_left
  refine ⟨_,?_,_,fun W=>zi0 a b ha hb W⟩;rotate_left
  refine ⟨_,?_,_,fun W=>zvm a b ha hb W⟩;rotate_left
  refine ⟨_,?_,_,fun W=>zwT a b ha hb W⟩;rotate_left
  refine ⟨_,?_,_,fun W=>zov a b ha hb W⟩;rotate_left
  refine ⟨_,?_,_,fun W=>zlK a b ha hb W⟩;rotate_left
  refine ⟨_,?_,_,fun W=>zwf a b ha hb W⟩;rotate_left
  refine ⟨_,?_,_,fun W=>zpy a b ha hb W⟩;rotate_left
  refine ⟨_,?_,_,fun W=>zzq a b ha hb W⟩;rotate_left
  refine ⟨_,?_,_,fun W=>zs5 a b ha hb W⟩;rotate_left
  refine ⟨_,?_,_,fun W=>zu5 a b ha hb W⟩;rotate_left
  refine ⟨_,?_,_,fun W=>zrv a b ha hb W⟩;rotate_left
  refine ⟨_,?_,_,fun W=>zpv a b ha hb W⟩;rotate_left
  refine ⟨_,?_,_,fun W=>ztW a b ha hb W⟩;rotate_left
  refine ⟨_,?_,_,fun W=>zsg a b ha hb W⟩;rotate_left
  refine ⟨_,?_,_,fun W=>zoF a b ha hb W⟩;rotate_left
  refine ⟨_,?_,_,fun W=>zro a b ha hb W⟩;rotate_left
  refine ⟨_,?_,_,fun W=>zyq a b ha hb W⟩;rotate_left
  refine ⟨_,?_,_,fun W=>zwM a b ha hb W⟩;rotate_left
  refine ⟨_,?_,_,fun W=>zoG a b ha hb W⟩;rotate_left
  refine ⟨_,?_,_,fun W=>zoC a b ha hb W⟩;rotate_left
  refine ⟨_,?_,_,fun W=>zrH a b ha hb W⟩;rotate_left
  refine ⟨_,?_,_,fun W=>ztA a b ha hb W⟩;rotate_left
  refine ⟨_,?_,_,fun W=>zu9 a b ha hb W⟩;rotate_left
  refine ⟨_,?_,_,fun W=>ztp a b ha hb W⟩;rotate_left
  refine ⟨_,?_,_,fun W=>zlF a b ha hb W⟩;rotate_left
  refine ⟨_,?_,_,fun W=>zvj a b ha hb W⟩;rotate_left
  refine ⟨_,?_,_,fun W=>znb a b ha hb W⟩;rotate_left
  refine ⟨_,?_,_,fun W=>zyu a b ha hb W⟩;rotate_left
  refine ⟨_,?_,_,fun W=>zzb a b ha hb W⟩;rotate_left
  refine ⟨_,?_,_,fun W=>zpG a b ha hb W⟩;rotate_left
  refine ⟨_,?_,_,fun W=>zup a b ha hb W⟩;rotate_left
  refine ⟨_,?_,_,fun W=>zvS a b ha hb W⟩;rotate_left
  refine ⟨_,?_,_,fun W=>zmn a b ha hb W⟩;rotate_left
  refine ⟨_,?_,_,fun W=>znI a b ha hb W⟩;rotate_left
  refine ⟨_,?_,_,fun W=>zre a b ha hb W⟩;rotate_left
  refine ⟨_,?_,_,fun W=>zwV a b ha hb W⟩;rotate_left
  refine ⟨_,?_,_,fun W=>zzU a b ha hb W⟩;rotate_left
  refine ⟨_,?_,_,fun W=>zm3 a b ha hb W⟩;rotate_left
  refine ⟨_,?_,_,fun W=>zoZ a b ha hb W⟩;rotate_left
  refine ⟨_,?_,_,fun W=>zor a b ha hb W⟩;rotate_left
  all_goals first | exact zax _ | exact zaw _ | exact zab _ | exact zad _ _ _ | exact zaJ _ | exact zaD _ _ ha hb | exact zaC _ _ ha hb | exact zaH _ _ | exact zaq _ _ ha | exact zaG _ _ ha hb | exact zaK _ ha _ | exact zaE _ _ ha hb | exact zaI _ _ ha hb | exact zaF _ _ | exact zaL _ _ | exact zal _ _ ha hb | exact zak _ _ ha hb | exact zal _ _ (zab _) (zab _) | exact zak _ _ (zab _) (zab _) | exact hb | exact ha
 ·exact ⟨0,zap,_,fun W=>zqF op a b (fun k hk e=>h (e ▸ hk)) W⟩
open Classical in
noncomputable def doV (op a b:Int):Int:=if op=22 then uV (a+b) else if h:∃ x:Int,U64 x∧∃ p:Bool,∀ W,TW 115 #[.int .i64 op,.int .u64 a,.int .u64 b] W (.tuple #[.int .u64 x,.bool p]) then Classical.choose h else 0
theorem do_u (op a b:Int):U64 (doV op a b):=by
 unfold doV
 split
 ·exact zax _
 split
 ·rename_i h
  exact (Classical.choose_spec h).1
 ·exact zap
theorem ziV (op a b:Int) (ha:U64 a) (hb:U64 b):∃ p:Bool,∀ W,TW 115 #[.int .i64 op,.int .u64 a,.int .u64 b] W (.tuple #[.int .u64 (doV op a b),.bool p]):=by
 by_cases h22:op=22
 ·subst h22
  exact ⟨true,fun W=>zi0 a b ha hb W⟩
 have h:=zo5 op a b ha hb;unfold doV;rw [if_neg h22];rw [dif_pos h];exact (Classical.choose_spec h).2
theorem zwt (op a b:Int) (ha:U64 a) (hb:U64 b):∃ x:Int,U64 x∧∃ p:Bool,∀ W,TW 156 #[.int .i64 op,.int .u64 a,.int .u64 b] W (.tuple #[.int .u64 x,.bool p]):=by
 by_cases h:op∈([86,87,88,89,90,91,92,93,94,75,76,77,78,79,80,81,82,83]:List Int)
 ·simp only [List.mem_cons,List.not_mem_nil,or_false] at h
  rcases h with rfl | rfl | rfl | rfl | rfl | rfl | rfl | rfl | rfl | rfl | rfl | rfl | rfl | rfl | rfl | rfl | rfl | rfl
  refine ⟨_,?_,_,fun W=>zrg a b ha hb W⟩;rotate_left
  refine ⟨_,?_,_,fun W=>zxQ a b ha hb W⟩;rotate_left
  refine ⟨_,?_,_,fun W=>zrG a b ha hb W⟩;rotate_left
  refine ⟨_,?_,_,fun W=>zsX a b ha hb W⟩;rotate_left
  refine ⟨_,?_,_,fun W=>zrI a b ha hb W⟩;rotate_left
  refine ⟨_,?_,_,fun W=>zr7 a b ha hb W⟩;rotate_left
  refine ⟨_,?_,_,fun W=>zzc a b ha hb W⟩;rotate_left
  refine ⟨_,?_,_,fun W=>zpe a b ha hb W⟩;rotate_left
  refine ⟨_,?_,_,fun W=>ztj a b ha hb W⟩;rotate_left
  refine ⟨_,?_,_,fun W=>znl a b ha hb W⟩;rotate_left
  refine ⟨_,?_,_,fun W=>zuX a b ha hb W⟩;rotate_left
  refine ⟨_,?_,_,fun W=>zlH a b ha hb W⟩;rotate_left
  refine ⟨_,?_,_,fun W=>zmx a b ha hb W⟩;rotate_left
  refine ⟨_,?_,_,fun W=>zlJ a b ha hb W⟩;rotate_left
  refine ⟨_,?_,_,fun W=>zl2 a b ha hb W⟩;rotate_left
  refine ⟨_,?_,_,fun W=>zzS a b ha hb W⟩;rotate_left
  refine ⟨_,?_,_,fun W=>zlL a b ha hb W⟩;rotate_left
  refine ⟨_,?_,_,fun W=>zzI a b ha hb W⟩;rotate_left
  all_goals first | exact zax _ | exact zaw _ | exact zab _ | exact zad _ _ _ | exact zaJ _ | exact zaD _ _ ha hb | exact zaC _ _ ha hb | exact zaH _ _ | exact zaq _ _ ha | exact zaG _ _ ha hb | exact zaK _ ha _ | exact zaE _ _ ha hb | exact zaI _ _ ha hb | exact zaF _ _ | exact zaL _ _ | exact zal _ _ ha hb | exact zak _ _ ha hb | exact zal _ _ (zab _) (zab _) | exact zak _ _ (zab _) (zab _) | exact hb | exact ha
 ·exact ⟨0,zap,_,fun W=>zq8 op a b (fun k hk e=>h (e ▸ hk)) W⟩
open Classical in
noncomputable def amV (op a b:Int):Int:=if h:∃ x:Int,U64 x∧∃ p:Bool,∀ W,TW 156 #[.int .i64 op,.int .u64 a,.int .u64 b] W (.tuple #[.int .u64 x,.bool p]) then Classical.choose h else 0
theorem am_u (op a b:Int):U64 (amV op a b):=by
 unfold amV
 split
 ·rename_i h
  exact (Classical.choose_spec h).1
 ·exact zap
theorem zvl (op a b:Int) (ha:U64 a) (hb:U64 b):∃ p:Bool,∀ W,TW 156 #[.int .i64 op,.int .u64 a,.int .u64 b] W (.tuple #[.int .u64 (amV op a b),.bool p]):=by
 have h:=zwt op a b ha hb;unfold amV;rw [dif_pos h];exact (Classical.choose_spec h).2
theorem zq4 (a b:Int):doV 22 a b=uV (a+b):=if_pos rfl
def brV (op a b:Int):Bool:=if op=5 then a==b else if op=6 then a != b else if op=7 then decide (wrap64 a<wrap64 b) else if op=8 then !decide (wrap64 a<wrap64 b) else if op=9 then decide (a<b) else if op=10 then decide (b≤a) else false
theorem zyI (op a b:Int):∃ p:Bool,∀ W,TW 101 #[.int .i64 op,.int .u64 a,.int .u64 b] W (.tuple #[.bool (brV op a b),.bool p]):=by
 by_cases h:op∈([5,6,7,8,9,10]:List Int)
 ·simp only [List.mem_cons,List.not_mem_nil,or_false] at h
  rcases h with rfl | rfl | rfl | rfl | rfl | rfl
  ·exact ⟨_,fun W=>zyA a b W⟩
  ·exact ⟨_,fun W=>zun a b W⟩
  ·exact ⟨_,fun W=>zvX a b W⟩
  ·exact ⟨_,fun W=>zoO a b W⟩
  ·exact ⟨_,fun W=>zsN a b W⟩
  ·exact ⟨_,fun W=>zxD a b W⟩
 ·have hv:brV op a b=false:=by
   unfold brV;simp only [List.mem_cons,List.not_mem_nil,or_false,not_or] at h;rw [if_neg h.1,if_neg h.2.1,if_neg h.2.2.1,if_neg h.2.2.2.1,if_neg h.2.2.2.2.1,if_neg h.2.2.2.2.2]
  rw [hv];exact ⟨_,fun W=>zpJ op a b (fun k hk e=>h (e ▸ hk)) W⟩
end Go.Proofs.YtplcfdnfeclpmaaGreatDoor.Al
