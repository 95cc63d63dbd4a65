/- MachineNumbers, part 37. -/
import Derived.Test.YtplcfdnfeclpmaaGreatDoorV17
import Derived.Test.YtplcfdnfeclpmaaGreatDoorV36
set_option maxHeartbeats 4000000
set_option maxRecDepth 100000
open Go.Lib (hid)
open Go Go.RowKit Go.Deep Go.Joins Go.Proofs.Tryz
namespace Go.Proofs.YtplcfdnfeclpmaaGreatDoor.Cs
def U64 (x:Int):Prop:=0≤x∧x<18446744073709551616
structure RU (c:Reg):Prop where
 s0:U64 c.s0
 s1:U64 c.s1
 s2:U64 c.s2
 s3:U64 c.s3
 s4:U64 c.s4
 s5:U64 c.s5
 s6:U64 c.s6
 s7:U64 c.s7
 s8:U64 c.s8
 s9:U64 c.s9
 s10:U64 c.s10
 s11:U64 c.s11
 s12:U64 c.s12
 s13:U64 c.s13
 s14:U64 c.s14
 s15:U64 c.s15
theorem zae (op:BinOp) (a b:Int):U64 (bits op .u64 a b):=⟨bits_lo_u64 op a b,by have:=bits_hi_u64 op a b;omega⟩
theorem zao:U64 0:=⟨by omega,by omega⟩
theorem zhz (v:Int):U64 (stV v):=by unfold stV;split <;> exact zae _ _ _
theorem zik (w v:Int) (h:U64 w):U64 (spV w v):=by
 unfold spV
 split
 ·exact zae _ _ _
 ·exact h
theorem zed (n v b:Int):U64 (mxV n v b):=zae _ _ _
theorem zan (p l:Int):U64 (rsV p l):=zae _ _ _
theorem zwQ (c:Reg) (m n l k:Int) (hc:RU c) (hk:U64 k):∃ r:Int,∃ ok:Bool,U64 r∧∀ W,TB 108 #[regV c,.int .i64 m,.int .i64 n,.int .u64 l,.int .u64 k] W (.tuple #[.int .u64 r,.bool ok]):=by
 rcases Bool.eq_false_or_eq_true (decide (zaz n≤m)) with hm | hm
 ·by_cases h:n∈([256,260,261,320,321,322,323,324,384,768,769,770,771,772,773,832,833,834,835,836,2816,2818,3072,3073,3074,3857,3858,3859,3860]:List Int)
  ·simp only [List.mem_cons,List.not_mem_nil,or_false] at h
   rcases h with rfl | rfl | rfl | rfl | rfl | rfl | rfl | rfl | rfl | rfl | rfl | rfl | rfl | rfl | rfl | rfl | rfl | rfl | rfl | rfl | rfl | rfl | rfl | rfl | rfl | rfl | rfl | rfl | rfl
   ·exact ⟨_,_,by first | exact zae _ _ _ | exact zan _ _ | exact zao | exact hk | exact hc.s0 | exact hc.s1 | exact hc.s2 | exact hc.s3 | exact hc.s5 | exact hc.s6 | exact hc.s7 | exact hc.s8 | exact hc.s9 | exact hc.s10 | exact hc.s11 | exact hc.s12 | exact hc.s13 | exact hc.s14 | exact hc.s15 | exact ⟨by omega,by omega⟩,fun W=>zph c m l k hm W⟩
   ·exact ⟨_,_,by first | exact zae _ _ _ | exact zan _ _ | exact zao | exact hk | exact hc.s0 | exact hc.s1 | exact hc.s2 | exact hc.s3 | exact hc.s5 | exact hc.s6 | exact hc.s7 | exact hc.s8 | exact hc.s9 | exact hc.s10 | exact hc.s11 | exact hc.s12 | exact hc.s13 | exact hc.s14 | exact hc.s15 | exact ⟨by omega,by omega⟩,fun W=>zuq c m l k hm W⟩
   ·exact ⟨_,_,by first | exact zae _ _ _ | exact zan _ _ | exact zao | exact hk | exact hc.s0 | exact hc.s1 | exact hc.s2 | exact hc.s3 | exact hc.s5 | exact hc.s6 | exact hc.s7 | exact hc.s8 | exact hc.s9 | exact hc.s10 | exact hc.s11 | exact hc.s12 | exact hc.s13 | exact hc.s14 | exact hc.s15 | exact ⟨by omega,by omega⟩,fun W=>zzi c m l k hm W⟩
   ·exact ⟨_,_,by first | exact zae _ _ _ | exact zan _ _ | exact zao | exact hk | exact hc.s0 | exact hc.s1 | exact hc.s2 | exact hc.s3 | exact hc.s5 | exact hc.s6 | exact hc.s7 | exact hc.s8 | exact hc.s9 | exact hc.s10 | exact hc.s11 | exact hc.s12 | exact hc.s13 | exact hc.s14 | exact hc.s15 | exact ⟨by omega,by omega⟩,fun W=>zvM c m l k hm W⟩
   ·exact ⟨_,_,by first | exact zae _ _ _ | exact zan _ _ | exact zao | exact hk | exact hc.s0 | exact hc.s1 | exact hc.s2 | exact hc.s3 | exact hc.s5 | exact hc.s6 | exact hc.s7 | exact hc.s8 | exact hc.s9 | exact hc.s10 | exact hc.s11 | exact hc.s12 | exact hc.s13 | exact hc.s14 | exact hc.s15 | exact ⟨by omega,by omega⟩,fun W=>zp9 c m l k hm W⟩
   ·exact ⟨_,_,by first | exact zae _ _ _ | exact zan _ _ | exact zao | exact hk | exact hc.s0 | exact hc.s1 | exact hc.s2 | exact hc.s3 | exact hc.s5 | exact hc.s6 | exact hc.s7 | exact hc.s8 | exact hc.s9 | exact hc.s10 | exact hc.s11 | exact hc.s12 | exact hc.s13 | exact hc.s14 | exact hc.s15 | exact ⟨by omega,by omega⟩,fun W=>zlM c m l k hm W⟩
   ·exact ⟨_,_,by first | exact zae _ _ _ | exact zan _ _ | exact zao | exact hk | exact hc.s0 | exact hc.s1 | exact hc.s2 | exact hc.s3 | exact hc.s5 | exact hc.s6 | exact hc.s7 | exact hc.s8 | exact hc.s9 | exact hc.s10 | exact hc.s11 | exact hc.s12 | exact hc.s13 | exact hc.s14 | exact hc.s15 | exact ⟨by omega,by omega⟩,fun W=>zzm c m l k hm W⟩
   ·exact ⟨_,_,by first | exact zae _ _ _ | exact zan _ _ | exact zao | exact hk | exact hc.s0 | exact hc.s1 | exact hc.s2 | exact hc.s3 | exact hc.s5 | exact hc.s6 | exact hc.s7 | exact hc.s8 | exact hc.s9 | exact hc.s10 | exact hc.s11 | exact hc.s12 | exact hc.s13 | exact hc.s14 | exact hc.s15 | exact ⟨by omega,by omega⟩,fun W=>zvK c m l k hm W⟩
   ·exact ⟨_,_,by first | exact zae _ _ _ | exact zan _ _ | exact zao | exact hk | exact hc.s0 | exact hc.s1 | exact hc.s2 | exact hc.s3 | exact hc.s5 | exact hc.s6 | exact hc.s7 | exact hc.s8 | exact hc.s9 | exact hc.s10 | exact hc.s11 | exact hc.s12 | exact hc.s13 | exact hc.s14 | exact hc.s15 | exact ⟨by omega,by omega⟩,fun W=>zlp c m l k hm W⟩
   ·exact ⟨_,_,by first | exact zae _ _ _ | exact zan _ _ | exact zao | exact hk | exact hc.s0 | exact hc.s1 | exact hc.s2 | exact hc.s3 | exact hc.s5 | exact hc.s6 | exact hc.s7 | exact hc.s8 | exact hc.s9 | exact hc.s10 | exact hc.s11 | exact hc.s12 | exact hc.s13 | exact hc.s14 | exact hc.s15 | exact ⟨by omega,by omega⟩,fun W=>zu6 c m l k hm W⟩
   ·exact ⟨_,_,by first | exact zae _ _ _ | exact zan _ _ | exact zao | exact hk | exact hc.s0 | exact hc.s1 | exact hc.s2 | exact hc.s3 | exact hc.s5 | exact hc.s6 | exact hc.s7 | exact hc.s8 | exact hc.s9 | exact hc.s10 | exact hc.s11 | exact hc.s12 | exact hc.s13 | exact hc.s14 | exact hc.s15 | exact ⟨by omega,by omega⟩,fun W=>znp c m l k hm W⟩
   ·exact ⟨_,_,by first | exact zae _ _ _ | exact zan _ _ | exact zao | exact hk | exact hc.s0 | exact hc.s1 | exact hc.s2 | exact hc.s3 | exact hc.s5 | exact hc.s6 | exact hc.s7 | exact hc.s8 | exact hc.s9 | exact hc.s10 | exact hc.s11 | exact hc.s12 | exact hc.s13 | exact hc.s14 | exact hc.s15 | exact ⟨by omega,by omega⟩,fun W=>zpH c m l k hm W⟩
   ·exact ⟨_,_,by first | exact zae _ _ _ | exact zan _ _ | exact zao | exact hk | exact hc.s0 | exact hc.s1 | exact hc.s2 | exact hc.s3 | exact hc.s5 | exact hc.s6 | exact hc.s7 | exact hc.s8 | exact hc.s9 | exact hc.s10 | exact hc.s11 | exact hc.s12 | exact hc.s13 | exact hc.s14 | exact hc.s15 | exact ⟨by omega,by omega⟩,fun W=>zq3 c m l k hm W⟩
   ·exact ⟨_,_,by first | exact zae _ _ _ | exact zan _ _ | exact zao | exact hk | exact hc.s0 | exact hc.s1 | exact hc.s2 | exact hc.s3 | exact hc.s5 | exact hc.s6 | exact hc.s7 | exact hc.s8 | exact hc.s9 | exact hc.s10 | exact hc.s11 | exact hc.s12 | exact hc.s13 | exact hc.s14 | exact hc.s15 | exact ⟨by omega,by omega⟩,fun W=>zvP c m l k hm W⟩
   ·exact ⟨_,_,by first | exact zae _ _ _ | exact zan _ _ | exact zao | exact hk | exact hc.s0 | exact hc.s1 | exact hc.s2 | exact hc.s3 | exact hc.s5 | exact hc.s6 | exact hc.s7 | exact hc.s8 | exact hc.s9 | exact hc.s10 | exact hc.s11 | exact hc.s12 | exact hc.s13 | exact hc.s14 | exact hc.s15 | exact ⟨by omega,by omega⟩,fun W=>zuG c m l k hm W⟩
   ·exact ⟨_,_,by first | exact zae _ _ _ | exact zan _ _ | exact zao | exact hk | exact hc.s0 | exact hc.s1 | exact hc.s2 | exact hc.s3 | exact hc.s5 | exact hc.s6 | exact hc.s7 | exact hc.s8 | exact hc.s9 | exact hc.s10 | exact hc.s11 | exact hc.s12 | exact hc.s13 | exact hc.s14 | exact hc.s15 | exact ⟨by omega,by omega⟩,fun W=>zsc c m l k hm W⟩
   ·exact ⟨_,_,by first | exact zae _ _ _ | exact zan _ _ | exact zao | exact hk | exact hc.s0 | exact hc.s1 | exact hc.s2 | exact hc.s3 | exact hc.s5 | exact hc.s6 | exact hc.s7 | exact hc.s8 | exact hc.s9 | exact hc.s10 | exact hc.s11 | exact hc.s12 | exact hc.s13 | exact hc.s14 | exact hc.s15 | exact ⟨by omega,by omega⟩,fun W=>zlU c m l k hm W⟩
   ·exact ⟨_,_,by first | exact zae _ _ _ | exact zan _ _ | exact zao | exact hk | exact hc.s0 | exact hc.s1 | exact hc.s2 | exact hc.s3 | exact hc.s5 | exact hc.s6 | exact hc.s7 | exact hc.s8 | exact hc.s9 | exact hc.s10 | exact hc.s11 | exact hc.s12 | exact hc.s13 | exact hc.s14 | exact hc.s15 | exact ⟨by omega,by omega⟩,fun W=>zts c m l k hm W⟩
   ·exact ⟨_,_,by first | exact zae _ _ _ | exact zan _ _ | exact zao | exact hk | exact hc.s0 | exact hc.s1 | exact hc.s2 | exact hc.s3 | exact hc.s5 | exact hc.s6 | exact hc.s7 | exact hc.s8 | exact hc.s9 | exact hc.s10 | exact hc.s11 | exact hc.s12 | exact hc.s13 | exact hc.s14 | exact hc.s15 | exact ⟨by omega,by omega⟩,fun W=>zzD c m l k hm W⟩
   ·exact ⟨_,_,by first | exact zae _ _ _ | exact zan _ _ | exact zao | exact hk | exact hc.s0 | exact hc.s1 | exact hc.s2 | exact hc.s3 | exact hc.s5 | exact hc.s6 | exact hc.s7 | exact hc.s8 | exact hc.s9 | exact hc.s10 | exact hc.s11 | exact hc.s12 | exact hc.s13 | exact hc.s14 | exact hc.s15 | exact ⟨by omega,by omega⟩,fun W=>zxY c m l k hm W⟩
   ·exact ⟨_,_,by first | exact zae _ _ _ | exact zan _ _ | exact zao | exact hk | exact hc.s0 | exact hc.s1 | exact hc.s2 | exact hc.s3 | exact hc.s5 | exact hc.s6 | exact hc.s7 | exact hc.s8 | exact hc.s9 | exact hc.s10 | exact hc.s11 | exact hc.s12 | exact hc.s13 | exact hc.s14 | exact hc.s15 | exact ⟨by omega,by omega⟩,fun W=>zto c m l k hm W⟩
   ·exact ⟨_,_,by first | exact zae _ _ _ | exact zan _ _ | exact zao | exact hk | exact hc.s0 | exact hc.s1 | exact hc.s2 | exact hc.s3 | exact hc.s5 | exact hc.s6 | exact hc.s7 | exact hc.s8 | exact hc.s9 | exact hc.s10 | exact hc.s11 | exact hc.s12 | exact hc.s13 | exact hc.s14 | exact hc.s15 | exact ⟨by omega,by omega⟩,fun W=>zvq c m l k hm W⟩
   ·exact ⟨_,_,by first | exact zae _ _ _ | exact zan _ _ | exact zao | exact hk | exact hc.s0 | exact hc.s1 | exact hc.s2 | exact hc.s3 | exact hc.s5 | exact hc.s6 | exact hc.s7 | exact hc.s8 | exact hc.s9 | exact hc.s10 | exact hc.s11 | exact hc.s12 | exact hc.s13 | exact hc.s14 | exact hc.s15 | exact ⟨by omega,by omega⟩,fun W=>zm0 c m l k hm W⟩
   ·exact ⟨_,_,by first | exact zae _ _ _ | exact zan _ _ | exact zao | exact hk | exact hc.s0 | exact hc.s1 | exact hc.s2 | exact hc.s3 | exact hc.s5 | exact hc.s6 | exact hc.s7 | exact hc.s8 | exact hc.s9 | exact hc.s10 | exact hc.s11 | exact hc.s12 | exact hc.s13 | exact hc.s14 | exact hc.s15 | exact ⟨by omega,by omega⟩,fun W=>znx c m l k hm W⟩
   ·exact ⟨_,_,by first | exact zae _ _ _ | exact zan _ _ | exact zao | exact hk | exact hc.s0 | exact hc.s1 | exact hc.s2 | exact hc.s3 | exact hc.s5 | exact hc.s6 | exact hc.s7 | exact hc.s8 | exact hc.s9 | exact hc.s10 | exact hc.s11 | exact hc.s12 | exact hc.s13 | exact hc.s14 | exact hc.s15 | exact ⟨by omega,by omega⟩,fun W=>zuA c m l k hm W⟩
   ·exact ⟨_,_,by first | exact zae _ _ _ | exact zan _ _ | exact zao | exact hk | exact hc.s0 | exact hc.s1 | exact hc.s2 | exact hc.s3 | exact hc.s5 | exact hc.s6 | exact hc.s7 | exact hc.s8 | exact hc.s9 | exact hc.s10 | exact hc.s11 | exact hc.s12 | exact hc.s13 | exact hc.s14 | exact hc.s15 | exact ⟨by omega,by omega⟩,fun W=>zsf c m l k hm W⟩
   ·exact ⟨_,_,by first | exact zae _ _ _ | exact zan _ _ | exact zao | exact hk | exact hc.s0 | exact hc.s1 | exact hc.s2 | exact hc.s3 | exact hc.s5 | exact hc.s6 | exact hc.s7 | exact hc.s8 | exact hc.s9 | exact hc.s10 | exact hc.s11 | exact hc.s12 | exact hc.s13 | exact hc.s14 | exact hc.s15 | exact ⟨by omega,by omega⟩,fun W=>zyM c m l k hm W⟩
   ·exact ⟨_,_,by first | exact zae _ _ _ | exact zan _ _ | exact zao | exact hk | exact hc.s0 | exact hc.s1 | exact hc.s2 | exact hc.s3 | exact hc.s5 | exact hc.s6 | exact hc.s7 | exact hc.s8 | exact hc.s9 | exact hc.s10 | exact hc.s11 | exact hc.s12 | exact hc.s13 | exact hc.s14 | exact hc.s15 | exact ⟨by omega,by omega⟩,fun W=>zxZ c m l k hm W⟩
   ·exact ⟨_,_,by first | exact zae _ _ _ | exact zan _ _ | exact zao | exact hk | exact hc.s0 | exact hc.s1 | exact hc.s2 | exact hc.s3 | exact hc.s5 | exact hc.s6 | exact hc.s7 | exact hc.s8 | exact hc.s9 | exact hc.s10 | exact hc.s11 | exact hc.s12 | exact hc.s13 | exact hc.s14 | exact hc.s15 | exact ⟨by omega,by omega⟩,fun W=>zx4 c m l k hm W⟩
  ·exact ⟨0,false,zao,fun W=>by
    refine zuB c m n l k hm ?_ ?_ ?_ ?_ ?_ ?_ ?_ ?_ ?_ ?_ ?_ ?_ ?_ ?_ ?_ ?_ ?_ ?_ ?_ ?_ ?_ ?_ ?_ ?_ ?_ ?_ ?_ ?_ ?_ W
    all_goals
     rw [beq_eq_false_iff_ne];intro e;exact h (by rw [e];decide)⟩
 ·exact ⟨0,false,zao,fun W=>zvp c m n l k hm W⟩
open Classical in
noncomputable def rdV (c:Reg) (m n l k:Int):Int × Bool:=if h:∃ r:Int,∃ ok:Bool,U64 r∧∀ W,TB 108 #[regV c,.int .i64 m,.int .i64 n,.int .u64 l,.int .u64 k] W (.tuple #[.int .u64 r,.bool ok]) then (Classical.choose h,Classical.choose (Classical.choose_spec h)) else (0,false)
theorem rd_u (c:Reg) (m n l k:Int):U64 (rdV c m n l k).1:=by
 unfold rdV
 split
 ·rename_i h
  exact (Classical.choose_spec (Classical.choose_spec h)).1
 ·exact zao
theorem zgJ (c:Reg) (m n l k:Int) (hc:RU c) (hk:U64 k) (W:World):TB 108 #[regV c,.int .i64 m,.int .i64 n,.int .u64 l,.int .u64 k] W (.tuple #[.int .u64 (rdV c m n l k).1,.bool (rdV c m n l k).2]):=by
 have h:=zwQ c m n l k hc hk;unfold rdV;rw [dif_pos h];exact (Classical.choose_spec (Classical.choose_spec h)).2 W
theorem zAc (c:Reg) (m n x:Int) (hc:RU c) (hx:U64 x):∃ r:Reg,∃ ok:Bool,(RU r∧(zax c=true→zax r=true))∧∀ W,TB 110 #[regV c,.int .i64 m,.int .i64 n,.int .u64 x] W (.tuple #[regV r,.bool ok]):=by
 rcases Bool.eq_false_or_eq_true (decide (zaz n≤m)) with hm | hm
 ·by_cases h:n∈([256,260,261,320,321,322,323,324,384,768,769,770,771,772,773,832,833,834,835,836,2816,2818]:List Int)
  ·simp only [List.mem_cons,List.not_mem_nil,or_false] at h
   rcases h with rfl | rfl | rfl | rfl | rfl | rfl | rfl | rfl | rfl | rfl | rfl | rfl | rfl | rfl | rfl | rfl | rfl | rfl | rfl | rfl | rfl | rfl
   ·exact ⟨⟨(mxV c.s0 x 786722),c.s1,c.s2,c.s3,c.s4,c.s5,c.s6,c.s7,c.s8,c.s9,c.s10,c.s11,c.s12,c.s13,c.s14,c.s15⟩,true,⟨⟨(zed _ _ _:U64 ((mxV c.s0 x 786722))),hc.s1,hc.s2,hc.s3,hc.s4,hc.s5,hc.s6,hc.s7,hc.s8,hc.s9,hc.s10,hc.s11,hc.s12,hc.s13,hc.s14,hc.s15⟩,fun h=>zb3 c _ h fun h0 h1 h2 h3 h4 h5 h6 h7 h8 h9 h10=>zbw _ (Tr.zsG c.s0 x hc.s0 h0) h1 h2 h3 h4 h5 h6 h7 h8 h9 h10⟩,fun W=>zr1 c m x hm W⟩
   ·exact ⟨⟨c.s0,c.s1,c.s2,(mxV c.s3 x c.s2),c.s4,c.s5,c.s6,c.s7,c.s8,c.s9,c.s10,c.s11,c.s12,c.s13,c.s14,c.s15⟩,true,⟨⟨hc.s0,hc.s1,hc.s2,(zed _ _ _:U64 ((mxV c.s3 x c.s2))),hc.s4,hc.s5,hc.s6,hc.s7,hc.s8,hc.s9,hc.s10,hc.s11,hc.s12,hc.s13,hc.s14,hc.s15⟩,fun h=>zb3 c _ h fun h0 h1 h2 h3 h4 h5 h6 h7 h8 h9 h10=>zbw _ h0 h1 h2 (Tr.zxh c.s3 x c.s2 hc.s3 hc.s2 h3 h2) h4 h5 h6 h7 h8 h9 h10⟩,fun W=>zle c m x hm W⟩
   ·exact ⟨⟨c.s0,c.s1,c.s2,c.s3,c.s4,c.s5,c.s6,c.s7,c.s8,c.s9,(bits .and .u64 x 18446744073709551613),c.s11,c.s12,c.s13,c.s14,c.s15⟩,true,⟨⟨hc.s0,hc.s1,hc.s2,hc.s3,hc.s4,hc.s5,hc.s6,hc.s7,hc.s8,hc.s9,(zae _ _ _:U64 ((bits .and .u64 x 18446744073709551613))),hc.s11,hc.s12,hc.s13,hc.s14,hc.s15⟩,fun h=>zb3 c _ h fun h0 h1 h2 h3 h4 h5 h6 h7 h8 h9 h10=>zbw _ h0 h1 h2 h3 h4 h5 (Tr.zc9 x _) h7 h8 h9 h10⟩,fun W=>zvc c m x hm W⟩
   ·exact ⟨⟨c.s0,c.s1,c.s2,c.s3,c.s4,c.s5,c.s6,c.s7,c.s8,c.s9,c.s10,x,c.s12,c.s13,c.s14,c.s15⟩,true,⟨⟨hc.s0,hc.s1,hc.s2,hc.s3,hc.s4,hc.s5,hc.s6,hc.s7,hc.s8,hc.s9,hc.s10,hx,hc.s12,hc.s13,hc.s14,hc.s15⟩,fun h=>zb3 c _ h fun h0 h1 h2 h3 h4 h5 h6 h7 h8 h9 h10=>zbw _ h0 h1 h2 h3 h4 h5 h6 h7 h8 h9 h10⟩,fun W=>zn2 c m x hm W⟩
   ·exact ⟨⟨c.s0,c.s1,c.s2,c.s3,c.s4,c.s5,c.s6,c.s7,c.s8,c.s9,c.s10,c.s11,(bits .and .u64 x 18446744073709551614),c.s13,c.s14,c.s15⟩,true,⟨⟨hc.s0,hc.s1,hc.s2,hc.s3,hc.s4,hc.s5,hc.s6,hc.s7,hc.s8,hc.s9,hc.s10,hc.s11,(zae _ _ _:U64 ((bits .and .u64 x 18446744073709551614))),hc.s13,hc.s14,hc.s15⟩,fun h=>zb3 c _ h fun h0 h1 h2 h3 h4 h5 h6 h7 h8 h9 h10=>zbw _ h0 h1 h2 h3 h4 h5 h6 h7 (Tr.zc9 x _) h9 h10⟩,fun W=>zoW c m x hm W⟩
   ·exact ⟨⟨c.s0,c.s1,c.s2,c.s3,c.s4,c.s5,c.s6,c.s7,c.s8,c.s9,c.s10,c.s11,c.s12,x,c.s14,c.s15⟩,true,⟨⟨hc.s0,hc.s1,hc.s2,hc.s3,hc.s4,hc.s5,hc.s6,hc.s7,hc.s8,hc.s9,hc.s10,hc.s11,hc.s12,hx,hc.s14,hc.s15⟩,fun h=>zb3 c _ h fun h0 h1 h2 h3 h4 h5 h6 h7 h8 h9 h10=>zbw _ h0 h1 h2 h3 h4 h5 h6 h7 h8 h9 h10⟩,fun W=>zzr c m x hm W⟩
   ·exact ⟨⟨c.s0,c.s1,c.s2,c.s3,c.s4,c.s5,c.s6,c.s7,c.s8,c.s9,c.s10,c.s11,c.s12,c.s13,x,c.s15⟩,true,⟨⟨hc.s0,hc.s1,hc.s2,hc.s3,hc.s4,hc.s5,hc.s6,hc.s7,hc.s8,hc.s9,hc.s10,hc.s11,hc.s12,hc.s13,hx,hc.s15⟩,fun h=>zb3 c _ h fun h0 h1 h2 h3 h4 h5 h6 h7 h8 h9 h10=>zbw _ h0 h1 h2 h3 h4 h5 h6 h7 h8 h9 h10⟩,fun W=>zr3 c m x hm W⟩
   ·exact ⟨⟨c.s0,c.s1,c.s2,c.s3,(mxV c.s4 x (bits .and .u64 c.s2 2)),c.s5,c.s6,c.s7,c.s8,c.s9,c.s10,c.s11,c.s12,c.s13,c.s14,c.s15⟩,true,⟨⟨hc.s0,hc.s1,hc.s2,hc.s3,(zed _ _ _:U64 ((mxV c.s4 x (bits .and .u64 c.s2 2)))),hc.s5,hc.s6,hc.s7,hc.s8,hc.s9,hc.s10,hc.s11,hc.s12,hc.s13,hc.s14,hc.s15⟩,fun h=>zb3 c _ h fun h0 h1 h2 h3 h4 h5 h6 h7 h8 h9 h10=>zbw _ h0 h1 h2 h3 (Tr.zqu c.s4 x c.s2 hc.s4 h4) h5 h6 h7 h8 h9 h10⟩,fun W=>zxr c m x hm W⟩
   ·exact ⟨⟨c.s0,c.s1,c.s2,c.s3,c.s4,c.s5,c.s6,c.s7,c.s8,c.s9,c.s10,c.s11,c.s12,c.s13,c.s14,(spV c.s15 x)⟩,true,⟨⟨hc.s0,hc.s1,hc.s2,hc.s3,hc.s4,hc.s5,hc.s6,hc.s7,hc.s8,hc.s9,hc.s10,hc.s11,hc.s12,hc.s13,hc.s14,(zik _ _ hc.s15:U64 ((spV c.s15 x)))⟩,fun h=>zb3 c _ h fun h0 h1 h2 h3 h4 h5 h6 h7 h8 h9 h10=>zbw _ h0 h1 h2 h3 h4 h5 h6 h7 h8 (Tr.zh9 c.s15 x hx h9 h10).1 (Tr.zh9 c.s15 x hx h9 h10).2⟩,fun W=>zod c m x hm W⟩
   ·exact ⟨⟨(stV x),c.s1,c.s2,c.s3,c.s4,c.s5,c.s6,c.s7,c.s8,c.s9,c.s10,c.s11,c.s12,c.s13,c.s14,c.s15⟩,true,⟨⟨(zhz _:U64 ((stV x))),hc.s1,hc.s2,hc.s3,hc.s4,hc.s5,hc.s6,hc.s7,hc.s8,hc.s9,hc.s10,hc.s11,hc.s12,hc.s13,hc.s14,hc.s15⟩,fun h=>zb3 c _ h fun h0 h1 h2 h3 h4 h5 h6 h7 h8 h9 h10=>zbw _ (Tr.zrz x) h1 h2 h3 h4 h5 h6 h7 h8 h9 h10⟩,fun W=>zzf c m x hm W⟩
   ·exact ⟨⟨c.s0,c.s1,c.s2,c.s3,c.s4,c.s5,c.s6,c.s7,c.s8,c.s9,c.s10,c.s11,c.s12,c.s13,c.s14,c.s15⟩,true,⟨⟨hc.s0,hc.s1,hc.s2,hc.s3,hc.s4,hc.s5,hc.s6,hc.s7,hc.s8,hc.s9,hc.s10,hc.s11,hc.s12,hc.s13,hc.s14,hc.s15⟩,fun h=>zb3 c _ h fun h0 h1 h2 h3 h4 h5 h6 h7 h8 h9 h10=>zbw _ h0 h1 h2 h3 h4 h5 h6 h7 h8 h9 h10⟩,fun W=>zwJ c m x hm W⟩
   ·exact ⟨⟨c.s0,(bits .and .u64 x 46079),c.s2,c.s3,c.s4,c.s5,c.s6,c.s7,c.s8,c.s9,c.s10,c.s11,c.s12,c.s13,c.s14,c.s15⟩,true,⟨⟨hc.s0,(zae _ _ _:U64 ((bits .and .u64 x 46079))),hc.s2,hc.s3,hc.s4,hc.s5,hc.s6,hc.s7,hc.s8,hc.s9,hc.s10,hc.s11,hc.s12,hc.s13,hc.s14,hc.s15⟩,fun h=>zb3 c _ h fun h0 h1 h2 h3 h4 h5 h6 h7 h8 h9 h10=>zbw _ h0 (Tr.zc9 x _) h2 h3 h4 h5 h6 h7 h8 h9 h10⟩,fun W=>zmh c m x hm W⟩
   ·exact ⟨⟨c.s0,c.s1,(bits .and .u64 x 546),c.s3,c.s4,c.s5,c.s6,c.s7,c.s8,c.s9,c.s10,c.s11,c.s12,c.s13,c.s14,c.s15⟩,true,⟨⟨hc.s0,hc.s1,(zae _ _ _:U64 ((bits .and .u64 x 546))),hc.s3,hc.s4,hc.s5,hc.s6,hc.s7,hc.s8,hc.s9,hc.s10,hc.s11,hc.s12,hc.s13,hc.s14,hc.s15⟩,fun h=>zb3 c _ h fun h0 h1 h2 h3 h4 h5 h6 h7 h8 h9 h10=>zbw _ h0 h1 (Tr.zc9 x _) h3 h4 h5 h6 h7 h8 h9 h10⟩,fun W=>zyi c m x hm W⟩
   ·exact ⟨⟨c.s0,c.s1,c.s2,(bits .and .u64 x 2730),c.s4,c.s5,c.s6,c.s7,c.s8,c.s9,c.s10,c.s11,c.s12,c.s13,c.s14,c.s15⟩,true,⟨⟨hc.s0,hc.s1,hc.s2,(zae _ _ _:U64 ((bits .and .u64 x 2730))),hc.s4,hc.s5,hc.s6,hc.s7,hc.s8,hc.s9,hc.s10,hc.s11,hc.s12,hc.s13,hc.s14,hc.s15⟩,fun h=>zb3 c _ h fun h0 h1 h2 h3 h4 h5 h6 h7 h8 h9 h10=>zbw _ h0 h1 h2 (Tr.zc9 x _) h4 h5 h6 h7 h8 h9 h10⟩,fun W=>zwV c m x hm W⟩
   ·exact ⟨⟨c.s0,c.s1,c.s2,c.s3,c.s4,(bits .and .u64 x 18446744073709551613),c.s6,c.s7,c.s8,c.s9,c.s10,c.s11,c.s12,c.s13,c.s14,c.s15⟩,true,⟨⟨hc.s0,hc.s1,hc.s2,hc.s3,hc.s4,(zae _ _ _:U64 ((bits .and .u64 x 18446744073709551613))),hc.s6,hc.s7,hc.s8,hc.s9,hc.s10,hc.s11,hc.s12,hc.s13,hc.s14,hc.s15⟩,fun h=>zb3 c _ h fun h0 h1 h2 h3 h4 h5 h6 h7 h8 h9 h10=>zbw _ h0 h1 h2 h3 h4 (Tr.zc9 x _) h6 h7 h8 h9 h10⟩,fun W=>zl1 c m x hm W⟩
   ·exact ⟨⟨c.s0,c.s1,c.s2,c.s3,c.s4,c.s5,x,c.s7,c.s8,c.s9,c.s10,c.s11,c.s12,c.s13,c.s14,c.s15⟩,true,⟨⟨hc.s0,hc.s1,hc.s2,hc.s3,hc.s4,hc.s5,hx,hc.s7,hc.s8,hc.s9,hc.s10,hc.s11,hc.s12,hc.s13,hc.s14,hc.s15⟩,fun h=>zb3 c _ h fun h0 h1 h2 h3 h4 h5 h6 h7 h8 h9 h10=>zbw _ h0 h1 h2 h3 h4 h5 h6 h7 h8 h9 h10⟩,fun W=>zp4 c m x hm W⟩
   ·exact ⟨⟨c.s0,c.s1,c.s2,c.s3,c.s4,c.s5,c.s6,(bits .and .u64 x 18446744073709551614),c.s8,c.s9,c.s10,c.s11,c.s12,c.s13,c.s14,c.s15⟩,true,⟨⟨hc.s0,hc.s1,hc.s2,hc.s3,hc.s4,hc.s5,hc.s6,(zae _ _ _:U64 ((bits .and .u64 x 18446744073709551614))),hc.s8,hc.s9,hc.s10,hc.s11,hc.s12,hc.s13,hc.s14,hc.s15⟩,fun h=>zb3 c _ h fun h0 h1 h2 h3 h4 h5 h6 h7 h8 h9 h10=>zbw _ h0 h1 h2 h3 h4 h5 h6 (Tr.zc9 x _) h8 h9 h10⟩,fun W=>zyy c m x hm W⟩
   ·exact ⟨⟨c.s0,c.s1,c.s2,c.s3,c.s4,c.s5,c.s6,c.s7,x,c.s9,c.s10,c.s11,c.s12,c.s13,c.s14,c.s15⟩,true,⟨⟨hc.s0,hc.s1,hc.s2,hc.s3,hc.s4,hc.s5,hc.s6,hc.s7,hx,hc.s9,hc.s10,hc.s11,hc.s12,hc.s13,hc.s14,hc.s15⟩,fun h=>zb3 c _ h fun h0 h1 h2 h3 h4 h5 h6 h7 h8 h9 h10=>zbw _ h0 h1 h2 h3 h4 h5 h6 h7 h8 h9 h10⟩,fun W=>zoz c m x hm W⟩
   ·exact ⟨⟨c.s0,c.s1,c.s2,c.s3,c.s4,c.s5,c.s6,c.s7,c.s8,x,c.s10,c.s11,c.s12,c.s13,c.s14,c.s15⟩,true,⟨⟨hc.s0,hc.s1,hc.s2,hc.s3,hc.s4,hc.s5,hc.s6,hc.s7,hc.s8,hx,hc.s10,hc.s11,hc.s12,hc.s13,hc.s14,hc.s15⟩,fun h=>zb3 c _ h fun h0 h1 h2 h3 h4 h5 h6 h7 h8 h9 h10=>zbw _ h0 h1 h2 h3 h4 h5 h6 h7 h8 h9 h10⟩,fun W=>zus c m x hm W⟩
   ·exact ⟨⟨c.s0,c.s1,c.s2,c.s3,(bits .and .u64 x 546),c.s5,c.s6,c.s7,c.s8,c.s9,c.s10,c.s11,c.s12,c.s13,c.s14,c.s15⟩,true,⟨⟨hc.s0,hc.s1,hc.s2,hc.s3,(zae _ _ _:U64 ((bits .and .u64 x 546))),hc.s5,hc.s6,hc.s7,hc.s8,hc.s9,hc.s10,hc.s11,hc.s12,hc.s13,hc.s14,hc.s15⟩,fun h=>zb3 c _ h fun h0 h1 h2 h3 h4 h5 h6 h7 h8 h9 h10=>zbw _ h0 h1 h2 h3 (Tr.zc9 x _) h5 h6 h7 h8 h9 h10⟩,fun W=>zsj c m x hm W⟩
   ·exact ⟨⟨c.s0,c.s1,c.s2,c.s3,c.s4,c.s5,c.s6,c.s7,c.s8,c.s9,c.s10,c.s11,c.s12,c.s13,c.s14,c.s15⟩,true,⟨⟨hc.s0,hc.s1,hc.s2,hc.s3,hc.s4,hc.s5,hc.s6,hc.s7,hc.s8,hc.s9,hc.s10,hc.s11,hc.s12,hc.s13,hc.s14,hc.s15⟩,fun h=>zb3 c _ h fun h0 h1 h2 h3 h4 h5 h6 h7 h8 h9 h10=>zbw _ h0 h1 h2 h3 h4 h5 h6 h7 h8 h9 h10⟩,fun W=>zwI c m x hm W⟩
   ·exact ⟨⟨c.s0,c.s1,c.s2,c.s3,c.s4,c.s5,c.s6,c.s7,c.s8,c.s9,c.s10,c.s11,c.s12,c.s13,c.s14,c.s15⟩,true,⟨⟨hc.s0,hc.s1,hc.s2,hc.s3,hc.s4,hc.s5,hc.s6,hc.s7,hc.s8,hc.s9,hc.s10,hc.s11,hc.s12,hc.s13,hc.s14,hc.s15⟩,fun h=>zb3 c _ h fun h0 h1 h2 h3 h4 h5 h6 h7 h8 h9 h10=>zbw _ h0 h1 h2 h3 h4 h5 h6 h7 h8 h9 h10⟩,fun W=>zrK c m x hm W⟩
  ·rcases Bool.eq_false_or_eq_true (zgH n != 3) with ho | ho
   ·refine ⟨c,false,⟨hc,fun h=>h⟩,fun W=>?_⟩
    refine zvS c m n x hm ho ?_ ?_ ?_ ?_ ?_ ?_ ?_ ?_ ?_ ?_ ?_ ?_ ?_ ?_ ?_ ?_ ?_ ?_ ?_ ?_ ?_ ?_ W
    all_goals
     rw [beq_eq_false_iff_ne];intro e;exact h (by rw [e];decide)
   ·exact ⟨c,false,⟨hc,fun h=>h⟩,fun W=>zzL c m n x hm ho W⟩
 ·exact ⟨c,false,⟨hc,fun h=>h⟩,fun W=>zu4 c m n x hm W⟩
open Classical in
noncomputable def wtV (c:Reg) (m n x:Int):Reg × Bool:=if h:∃ r:Reg,∃ ok:Bool,(RU r∧(zax c=true→zax r=true))∧∀ W,TB 110 #[regV c,.int .i64 m,.int .i64 n,.int .u64 x] W (.tuple #[regV r,.bool ok]) then (Classical.choose h,Classical.choose (Classical.choose_spec h)) else (c,false)
theorem wt_u (c:Reg) (m n x:Int) (hc:RU c):RU (wtV c m n x).1:=by
 unfold wtV
 split
 ·rename_i h
  exact (Classical.choose_spec (Classical.choose_spec h)).1.1
 ·exact hc
theorem wt_r (c:Reg) (m n x:Int) (hr:zax c=true):zax (wtV c m n x).1=true:=by
 unfold wtV
 split
 ·rename_i h
  exact (Classical.choose_spec (Classical.choose_spec h)).1.2 hr
 ·exact hr
theorem zkt (c:Reg) (m n x:Int) (hc:RU c) (hx:U64 x) (W:World):TB 110 #[regV c,.int .i64 m,.int .i64 n,.int .u64 x] W (.tuple #[regV (wtV c m n x).1,.bool (wtV c m n x).2]):=by
 have h:=zAc c m n x hc hx;unfold wtV;rw [dif_pos h];exact (Classical.choose_spec (Classical.choose_spec h)).2 W
end Go.Proofs.YtplcfdnfeclpmaaGreatDoor.Cs
