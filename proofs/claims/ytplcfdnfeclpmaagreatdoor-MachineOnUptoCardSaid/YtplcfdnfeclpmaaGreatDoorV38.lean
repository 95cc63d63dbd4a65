/- MachineOn, part 38. -/
import Derived.Test.YtplcfdnfeclpmaaGreatDoorV17
import Derived.Test.YtplcfdnfeclpmaaGreatDoorV37
set_option maxHeartbeats 4000000
set_option maxRecDepth 100000
open Go.Lib (hid)
open Go Go.RowKit Go.Deep Go.Joins Go.Proofs.Tryz
namespace Go.Proofs.YtplcfdnfeclpmaaGreatDoor.Cs
def U64 (x:Int):Prop:=0≤x∧x<18446744073709551616
structure RU (c:Reg):Prop where
 s0:U64 c.s0
 s1:U64 c.s1
 s2:U64 c.s2
 s3:U64 c.s3
 s4:U64 c.s4
 s5:U64 c.s5
 s6:U64 c.s6
 s7:U64 c.s7
 s8:U64 c.s8
 s9:U64 c.s9
 s10:U64 c.s10
 s11:U64 c.s11
 s12:U64 c.s12
 s13:U64 c.s13
 s14:U64 c.s14
 s15:U64 c.s15
theorem zad (op:BinOp) (a b:Int):U64 (bits op .u64 a b):=⟨bits_lo_u64 op a b,by have:=bits_hi_u64 op a b;omega⟩
theorem zap:U64 0:=⟨by omega,by omega⟩
theorem zhJ (v:Int):U64 (stV v):=by unfold stV;split <;> exact zad _ _ _
theorem zjI (w v:Int) (h:U64 w):U64 (spV w v):=by
 unfold spV
 split
 ·exact zad _ _ _
 ·exact h
theorem zei (n v b:Int):U64 (mxV n v b):=zad _ _ _
theorem zaq (p l:Int):U64 (rsV p l):=zad _ _ _
theorem zzw (c:Reg) (m n l k:Int) (hc:RU c) (hk:U64 k):∃ r:Int,∃ ok:Bool,U64 r∧∀ W,TB 108 #[regV c,.int .i64 m,.int .i64 n,.int .u64 l,.int .u64 k] W (.tuple #[.int .u64 r,.bool ok]):=by
 rcases Bool.eq_false_or_eq_true (decide (zaz n≤m)) with hm | hm
 ·by_cases h:n∈([256,260,261,320,321,322,323,324,384,768,769,770,771,772,773,832,833,834,835,836,2816,2818,3072,3073,3074,3857,3858,3859,3860]:List Int)
  ·simp only [List.mem_cons,List.not_mem_nil,or_false] at h
   rcases h with rfl | rfl | rfl | rfl | rfl | rfl | rfl | rfl | rfl | rfl | rfl | rfl | rfl | rfl | rfl | rfl | rfl | rfl | rfl | rfl | rfl | rfl | rfl | rfl | rfl | rfl | rfl | rfl | rfl
   refine ⟨_,_,?_,fun W=>zrf c m l k hm W⟩;rotate_left
   refine ⟨_,_,?_,fun W=>zo3 c m l k hm W⟩;rotate_left
   refine ⟨_,_,?_,fun W=>zwJ c m l k hm W⟩;rotate_left
   refine ⟨_,_,?_,fun W=>zyz c m l k hm W⟩;rotate_left
   refine ⟨_,_,?_,fun W=>zsJ c m l k hm W⟩;rotate_left
   refine ⟨_,_,?_,fun W=>zy5 c m l k hm W⟩;rotate_left
   refine ⟨_,_,?_,fun W=>zuO c m l k hm W⟩;rotate_left
   refine ⟨_,_,?_,fun W=>zm4 c m l k hm W⟩;rotate_left
   refine ⟨_,_,?_,fun W=>zoh c m l k hm W⟩;rotate_left
   refine ⟨_,_,?_,fun W=>zoI c m l k hm W⟩;rotate_left
   refine ⟨_,_,?_,fun W=>zyG c m l k hm W⟩;rotate_left
   refine ⟨_,_,?_,fun W=>zoT c m l k hm W⟩;rotate_left
   refine ⟨_,_,?_,fun W=>zAs c m l k hm W⟩;rotate_left
   refine ⟨_,_,?_,fun W=>zoM c m l k hm W⟩;rotate_left
   refine ⟨_,_,?_,fun W=>zyd c m l k hm W⟩;rotate_left
   refine ⟨_,_,?_,fun W=>zvo c m l k hm W⟩;rotate_left
   refine ⟨_,_,?_,fun W=>znH c m l k hm W⟩;rotate_left
   refine ⟨_,_,?_,fun W=>ztm c m l k hm W⟩;rotate_left
   refine ⟨_,_,?_,fun W=>zoJ c m l k hm W⟩;rotate_left
   refine ⟨_,_,?_,fun W=>zyc c m l k hm W⟩;rotate_left
   refine ⟨_,_,?_,fun W=>zn9 c m l k hm W⟩;rotate_left
   refine ⟨_,_,?_,fun W=>zn6 c m l k hm W⟩;rotate_left
   refine ⟨_,_,?_,fun W=>zv8 c m l k hm W⟩;rotate_left
   refine ⟨_,_,?_,fun W=>ztZ c m l k hm W⟩;rotate_left
   refine ⟨_,_,?_,fun W=>zsR c m l k hm W⟩;rotate_left
   refine ⟨_,_,?_,fun W=>zpM c m l k hm W⟩;rotate_left
   refine ⟨_,_,?_,fun W=>zqw c m l k hm W⟩;rotate_left
   refine ⟨_,_,?_,fun W=>zwN c m l k hm W⟩;rotate_left
   refine ⟨_,_,?_,fun W=>zsG c m l k hm W⟩;rotate_left
   all_goals first | exact zad _ _ _ | exact zaq _ _ | exact zap | exact hk | exact hc.s0 | exact hc.s1 | exact hc.s2 | exact hc.s3 | exact hc.s5 | exact hc.s6 | exact hc.s7 | exact hc.s8 | exact hc.s9 | exact hc.s10 | exact hc.s11 | exact hc.s12 | exact hc.s13 | exact hc.s14 | exact hc.s15 | exact ⟨by omega,by omega⟩
  ·exact ⟨0,false,zap,fun W=>by
    refine zyE c m n l k hm ?_ ?_ ?_ ?_ ?_ ?_ ?_ ?_ ?_ ?_ ?_ ?_ ?_ ?_ ?_ ?_ ?_ ?_ ?_ ?_ ?_ ?_ ?_ ?_ ?_ ?_ ?_ ?_ ?_ W
    all_goals
     rw [beq_eq_false_iff_ne];intro e;exact h (by rw [e];decide)⟩
 ·exact ⟨0,false,zap,fun W=>znY c m n l k hm W⟩
open Classical in
noncomputable def rdV (c:Reg) (m n l k:Int):Int × Bool:=if h:∃ r:Int,∃ ok:Bool,U64 r∧∀ W,TB 108 #[regV c,.int .i64 m,.int .i64 n,.int .u64 l,.int .u64 k] W (.tuple #[.int .u64 r,.bool ok]) then (Classical.choose h,Classical.choose (Classical.choose_spec h)) else (0,false)
theorem rd_u (c:Reg) (m n l k:Int):U64 (rdV c m n l k).1:=by
 unfold rdV
 split
 ·rename_i h
  exact (Classical.choose_spec (Classical.choose_spec h)).1
 ·exact zap
theorem zgq (c:Reg) (m n l k:Int) (hc:RU c) (hk:U64 k) (W:World):TB 108 #[regV c,.int .i64 m,.int .i64 n,.int .u64 l,.int .u64 k] W (.tuple #[.int .u64 (rdV c m n l k).1,.bool (rdV c m n l k).2]):=by
 have h:=zzw c m n l k hc hk;unfold rdV;rw [dif_pos h];exact (Classical.choose_spec (Classical.choose_spec h)).2 W
theorem ztN (c:Reg) (m n x:Int) (hc:RU c) (hx:U64 x):∃ r:Reg,∃ ok:Bool,(RU r∧(zao c=true→zao r=true))∧∀ W,TB 110 #[regV c,.int .i64 m,.int .i64 n,.int .u64 x] W (.tuple #[regV r,.bool ok]):=by
 rcases Bool.eq_false_or_eq_true (decide (zaz n≤m)) with hm | hm
 ·by_cases h:n∈([256,260,261,320,321,322,323,324,384,768,769,770,771,772,773,832,833,834,835,836,2816,2818]:List Int)
  ·simp only [List.mem_cons,List.not_mem_nil,or_false] at h
   rcases h with rfl | rfl | rfl | rfl | rfl | rfl | rfl | rfl | rfl | rfl | rfl | rfl | rfl | rfl | rfl | rfl | rfl | rfl | rfl | rfl | rfl | rfl
   ·exact ⟨⟨(mxV c.s0 x 786722),c.s1,c.s2,c.s3,c.s4,c.s5,c.s6,c.s7,c.s8,c.s9,c.s10,c.s11,c.s12,c.s13,c.s14,c.s15⟩,true,⟨⟨(zei _ _ _:U64 ((mxV c.s0 x 786722))),hc.s1,hc.s2,hc.s3,hc.s4,hc.s5,hc.s6,hc.s7,hc.s8,hc.s9,hc.s10,hc.s11,hc.s12,hc.s13,hc.s14,hc.s15⟩,fun h=>zb7 c _ h fun h0 h1 h2 h3 h4 h5 h6 h7 h8 h9 h10=>zbD _ (Tr.zvf c.s0 x hc.s0 h0) h1 h2 h3 h4 h5 h6 h7 h8 h9 h10⟩,fun W=>zr3 c m x hm W⟩
   ·exact ⟨⟨c.s0,c.s1,c.s2,(mxV c.s3 x c.s2),c.s4,c.s5,c.s6,c.s7,c.s8,c.s9,c.s10,c.s11,c.s12,c.s13,c.s14,c.s15⟩,true,⟨⟨hc.s0,hc.s1,hc.s2,(zei _ _ _:U64 ((mxV c.s3 x c.s2))),hc.s4,hc.s5,hc.s6,hc.s7,hc.s8,hc.s9,hc.s10,hc.s11,hc.s12,hc.s13,hc.s14,hc.s15⟩,fun h=>zb7 c _ h fun h0 h1 h2 h3 h4 h5 h6 h7 h8 h9 h10=>zbD _ h0 h1 h2 (Tr.zyb c.s3 x c.s2 hc.s3 hc.s2 h3 h2) h4 h5 h6 h7 h8 h9 h10⟩,fun W=>zud c m x hm W⟩
   ·exact ⟨⟨c.s0,c.s1,c.s2,c.s3,c.s4,c.s5,c.s6,c.s7,c.s8,c.s9,(bits .and .u64 x 18446744073709551613),c.s11,c.s12,c.s13,c.s14,c.s15⟩,true,⟨⟨hc.s0,hc.s1,hc.s2,hc.s3,hc.s4,hc.s5,hc.s6,hc.s7,hc.s8,hc.s9,(zad _ _ _:U64 ((bits .and .u64 x 18446744073709551613))),hc.s11,hc.s12,hc.s13,hc.s14,hc.s15⟩,fun h=>zb7 c _ h fun h0 h1 h2 h3 h4 h5 h6 h7 h8 h9 h10=>zbD _ h0 h1 h2 h3 h4 h5 (Tr.zdi x _) h7 h8 h9 h10⟩,fun W=>zx2 c m x hm W⟩
   ·exact ⟨⟨c.s0,c.s1,c.s2,c.s3,c.s4,c.s5,c.s6,c.s7,c.s8,c.s9,c.s10,x,c.s12,c.s13,c.s14,c.s15⟩,true,⟨⟨hc.s0,hc.s1,hc.s2,hc.s3,hc.s4,hc.s5,hc.s6,hc.s7,hc.s8,hc.s9,hc.s10,hx,hc.s12,hc.s13,hc.s14,hc.s15⟩,fun h=>zb7 c _ h fun h0 h1 h2 h3 h4 h5 h6 h7 h8 h9 h10=>zbD _ h0 h1 h2 h3 h4 h5 h6 h7 h8 h9 h10⟩,fun W=>zuD c m x hm W⟩
   ·exact ⟨⟨c.s0,c.s1,c.s2,c.s3,c.s4,c.s5,c.s6,c.s7,c.s8,c.s9,c.s10,c.s11,(bits .and .u64 x 18446744073709551614),c.s13,c.s14,c.s15⟩,true,⟨⟨hc.s0,hc.s1,hc.s2,hc.s3,hc.s4,hc.s5,hc.s6,hc.s7,hc.s8,hc.s9,hc.s10,hc.s11,(zad _ _ _:U64 ((bits .and .u64 x 18446744073709551614))),hc.s13,hc.s14,hc.s15⟩,fun h=>zb7 c _ h fun h0 h1 h2 h3 h4 h5 h6 h7 h8 h9 h10=>zbD _ h0 h1 h2 h3 h4 h5 h6 h7 (Tr.zdi x _) h9 h10⟩,fun W=>zrq c m x hm W⟩
   ·exact ⟨⟨c.s0,c.s1,c.s2,c.s3,c.s4,c.s5,c.s6,c.s7,c.s8,c.s9,c.s10,c.s11,c.s12,x,c.s14,c.s15⟩,true,⟨⟨hc.s0,hc.s1,hc.s2,hc.s3,hc.s4,hc.s5,hc.s6,hc.s7,hc.s8,hc.s9,hc.s10,hc.s11,hc.s12,hx,hc.s14,hc.s15⟩,fun h=>zb7 c _ h fun h0 h1 h2 h3 h4 h5 h6 h7 h8 h9 h10=>zbD _ h0 h1 h2 h3 h4 h5 h6 h7 h8 h9 h10⟩,fun W=>zz5 c m x hm W⟩
   ·exact ⟨⟨c.s0,c.s1,c.s2,c.s3,c.s4,c.s5,c.s6,c.s7,c.s8,c.s9,c.s10,c.s11,c.s12,c.s13,x,c.s15⟩,true,⟨⟨hc.s0,hc.s1,hc.s2,hc.s3,hc.s4,hc.s5,hc.s6,hc.s7,hc.s8,hc.s9,hc.s10,hc.s11,hc.s12,hc.s13,hx,hc.s15⟩,fun h=>zb7 c _ h fun h0 h1 h2 h3 h4 h5 h6 h7 h8 h9 h10=>zbD _ h0 h1 h2 h3 h4 h5 h6 h7 h8 h9 h10⟩,fun W=>zsU c m x hm W⟩
   ·exact ⟨⟨c.s0,c.s1,c.s2,c.s3,(mxV c.s4 x (bits .and .u64 c.s2 2)),c.s5,c.s6,c.s7,c.s8,c.s9,c.s10,c.s11,c.s12,c.s13,c.s14,c.s15⟩,true,⟨⟨hc.s0,hc.s1,hc.s2,hc.s3,(zei _ _ _:U64 ((mxV c.s4 x (bits .and .u64 c.s2 2)))),hc.s5,hc.s6,hc.s7,hc.s8,hc.s9,hc.s10,hc.s11,hc.s12,hc.s13,hc.s14,hc.s15⟩,fun h=>zb7 c _ h fun h0 h1 h2 h3 h4 h5 h6 h7 h8 h9 h10=>zbD _ h0 h1 h2 h3 (Tr.zni c.s4 x c.s2 hc.s4 h4) h5 h6 h7 h8 h9 h10⟩,fun W=>zob c m x hm W⟩
   ·exact ⟨⟨c.s0,c.s1,c.s2,c.s3,c.s4,c.s5,c.s6,c.s7,c.s8,c.s9,c.s10,c.s11,c.s12,c.s13,c.s14,(spV c.s15 x)⟩,true,⟨⟨hc.s0,hc.s1,hc.s2,hc.s3,hc.s4,hc.s5,hc.s6,hc.s7,hc.s8,hc.s9,hc.s10,hc.s11,hc.s12,hc.s13,hc.s14,(zjI _ _ hc.s15:U64 ((spV c.s15 x)))⟩,fun h=>zb7 c _ h fun h0 h1 h2 h3 h4 h5 h6 h7 h8 h9 h10=>zbD _ h0 h1 h2 h3 h4 h5 h6 h7 h8 (Tr.zlg c.s15 x hx h9 h10).1 (Tr.zlg c.s15 x hx h9 h10).2⟩,fun W=>zwj c m x hm W⟩
   ·exact ⟨⟨(stV x),c.s1,c.s2,c.s3,c.s4,c.s5,c.s6,c.s7,c.s8,c.s9,c.s10,c.s11,c.s12,c.s13,c.s14,c.s15⟩,true,⟨⟨(zhJ _:U64 ((stV x))),hc.s1,hc.s2,hc.s3,hc.s4,hc.s5,hc.s6,hc.s7,hc.s8,hc.s9,hc.s10,hc.s11,hc.s12,hc.s13,hc.s14,hc.s15⟩,fun h=>zb7 c _ h fun h0 h1 h2 h3 h4 h5 h6 h7 h8 h9 h10=>zbD _ (Tr.zpj x) h1 h2 h3 h4 h5 h6 h7 h8 h9 h10⟩,fun W=>zx9 c m x hm W⟩
   ·exact ⟨⟨c.s0,c.s1,c.s2,c.s3,c.s4,c.s5,c.s6,c.s7,c.s8,c.s9,c.s10,c.s11,c.s12,c.s13,c.s14,c.s15⟩,true,⟨⟨hc.s0,hc.s1,hc.s2,hc.s3,hc.s4,hc.s5,hc.s6,hc.s7,hc.s8,hc.s9,hc.s10,hc.s11,hc.s12,hc.s13,hc.s14,hc.s15⟩,fun h=>zb7 c _ h fun h0 h1 h2 h3 h4 h5 h6 h7 h8 h9 h10=>zbD _ h0 h1 h2 h3 h4 h5 h6 h7 h8 h9 h10⟩,fun W=>zlW c m x hm W⟩
   ·exact ⟨⟨c.s0,(bits .and .u64 x 46079),c.s2,c.s3,c.s4,c.s5,c.s6,c.s7,c.s8,c.s9,c.s10,c.s11,c.s12,c.s13,c.s14,c.s15⟩,true,⟨⟨hc.s0,(zad _ _ _:U64 ((bits .and .u64 x 46079))),hc.s2,hc.s3,hc.s4,hc.s5,hc.s6,hc.s7,hc.s8,hc.s9,hc.s10,hc.s11,hc.s12,hc.s13,hc.s14,hc.s15⟩,fun h=>zb7 c _ h fun h0 h1 h2 h3 h4 h5 h6 h7 h8 h9 h10=>zbD _ h0 (Tr.zdi x _) h2 h3 h4 h5 h6 h7 h8 h9 h10⟩,fun W=>zuw c m x hm W⟩
   ·exact ⟨⟨c.s0,c.s1,(bits .and .u64 x 546),c.s3,c.s4,c.s5,c.s6,c.s7,c.s8,c.s9,c.s10,c.s11,c.s12,c.s13,c.s14,c.s15⟩,true,⟨⟨hc.s0,hc.s1,(zad _ _ _:U64 ((bits .and .u64 x 546))),hc.s3,hc.s4,hc.s5,hc.s6,hc.s7,hc.s8,hc.s9,hc.s10,hc.s11,hc.s12,hc.s13,hc.s14,hc.s15⟩,fun h=>zb7 c _ h fun h0 h1 h2 h3 h4 h5 h6 h7 h8 h9 h10=>zbD _ h0 h1 (Tr.zdi x _) h3 h4 h5 h6 h7 h8 h9 h10⟩,fun W=>znX c m x hm W⟩
   ·exact ⟨⟨c.s0,c.s1,c.s2,(bits .and .u64 x 2730),c.s4,c.s5,c.s6,c.s7,c.s8,c.s9,c.s10,c.s11,c.s12,c.s13,c.s14,c.s15⟩,true,⟨⟨hc.s0,hc.s1,hc.s2,(zad _ _ _:U64 ((bits .and .u64 x 2730))),hc.s4,hc.s5,hc.s6,hc.s7,hc.s8,hc.s9,hc.s10,hc.s11,hc.s12,hc.s13,hc.s14,hc.s15⟩,fun h=>zb7 c _ h fun h0 h1 h2 h3 h4 h5 h6 h7 h8 h9 h10=>zbD _ h0 h1 h2 (Tr.zdi x _) h4 h5 h6 h7 h8 h9 h10⟩,fun W=>zrD c m x hm W⟩
   ·exact ⟨⟨c.s0,c.s1,c.s2,c.s3,c.s4,(bits .and .u64 x 18446744073709551613),c.s6,c.s7,c.s8,c.s9,c.s10,c.s11,c.s12,c.s13,c.s14,c.s15⟩,true,⟨⟨hc.s0,hc.s1,hc.s2,hc.s3,hc.s4,(zad _ _ _:U64 ((bits .and .u64 x 18446744073709551613))),hc.s6,hc.s7,hc.s8,hc.s9,hc.s10,hc.s11,hc.s12,hc.s13,hc.s14,hc.s15⟩,fun h=>zb7 c _ h fun h0 h1 h2 h3 h4 h5 h6 h7 h8 h9 h10=>zbD _ h0 h1 h2 h3 h4 (Tr.zdi x _) h6 h7 h8 h9 h10⟩,fun W=>zwO c m x hm W⟩
   ·exact ⟨⟨c.s0,c.s1,c.s2,c.s3,c.s4,c.s5,x,c.s7,c.s8,c.s9,c.s10,c.s11,c.s12,c.s13,c.s14,c.s15⟩,true,⟨⟨hc.s0,hc.s1,hc.s2,hc.s3,hc.s4,hc.s5,hx,hc.s7,hc.s8,hc.s9,hc.s10,hc.s11,hc.s12,hc.s13,hc.s14,hc.s15⟩,fun h=>zb7 c _ h fun h0 h1 h2 h3 h4 h5 h6 h7 h8 h9 h10=>zbD _ h0 h1 h2 h3 h4 h5 h6 h7 h8 h9 h10⟩,fun W=>zsr c m x hm W⟩
   ·exact ⟨⟨c.s0,c.s1,c.s2,c.s3,c.s4,c.s5,c.s6,(bits .and .u64 x 18446744073709551614),c.s8,c.s9,c.s10,c.s11,c.s12,c.s13,c.s14,c.s15⟩,true,⟨⟨hc.s0,hc.s1,hc.s2,hc.s3,hc.s4,hc.s5,hc.s6,(zad _ _ _:U64 ((bits .and .u64 x 18446744073709551614))),hc.s8,hc.s9,hc.s10,hc.s11,hc.s12,hc.s13,hc.s14,hc.s15⟩,fun h=>zb7 c _ h fun h0 h1 h2 h3 h4 h5 h6 h7 h8 h9 h10=>zbD _ h0 h1 h2 h3 h4 h5 h6 (Tr.zdi x _) h8 h9 h10⟩,fun W=>znG c m x hm W⟩
   ·exact ⟨⟨c.s0,c.s1,c.s2,c.s3,c.s4,c.s5,c.s6,c.s7,x,c.s9,c.s10,c.s11,c.s12,c.s13,c.s14,c.s15⟩,true,⟨⟨hc.s0,hc.s1,hc.s2,hc.s3,hc.s4,hc.s5,hc.s6,hc.s7,hx,hc.s9,hc.s10,hc.s11,hc.s12,hc.s13,hc.s14,hc.s15⟩,fun h=>zb7 c _ h fun h0 h1 h2 h3 h4 h5 h6 h7 h8 h9 h10=>zbD _ h0 h1 h2 h3 h4 h5 h6 h7 h8 h9 h10⟩,fun W=>znF c m x hm W⟩
   ·exact ⟨⟨c.s0,c.s1,c.s2,c.s3,c.s4,c.s5,c.s6,c.s7,c.s8,x,c.s10,c.s11,c.s12,c.s13,c.s14,c.s15⟩,true,⟨⟨hc.s0,hc.s1,hc.s2,hc.s3,hc.s4,hc.s5,hc.s6,hc.s7,hc.s8,hx,hc.s10,hc.s11,hc.s12,hc.s13,hc.s14,hc.s15⟩,fun h=>zb7 c _ h fun h0 h1 h2 h3 h4 h5 h6 h7 h8 h9 h10=>zbD _ h0 h1 h2 h3 h4 h5 h6 h7 h8 h9 h10⟩,fun W=>zrB c m x hm W⟩
   ·exact ⟨⟨c.s0,c.s1,c.s2,c.s3,(bits .and .u64 x 546),c.s5,c.s6,c.s7,c.s8,c.s9,c.s10,c.s11,c.s12,c.s13,c.s14,c.s15⟩,true,⟨⟨hc.s0,hc.s1,hc.s2,hc.s3,(zad _ _ _:U64 ((bits .and .u64 x 546))),hc.s5,hc.s6,hc.s7,hc.s8,hc.s9,hc.s10,hc.s11,hc.s12,hc.s13,hc.s14,hc.s15⟩,fun h=>zb7 c _ h fun h0 h1 h2 h3 h4 h5 h6 h7 h8 h9 h10=>zbD _ h0 h1 h2 h3 (Tr.zdi x _) h5 h6 h7 h8 h9 h10⟩,fun W=>zlM c m x hm W⟩
   ·exact ⟨⟨c.s0,c.s1,c.s2,c.s3,c.s4,c.s5,c.s6,c.s7,c.s8,c.s9,c.s10,c.s11,c.s12,c.s13,c.s14,c.s15⟩,true,⟨⟨hc.s0,hc.s1,hc.s2,hc.s3,hc.s4,hc.s5,hc.s6,hc.s7,hc.s8,hc.s9,hc.s10,hc.s11,hc.s12,hc.s13,hc.s14,hc.s15⟩,fun h=>zb7 c _ h fun h0 h1 h2 h3 h4 h5 h6 h7 h8 h9 h10=>zbD _ h0 h1 h2 h3 h4 h5 h6 h7 h8 h9 h10⟩,fun W=>zqA c m x hm W⟩
   ·exact ⟨⟨c.s0,c.s1,c.s2,c.s3,c.s4,c.s5,c.s6,c.s7,c.s8,c.s9,c.s10,c.s11,c.s12,c.s13,c.s14,c.s15⟩,true,⟨⟨hc.s0,hc.s1,hc.s2,hc.s3,hc.s4,hc.s5,hc.s6,hc.s7,hc.s8,hc.s9,hc.s10,hc.s11,hc.s12,hc.s13,hc.s14,hc.s15⟩,fun h=>zb7 c _ h fun h0 h1 h2 h3 h4 h5 h6 h7 h8 h9 h10=>zbD _ h0 h1 h2 h3 h4 h5 h6 h7 h8 h9 h10⟩,fun W=>zqg c m x hm W⟩
  ·rcases Bool.eq_false_or_eq_true (zg9 n != 3) with ho | ho
   ·refine ⟨c,false,⟨hc,fun h=>h⟩,fun W=>?_⟩
    refine zoa c m n x hm ho ?_ ?_ ?_ ?_ ?_ ?_ ?_ ?_ ?_ ?_ ?_ ?_ ?_ ?_ ?_ ?_ ?_ ?_ ?_ ?_ ?_ ?_ W
    all_goals
     rw [beq_eq_false_iff_ne];intro e;exact h (by rw [e];decide)
   ·exact ⟨c,false,⟨hc,fun h=>h⟩,fun W=>zpE c m n x hm ho W⟩
 ·exact ⟨c,false,⟨hc,fun h=>h⟩,fun W=>zqX c m n x hm W⟩
open Classical in
noncomputable def wtV (c:Reg) (m n x:Int):Reg × Bool:=if h:∃ r:Reg,∃ ok:Bool,(RU r∧(zao c=true→zao r=true))∧∀ W,TB 110 #[regV c,.int .i64 m,.int .i64 n,.int .u64 x] W (.tuple #[regV r,.bool ok]) then (Classical.choose h,Classical.choose (Classical.choose_spec h)) else (c,false)
theorem wt_u (c:Reg) (m n x:Int) (hc:RU c):RU (wtV c m n x).1:=by
 unfold wtV
 split
 ·rename_i h
  exact (Classical.choose_spec (Classical.choose_spec h)).1.1
 ·exact hc
theorem wt_r (c:Reg) (m n x:Int) (hr:zao c=true):zao (wtV c m n x).1=true:=by
 unfold wtV
 split
 ·rename_i h
  exact (Classical.choose_spec (Classical.choose_spec h)).1.2 hr
 ·exact hr
theorem zjc (c:Reg) (m n x:Int) (hc:RU c) (hx:U64 x) (W:World):TB 110 #[regV c,.int .i64 m,.int .i64 n,.int .u64 x] W (.tuple #[regV (wtV c m n x).1,.bool (wtV c m n x).2]):=by
 have h:=ztN c m n x hc hx;unfold wtV;rw [dif_pos h];exact (Classical.choose_spec (Classical.choose_spec h)).2 W
end Go.Proofs.YtplcfdnfeclpmaaGreatDoor.Cs
