/- MachineAhead,part 36. -/
import Derived.Test.YtplcfdnfeclpmaaGreatDoorY16
import Derived.Test.YtplcfdnfeclpmaaGreatDoorY17
set_option maxHeartbeats 4000000
set_option maxRecDepth 100000
open Go.Lib (hid)
namespace Go.Proofs.YtplcfdnfeclpmaaGreatDoor.Cs
open Go.RowKit Go.Deep Go.Joins
set_option maxRecDepth 100000
theorem nigh {n:Nat} {a b:World} (h:Below n a b:=by repeat (first | with_reducible exact Below.refl _ _ | with_reducible refine Below.drew ?_ | with_reducible refine Below.alloc ?_ (by first | exact Nat.le_refl _ | simp | (simp;omega)) _ | with_reducible refine Below.setCell ?_ (by first | exact Nat.le_refl _ | simp | (simp;omega)) _)):Below n a b:=h
theorem zmR (c:Reg) (m n l k:Int) (hm:decide (zay n≤m)=false) (W:World):TB 108 #[regV c,.int .i64 m,.int .i64 n,.int .u64 l,.int .u64 k] W (.tuple #[.int .u64 0,.bool false]):=by
 go_enter Tryz.func108,Tryz.ntmps108
 go_wp2_with (first | (go_at_call 148;(with_reducible refine (za7 m n false hm _).mono ?_);rintro e w' ⟨rfl,rfl⟩) | fail)
 go_ret2
 exact ⟨rfl,by repeat (first | with_reducible exact Below.refl _ _ | with_reducible refine Below.drew ?_ | with_reducible refine Below.alloc ?_ (by first | exact Nat.le_refl _ | simp | (simp;omega)) _ | with_reducible refine Below.setCell ?_ (by first | exact Nat.le_refl _ | simp | (simp;omega)) _)⟩
theorem zpV (c:Reg) (m n l k:Int) (hm:decide (zay n≤m)=true) (h100:(n==256)=false) (h104:(n==260)=false) (h105:(n==261)=false) (h140:(n==320)=false) (h141:(n==321)=false) (h142:(n==322)=false) (h143:(n==323)=false) (h144:(n==324)=false) (h180:(n==384)=false) (h300:(n==768)=false) (h301:(n==769)=false) (h302:(n==770)=false) (h303:(n==771)=false) (h304:(n==772)=false) (h305:(n==773)=false) (h340:(n==832)=false) (h341:(n==833)=false) (h342:(n==834)=false) (h343:(n==835)=false) (h344:(n==836)=false) (hb00:(n==2816)=false) (hb02:(n==2818)=false) (hc00:(n==3072)=false) (hc01:(n==3073)=false) (hc02:(n==3074)=false) (hf11:(n==3857)=false) (hf12:(n==3858)=false) (hf13:(n==3859)=false) (hf14:(n==3860)=false) (W:World):TB 108 #[regV c,.int .i64 m,.int .i64 n,.int .u64 l,.int .u64 k] W (.tuple #[.int .u64 0,.bool false]):=by
 go_enter Tryz.func108,Tryz.ntmps108
 go_wp2_with (first | ((first | (go_at_call 148;with_reducible refine (za7 m n true hm _).mono ?_) | (go_at_call 149;with_reducible refine (zcn _ n h300 h302 h303 h304 h305 h340 h341 h342 h343 h105 h140 h141 h142 h143 h180 _).mono ?_));rintro e w' ⟨rfl,rfl⟩) | fail)
 go_ret2
 exact ⟨rfl,by repeat (first | with_reducible exact Below.refl _ _ | with_reducible refine Below.drew ?_ | with_reducible refine Below.alloc ?_ (by first | exact Nat.le_refl _ | simp | (simp;omega)) _ | with_reducible refine Below.setCell ?_ (by first | exact Nat.le_refl _ | simp | (simp;omega)) _)⟩
theorem znk (c:Reg) (m l k:Int) (hm:decide (zay 256≤m)=true) (W:World):TB 108 #[regV c,.int .i64 m,.int .i64 256,.int .u64 l,.int .u64 k] W (.tuple #[.int .u64 (bits .and .u64 c.s0 786722),.bool true]):=by
 go_enter Tryz.func108,Tryz.ntmps108
 go_wp2_with (first | ((first | (go_at_call 148;with_reducible refine (za7 m 256 true hm _).mono ?_) | (go_at_call 149;with_reducible refine (ziL _ _).mono ?_));rintro e w' ⟨rfl,rfl⟩) | fail)
 all_goals go_ret2
 all_goals exact ⟨rfl,nigh⟩
theorem zrY (c:Reg) (m l k:Int) (hm:decide (zay 260≤m)=true) (W:World):TB 108 #[regV c,.int .i64 m,.int .i64 260,.int .u64 l,.int .u64 k] W (.tuple #[.int .u64 (bits .and .u64 c.s3 c.s2),.bool true]):=by
 go_enter Tryz.func108,Tryz.ntmps108
 go_wp2_with (first | ((first | (go_at_call 148;with_reducible refine (za7 m 260 true hm _).mono ?_) | (go_at_call 149;with_reducible refine (zh1 _ _).mono ?_));rintro e w' ⟨rfl,rfl⟩) | fail)
 all_goals go_ret2
 all_goals exact ⟨rfl,nigh⟩
theorem zqG (c:Reg) (m l k:Int) (hm:decide (zay 261≤m)=true) (W:World):TB 108 #[regV c,.int .i64 m,.int .i64 261,.int .u64 l,.int .u64 k] W (.tuple #[.int .u64 c.s10,.bool true]):=by
 go_enter Tryz.func108,Tryz.ntmps108
 go_wp2_with (first | ((first | (go_at_call 148;with_reducible refine (za7 m 261 true hm _).mono ?_) | (go_at_call 149;with_reducible refine (zhX _ _).mono ?_));rintro e w' ⟨rfl,rfl⟩) | fail)
 all_goals go_ret2
 all_goals exact ⟨rfl,nigh⟩
theorem zwc (c:Reg) (m l k:Int) (hm:decide (zay 320≤m)=true) (W:World):TB 108 #[regV c,.int .i64 m,.int .i64 320,.int .u64 l,.int .u64 k] W (.tuple #[.int .u64 c.s11,.bool true]):=by
 go_enter Tryz.func108,Tryz.ntmps108
 go_wp2_with (first | ((first | (go_at_call 148;with_reducible refine (za7 m 320 true hm _).mono ?_) | (go_at_call 149;with_reducible refine (zin _ _).mono ?_));rintro e w' ⟨rfl,rfl⟩) | fail)
 all_goals go_ret2
 all_goals exact ⟨rfl,nigh⟩
theorem zwR (c:Reg) (m l k:Int) (hm:decide (zay 321≤m)=true) (W:World):TB 108 #[regV c,.int .i64 m,.int .i64 321,.int .u64 l,.int .u64 k] W (.tuple #[.int .u64 c.s12,.bool true]):=by
 go_enter Tryz.func108,Tryz.ntmps108
 go_wp2_with (first | ((first | (go_at_call 148;with_reducible refine (za7 m 321 true hm _).mono ?_) | (go_at_call 149;with_reducible refine (zji _ _).mono ?_));rintro e w' ⟨rfl,rfl⟩) | fail)
 all_goals go_ret2
 all_goals exact ⟨rfl,nigh⟩
theorem zxr (c:Reg) (m l k:Int) (hm:decide (zay 322≤m)=true) (W:World):TB 108 #[regV c,.int .i64 m,.int .i64 322,.int .u64 l,.int .u64 k] W (.tuple #[.int .u64 c.s13,.bool true]):=by
 go_enter Tryz.func108,Tryz.ntmps108
 go_wp2_with (first | ((first | (go_at_call 148;with_reducible refine (za7 m 322 true hm _).mono ?_) | (go_at_call 149;with_reducible refine (zjQ _ _).mono ?_));rintro e w' ⟨rfl,rfl⟩) | fail)
 all_goals go_ret2
 all_goals exact ⟨rfl,nigh⟩
theorem zqw (c:Reg) (m l k:Int) (hm:decide (zay 323≤m)=true) (W:World):TB 108 #[regV c,.int .i64 m,.int .i64 323,.int .u64 l,.int .u64 k] W (.tuple #[.int .u64 c.s14,.bool true]):=by
 go_enter Tryz.func108,Tryz.ntmps108
 go_wp2_with (first | ((first | (go_at_call 148;with_reducible refine (za7 m 323 true hm _).mono ?_) | (go_at_call 149;with_reducible refine (ziz _ _).mono ?_));rintro e w' ⟨rfl,rfl⟩) | fail)
 all_goals go_ret2
 all_goals exact ⟨rfl,nigh⟩
theorem zod (c:Reg) (m l k:Int) (hm:decide (zay 324≤m)=true) (W:World):TB 108 #[regV c,.int .i64 m,.int .i64 324,.int .u64 l,.int .u64 k] W (.tuple #[.int .u64 (bits .and .u64 (rsV c.s4 l) c.s2),.bool true]):=by
 go_enter Tryz.func108,Tryz.ntmps108
 go_wp2_with (first | ((first | (go_at_call 148;with_reducible refine (za7 m 324 true hm _).mono ?_) | (go_at_call 149;with_reducible refine (zjr _ _).mono ?_));rintro e w' ⟨rfl,rfl⟩) | fail)
 go_region_with (first | (go_at_call 150;(with_reducible refine (zhN c l _).mono ?_);rintro e w' ⟨rfl,rfl⟩) | fail)
 all_goals go_wp2
 all_goals go_ret2
 all_goals exact ⟨rfl,nigh⟩
theorem zuB (c:Reg) (m l k:Int) (hm:decide (zay 384≤m)=true) (W:World):TB 108 #[regV c,.int .i64 m,.int .i64 384,.int .u64 l,.int .u64 k] W (.tuple #[.int .u64 c.s15,.bool true]):=by
 go_enter Tryz.func108,Tryz.ntmps108
 go_wp2_with (first | ((first | (go_at_call 148;with_reducible refine (za7 m 384 true hm _).mono ?_) | (go_at_call 149;with_reducible refine (zhT _ _).mono ?_));rintro e w' ⟨rfl,rfl⟩) | fail)
 all_goals go_ret2
 all_goals exact ⟨rfl,nigh⟩
theorem zrH (c:Reg) (m l k:Int) (hm:decide (zay 768≤m)=true) (W:World):TB 108 #[regV c,.int .i64 m,.int .i64 768,.int .u64 l,.int .u64 k] W (.tuple #[.int .u64 c.s0,.bool true]):=by
 go_enter Tryz.func108,Tryz.ntmps108
 go_wp2_with (first | ((first | (go_at_call 148;with_reducible refine (za7 m 768 true hm _).mono ?_) | (go_at_call 149;with_reducible refine (zhI _ _).mono ?_));rintro e w' ⟨rfl,rfl⟩) | fail)
 all_goals go_ret2
 all_goals exact ⟨rfl,nigh⟩
theorem znq (c:Reg) (m l k:Int) (hm:decide (zay 769≤m)=true) (W:World):TB 108 #[regV c,.int .i64 m,.int .i64 769,.int .u64 l,.int .u64 k] W (.tuple #[.int .u64 9223372036856090885,.bool true]):=by
 go_enter Tryz.func108,Tryz.ntmps108
 go_wp2_with (first | ((first | (go_at_call 148;with_reducible refine (za7 m 769 true hm _).mono ?_) | (go_at_call 149;with_reducible refine (zka _ _).mono ?_));rintro e w' ⟨rfl,rfl⟩) | fail)
 all_goals go_ret2
 all_goals exact ⟨rfl,nigh⟩
theorem zk2 (c:Reg) (m l k:Int) (hm:decide (zay 770≤m)=true) (W:World):TB 108 #[regV c,.int .i64 m,.int .i64 770,.int .u64 l,.int .u64 k] W (.tuple #[.int .u64 c.s1,.bool true]):=by
 go_enter Tryz.func108,Tryz.ntmps108
 go_wp2_with (first | ((first | (go_at_call 148;with_reducible refine (za7 m 770 true hm _).mono ?_) | (go_at_call 149;with_reducible refine (zjB _ _).mono ?_));rintro e w' ⟨rfl,rfl⟩) | fail)
 all_goals go_ret2
 all_goals exact ⟨rfl,nigh⟩
theorem zxk (c:Reg) (m l k:Int) (hm:decide (zay 771≤m)=true) (W:World):TB 108 #[regV c,.int .i64 m,.int .i64 771,.int .u64 l,.int .u64 k] W (.tuple #[.int .u64 c.s2,.bool true]):=by
 go_enter Tryz.func108,Tryz.ntmps108
 go_wp2_with (first | ((first | (go_at_call 148;with_reducible refine (za7 m 771 true hm _).mono ?_) | (go_at_call 149;with_reducible refine (zhD _ _).mono ?_));rintro e w' ⟨rfl,rfl⟩) | fail)
 all_goals go_ret2
 all_goals exact ⟨rfl,nigh⟩
theorem zor (c:Reg) (m l k:Int) (hm:decide (zay 772≤m)=true) (W:World):TB 108 #[regV c,.int .i64 m,.int .i64 772,.int .u64 l,.int .u64 k] W (.tuple #[.int .u64 c.s3,.bool true]):=by
 go_enter Tryz.func108,Tryz.ntmps108
 go_wp2_with (first | ((first | (go_at_call 148;with_reducible refine (za7 m 772 true hm _).mono ?_) | (go_at_call 149;with_reducible refine (zi9 _ _).mono ?_));rintro e w' ⟨rfl,rfl⟩) | fail)
 all_goals go_ret2
 all_goals exact ⟨rfl,nigh⟩
theorem ztD (c:Reg) (m l k:Int) (hm:decide (zay 773≤m)=true) (W:World):TB 108 #[regV c,.int .i64 m,.int .i64 773,.int .u64 l,.int .u64 k] W (.tuple #[.int .u64 c.s5,.bool true]):=by
 go_enter Tryz.func108,Tryz.ntmps108
 go_wp2_with (first | ((first | (go_at_call 148;with_reducible refine (za7 m 773 true hm _).mono ?_) | (go_at_call 149;with_reducible refine (zhA _ _).mono ?_));rintro e w' ⟨rfl,rfl⟩) | fail)
 all_goals go_ret2
 all_goals exact ⟨rfl,nigh⟩
theorem zkM (c:Reg) (m l k:Int) (hm:decide (zay 832≤m)=true) (W:World):TB 108 #[regV c,.int .i64 m,.int .i64 832,.int .u64 l,.int .u64 k] W (.tuple #[.int .u64 c.s6,.bool true]):=by
 go_enter Tryz.func108,Tryz.ntmps108
 go_wp2_with (first | ((first | (go_at_call 148;with_reducible refine (za7 m 832 true hm _).mono ?_) | (go_at_call 149;with_reducible refine (zjv _ _).mono ?_));rintro e w' ⟨rfl,rfl⟩) | fail)
 all_goals go_ret2
 all_goals exact ⟨rfl,nigh⟩
theorem zpu (c:Reg) (m l k:Int) (hm:decide (zay 833≤m)=true) (W:World):TB 108 #[regV c,.int .i64 m,.int .i64 833,.int .u64 l,.int .u64 k] W (.tuple #[.int .u64 c.s7,.bool true]):=by
 go_enter Tryz.func108,Tryz.ntmps108
 go_wp2_with (first | ((first | (go_at_call 148;with_reducible refine (za7 m 833 true hm _).mono ?_) | (go_at_call 149;with_reducible refine (zjl _ _).mono ?_));rintro e w' ⟨rfl,rfl⟩) | fail)
 all_goals go_ret2
 all_goals exact ⟨rfl,nigh⟩
theorem zmh (c:Reg) (m l k:Int) (hm:decide (zay 834≤m)=true) (W:World):TB 108 #[regV c,.int .i64 m,.int .i64 834,.int .u64 l,.int .u64 k] W (.tuple #[.int .u64 c.s8,.bool true]):=by
 go_enter Tryz.func108,Tryz.ntmps108
 go_wp2_with (first | ((first | (go_at_call 148;with_reducible refine (za7 m 834 true hm _).mono ?_) | (go_at_call 149;with_reducible refine (zi8 _ _).mono ?_));rintro e w' ⟨rfl,rfl⟩) | fail)
 all_goals go_ret2
 all_goals exact ⟨rfl,nigh⟩
theorem zqy (c:Reg) (m l k:Int) (hm:decide (zay 835≤m)=true) (W:World):TB 108 #[regV c,.int .i64 m,.int .i64 835,.int .u64 l,.int .u64 k] W (.tuple #[.int .u64 c.s9,.bool true]):=by
 go_enter Tryz.func108,Tryz.ntmps108
 go_wp2_with (first | ((first | (go_at_call 148;with_reducible refine (za7 m 835 true hm _).mono ?_) | (go_at_call 149;with_reducible refine (zid _ _).mono ?_));rintro e w' ⟨rfl,rfl⟩) | fail)
 all_goals go_ret2
 all_goals exact ⟨rfl,nigh⟩
theorem zqT (c:Reg) (m l k:Int) (hm:decide (zay 836≤m)=true) (W:World):TB 108 #[regV c,.int .i64 m,.int .i64 836,.int .u64 l,.int .u64 k] W (.tuple #[.int .u64 (rsV c.s4 l),.bool true]):=by
 go_enter Tryz.func108,Tryz.ntmps108
 go_wp2_with (first | ((first | (go_at_call 148;with_reducible refine (za7 m 836 true hm _).mono ?_) | (go_at_call 149;with_reducible refine (zio _ _).mono ?_) | (go_at_call 150;with_reducible refine (zhN c l _).mono ?_));rintro e w' ⟨rfl,rfl⟩) | fail)
 all_goals go_ret2
 all_goals exact ⟨rfl,nigh⟩
theorem zv0 (c:Reg) (m l k:Int) (hm:decide (zay 2816≤m)=true) (W:World):TB 108 #[regV c,.int .i64 m,.int .i64 2816,.int .u64 l,.int .u64 k] W (.tuple #[.int .u64 k,.bool true]):=by
 go_enter Tryz.func108,Tryz.ntmps108
 go_wp2_with (first | ((first | (go_at_call 148;with_reducible refine (za7 m 2816 true hm _).mono ?_) | (go_at_call 149;with_reducible refine (ziq _ _).mono ?_));rintro e w' ⟨rfl,rfl⟩) | fail)
 all_goals go_ret2
 all_goals exact ⟨rfl,nigh⟩
theorem zrr (c:Reg) (m l k:Int) (hm:decide (zay 2818≤m)=true) (W:World):TB 108 #[regV c,.int .i64 m,.int .i64 2818,.int .u64 l,.int .u64 k] W (.tuple #[.int .u64 k,.bool true]):=by
 go_enter Tryz.func108,Tryz.ntmps108
 go_wp2_with (first | ((first | (go_at_call 148;with_reducible refine (za7 m 2818 true hm _).mono ?_) | (go_at_call 149;with_reducible refine (zhH _ _).mono ?_));rintro e w' ⟨rfl,rfl⟩) | fail)
 all_goals go_ret2
 all_goals exact ⟨rfl,nigh⟩
theorem zp9 (c:Reg) (m l k:Int) (hm:decide (zay 3072≤m)=true) (W:World):TB 108 #[regV c,.int .i64 m,.int .i64 3072,.int .u64 l,.int .u64 k] W (.tuple #[.int .u64 k,.bool true]):=by
 go_enter Tryz.func108,Tryz.ntmps108
 go_wp2_with (first | ((first | (go_at_call 148;with_reducible refine (za7 m 3072 true hm _).mono ?_) | (go_at_call 149;with_reducible refine (zn4 _ _).mono ?_));rintro e w' ⟨rfl,rfl⟩) | fail)
 all_goals go_ret2
 all_goals exact ⟨rfl,nigh⟩
theorem zx4 (c:Reg) (m l k:Int) (hm:decide (zay 3073≤m)=true) (W:World):TB 108 #[regV c,.int .i64 m,.int .i64 3073,.int .u64 l,.int .u64 k] W (.tuple #[.int .u64 k,.bool true]):=by
 go_enter Tryz.func108,Tryz.ntmps108
 go_wp2_with (first | ((first | (go_at_call 148;with_reducible refine (za7 m 3073 true hm _).mono ?_) | (go_at_call 149;with_reducible refine (zsj _ _).mono ?_));rintro e w' ⟨rfl,rfl⟩) | fail)
 all_goals go_ret2
 all_goals exact ⟨rfl,nigh⟩
theorem zwv (c:Reg) (m l k:Int) (hm:decide (zay 3074≤m)=true) (W:World):TB 108 #[regV c,.int .i64 m,.int .i64 3074,.int .u64 l,.int .u64 k] W (.tuple #[.int .u64 k,.bool true]):=by
 go_enter Tryz.func108,Tryz.ntmps108
 go_wp2_with (first | ((first | (go_at_call 148;with_reducible refine (za7 m 3074 true hm _).mono ?_) | (go_at_call 149;with_reducible refine (zsf _ _).mono ?_));rintro e w' ⟨rfl,rfl⟩) | fail)
 all_goals go_ret2
 all_goals exact ⟨rfl,nigh⟩
theorem zwC (c:Reg) (m l k:Int) (hm:decide (zay 3857≤m)=true) (W:World):TB 108 #[regV c,.int .i64 m,.int .i64 3857,.int .u64 l,.int .u64 k] W (.tuple #[.int .u64 0,.bool true]):=by
 go_enter Tryz.func108,Tryz.ntmps108
 go_wp2_with (first | ((first | (go_at_call 148;with_reducible refine (za7 m 3857 true hm _).mono ?_) | (go_at_call 149;with_reducible refine (zrz _ _).mono ?_));rintro e w' ⟨rfl,rfl⟩) | fail)
 all_goals go_ret2
 all_goals exact ⟨rfl,nigh⟩
theorem zql (c:Reg) (m l k:Int) (hm:decide (zay 3858≤m)=true) (W:World):TB 108 #[regV c,.int .i64 m,.int .i64 3858,.int .u64 l,.int .u64 k] W (.tuple #[.int .u64 0,.bool true]):=by
 go_enter Tryz.func108,Tryz.ntmps108
 go_wp2_with (first | ((first | (go_at_call 148;with_reducible refine (za7 m 3858 true hm _).mono ?_) | (go_at_call 149;with_reducible refine (zo3 _ _).mono ?_));rintro e w' ⟨rfl,rfl⟩) | fail)
 all_goals go_ret2
 all_goals exact ⟨rfl,nigh⟩
theorem zow (c:Reg) (m l k:Int) (hm:decide (zay 3859≤m)=true) (W:World):TB 108 #[regV c,.int .i64 m,.int .i64 3859,.int .u64 l,.int .u64 k] W (.tuple #[.int .u64 0,.bool true]):=by
 go_enter Tryz.func108,Tryz.ntmps108
 go_wp2_with (first | ((first | (go_at_call 148;with_reducible refine (za7 m 3859 true hm _).mono ?_) | (go_at_call 149;with_reducible refine (zqm _ _).mono ?_));rintro e w' ⟨rfl,rfl⟩) | fail)
 all_goals go_ret2
 all_goals exact ⟨rfl,nigh⟩
theorem zsp (c:Reg) (m l k:Int) (hm:decide (zay 3860≤m)=true) (W:World):TB 108 #[regV c,.int .i64 m,.int .i64 3860,.int .u64 l,.int .u64 k] W (.tuple #[.int .u64 0,.bool true]):=by
 go_enter Tryz.func108,Tryz.ntmps108
 go_wp2_with (first | ((first | (go_at_call 148;with_reducible refine (za7 m 3860 true hm _).mono ?_) | (go_at_call 149;with_reducible refine (zuY _ _).mono ?_));rintro e w' ⟨rfl,rfl⟩) | fail)
 all_goals go_ret2
 all_goals exact ⟨rfl,nigh⟩
end Go.Proofs.YtplcfdnfeclpmaaGreatDoor.Cs
namespace Go.Proofs.YtplcfdnfeclpmaaGreatDoor.Cs
open Go.RowKit Go.Deep Go.Joins
set_option maxRecDepth 100000
def U64 (x:Int):Prop:=0≤x∧x<18446744073709551616
structure RU (c:Reg):Prop where
 s0:U64 c.s0
 s1:U64 c.s1
 s2:U64 c.s2
 s3:U64 c.s3
 s4:U64 c.s4
 s5:U64 c.s5
 s6:U64 c.s6
 s7:U64 c.s7
 s8:U64 c.s8
 s9:U64 c.s9
 s10:U64 c.s10
 s11:U64 c.s11
 s12:U64 c.s12
 s13:U64 c.s13
 s14:U64 c.s14
 s15:U64 c.s15
theorem zag (op:BinOp) (a b:Int):U64 (bits op .u64 a b):=⟨bits_lo_u64 op a b,by have:=bits_hi_u64 op a b;omega⟩
theorem zaq:U64 0:=⟨by omega,by omega⟩
theorem zhB (v:Int):U64 (stV v):=by unfold stV;split <;> exact zag _ _ _
theorem ziv (w v:Int) (h:U64 w):U64 (spV w v):=by
 unfold spV
 split
 ·exact zag _ _ _
 ·exact h
theorem zhh (n v b:Int):U64 (mxV n v b):=zag _ _ _
theorem zan (p l:Int):U64 (rsV p l):=zag _ _ _
theorem zra (c:Reg) (m n l k:Int) (hc:RU c) (hk:U64 k):∃ r:Int,∃ ok:Bool,U64 r∧∀ W,TB 108 #[regV c,.int .i64 m,.int .i64 n,.int .u64 l,.int .u64 k] W (.tuple #[.int .u64 r,.bool ok]):=by
 rcases Bool.eq_false_or_eq_true (decide (zay n≤m)) with hm | hm
 ·by_cases h:n∈([256,260,261,320,321,322,323,324,384,768,769,770,771,772,773,832,833,834,835,836,2816,2818,3072,3073,3074,3857,3858,3859,3860]:List Int)
  ·simp only [List.mem_cons,List.not_mem_nil,or_false] at h
   rcases h with rfl | rfl | rfl | rfl | rfl | rfl | rfl | rfl | rfl | rfl | rfl | rfl | rfl | rfl | rfl | rfl | rfl | rfl | rfl | rfl | rfl | rfl | rfl | rfl | rfl | rfl | rfl | rfl | rfl
   ·exact ⟨_,_,by first | exact zag _ _ _ | exact zan _ _ | exact zaq | exact hk | exact hc.s0 | exact hc.s1 | exact hc.s2 | exact hc.s3 | exact hc.s5 | exact hc.s6 | exact hc.s7 | exact hc.s8 | exact hc.s9 | exact hc.s10 | exact hc.s11 | exact hc.s12 | exact hc.s13 | exact hc.s14 | exact hc.s15 | exact ⟨by omega,by omega⟩,fun W=>znk c m l k hm W⟩
   ·exact ⟨_,_,by first | exact zag _ _ _ | exact zan _ _ | exact zaq | exact hk | exact hc.s0 | exact hc.s1 | exact hc.s2 | exact hc.s3 | exact hc.s5 | exact hc.s6 | exact hc.s7 | exact hc.s8 | exact hc.s9 | exact hc.s10 | exact hc.s11 | exact hc.s12 | exact hc.s13 | exact hc.s14 | exact hc.s15 | exact ⟨by omega,by omega⟩,fun W=>zrY c m l k hm W⟩
   ·exact ⟨_,_,by first | exact zag _ _ _ | exact zan _ _ | exact zaq | exact hk | exact hc.s0 | exact hc.s1 | exact hc.s2 | exact hc.s3 | exact hc.s5 | exact hc.s6 | exact hc.s7 | exact hc.s8 | exact hc.s9 | exact hc.s10 | exact hc.s11 | exact hc.s12 | exact hc.s13 | exact hc.s14 | exact hc.s15 | exact ⟨by omega,by omega⟩,fun W=>zqG c m l k hm W⟩
   ·exact ⟨_,_,by first | exact zag _ _ _ | exact zan _ _ | exact zaq | exact hk | exact hc.s0 | exact hc.s1 | exact hc.s2 | exact hc.s3 | exact hc.s5 | exact hc.s6 | exact hc.s7 | exact hc.s8 | exact hc.s9 | exact hc.s10 | exact hc.s11 | exact hc.s12 | exact hc.s13 | exact hc.s14 | exact hc.s15 | exact ⟨by omega,by omega⟩,fun W=>zwc c m l k hm W⟩
   ·exact ⟨_,_,by first | exact zag _ _ _ | exact zan _ _ | exact zaq | exact hk | exact hc.s0 | exact hc.s1 | exact hc.s2 | exact hc.s3 | exact hc.s5 | exact hc.s6 | exact hc.s7 | exact hc.s8 | exact hc.s9 | exact hc.s10 | exact hc.s11 | exact hc.s12 | exact hc.s13 | exact hc.s14 | exact hc.s15 | exact ⟨by omega,by omega⟩,fun W=>zwR c m l k hm W⟩
   ·exact ⟨_,_,by first | exact zag _ _ _ | exact zan _ _ | exact zaq | exact hk | exact hc.s0 | exact hc.s1 | exact hc.s2 | exact hc.s3 | exact hc.s5 | exact hc.s6 | exact hc.s7 | exact hc.s8 | exact hc.s9 | exact hc.s10 | exact hc.s11 | exact hc.s12 | exact hc.s13 | exact hc.s14 | exact hc.s15 | exact ⟨by omega,by omega⟩,fun W=>zxr c m l k hm W⟩
   ·exact ⟨_,_,by first | exact zag _ _ _ | exact zan _ _ | exact zaq | exact hk | exact hc.s0 | exact hc.s1 | exact hc.s2 | exact hc.s3 | exact hc.s5 | exact hc.s6 | exact hc.s7 | exact hc.s8 | exact hc.s9 | exact hc.s10 | exact hc.s11 | exact hc.s12 | exact hc.s13 | exact hc.s14 | exact hc.s15 | exact ⟨by omega,by omega⟩,fun W=>zqw c m l k hm W⟩
   ·exact ⟨_,_,by first | exact zag _ _ _ | exact zan _ _ | exact zaq | exact hk | exact hc.s0 | exact hc.s1 | exact hc.s2 | exact hc.s3 | exact hc.s5 | exact hc.s6 | exact hc.s7 | exact hc.s8 | exact hc.s9 | exact hc.s10 | exact hc.s11 | exact hc.s12 | exact hc.s13 | exact hc.s14 | exact hc.s15 | exact ⟨by omega,by omega⟩,fun W=>zod c m l k hm W⟩
   ·exact ⟨_,_,by first | exact zag _ _ _ | exact zan _ _ | exact zaq | exact hk | exact hc.s0 | exact hc.s1 | exact hc.s2 | exact hc.s3 | exact hc.s5 | exact hc.s6 | exact hc.s7 | exact hc.s8 | exact hc.s9 | exact hc.s10 | exact hc.s11 | exact hc.s12 | exact hc.s13 | exact hc.s14 | exact hc.s15 | exact ⟨by omega,by omega⟩,fun W=>zuB c m l k hm W⟩
   ·exact ⟨_,_,by first | exact zag _ _ _ | exact zan _ _ | exact zaq | exact hk | exact hc.s0 | exact hc.s1 | exact hc.s2 | exact hc.s3 | exact hc.s5 | exact hc.s6 | exact hc.s7 | exact hc.s8 | exact hc.s9 | exact hc.s10 | exact hc.s11 | exact hc.s12 | exact hc.s13 | exact hc.s14 | exact hc.s15 | exact ⟨by omega,by omega⟩,fun W=>zrH c m l k hm W⟩
   ·exact ⟨_,_,by first | exact zag _ _ _ | exact zan _ _ | exact zaq | exact hk | exact hc.s0 | exact hc.s1 | exact hc.s2 | exact hc.s3 | exact hc.s5 | exact hc.s6 | exact hc.s7 | exact hc.s8 | exact hc.s9 | exact hc.s10 | exact hc.s11 | exact hc.s12 | exact hc.s13 | exact hc.s14 | exact hc.s15 | exact ⟨by omega,by omega⟩,fun W=>znq c m l k hm W⟩
   ·exact ⟨_,_,by first | exact zag _ _ _ | exact zan _ _ | exact zaq | exact hk | exact hc.s0 | exact hc.s1 | exact hc.s2 | exact hc.s3 | exact hc.s5 | exact hc.s6 | exact hc.s7 | exact hc.s8 | exact hc.s9 | exact hc.s10 | exact hc.s11 | exact hc.s12 | exact hc.s13 | exact hc.s14 | exact hc.s15 | exact ⟨by omega,by omega⟩,fun W=>zk2 c m l k hm W⟩
   ·exact ⟨_,_,by first | exact zag _ _ _ | exact zan _ _ | exact zaq | exact hk | exact hc.s0 | exact hc.s1 | exact hc.s2 | exact hc.s3 | exact hc.s5 | exact hc.s6 | exact hc.s7 | exact hc.s8 | exact hc.s9 | exact hc.s10 | exact hc.s11 | exact hc.s12 | exact hc.s13 | exact hc.s14 | exact hc.s15 | exact ⟨by omega,by omega⟩,fun W=>zxk c m l k hm W⟩
   ·exact ⟨_,_,by first | exact zag _ _ _ | exact zan _ _ | exact zaq | exact hk | exact hc.s0 | exact hc.s1 | exact hc.s2 | exact hc.s3 | exact hc.s5 | exact hc.s6 | exact hc.s7 | exact hc.s8 | exact hc.s9 | exact hc.s10 | exact hc.s11 | exact hc.s12 | exact hc.s13 | exact hc.s14 | exact hc.s15 | exact ⟨by omega,by omega⟩,fun W=>zor c m l k hm W⟩
   ·exact ⟨_,_,by first | exact zag _ _ _ | exact zan _ _ | exact zaq | exact hk | exact hc.s0 | exact hc.s1 | exact hc.s2 | exact hc.s3 | exact hc.s5 | exact hc.s6 | exact hc.s7 | exact hc.s8 | exact hc.s9 | exact hc.s10 | exact hc.s11 | exact hc.s12 | exact hc.s13 | exact hc.s14 | exact hc.s15 | exact ⟨by omega,by omega⟩,fun W=>ztD c m l k hm W⟩
   ·exact ⟨_,_,by first | exact zag _ _ _ | exact zan _ _ | exact zaq | exact hk | exact hc.s0 | exact hc.s1 | exact hc.s2 | exact hc.s3 | exact hc.s5 | exact hc.s6 | exact hc.s7 | exact hc.s8 | exact hc.s9 | exact hc.s10 | exact hc.s11 | exact hc.s12 | exact hc.s13 | exact hc.s14 | exact hc.s15 | exact ⟨by omega,by omega⟩,fun W=>zkM c m l k hm W⟩
   ·exact ⟨_,_,by first | exact zag _ _ _ | exact zan _ _ | exact zaq | exact hk | exact hc.s0 | exact hc.s1 | exact hc.s2 | exact hc.s3 | exact hc.s5 | exact hc.s6 | exact hc.s7 | exact hc.s8 | exact hc.s9 | exact hc.s10 | exact hc.s11 | exact hc.s12 | exact hc.s13 | exact hc.s14 | exact hc.s15 | exact ⟨by omega,by omega⟩,fun W=>zpu c m l k hm W⟩
   ·exact ⟨_,_,by first | exact zag _ _ _ | exact zan _ _ | exact zaq | exact hk | exact hc.s0 | exact hc.s1 | exact hc.s2 | exact hc.s3 | exact hc.s5 | exact hc.s6 | exact hc.s7 | exact hc.s8 | exact hc.s9 | exact hc.s10 | exact hc.s11 | exact hc.s12 | exact hc.s13 | exact hc.s14 | exact hc.s15 | exact ⟨by omega,by omega⟩,fun W=>zmh c m l k hm W⟩
   ·exact ⟨_,_,by first | exact zag _ _ _ | exact zan _ _ | exact zaq | exact hk | exact hc.s0 | exact hc.s1 | exact hc.s2 | exact hc.s3 | exact hc.s5 | exact hc.s6 | exact hc.s7 | exact hc.s8 | exact hc.s9 | exact hc.s10 | exact hc.s11 | exact hc.s12 | exact hc.s13 | exact hc.s14 | exact hc.s15 | exact ⟨by omega,by omega⟩,fun W=>zqy c m l k hm W⟩
   ·exact ⟨_,_,by first | exact zag _ _ _ | exact zan _ _ | exact zaq | exact hk | exact hc.s0 | exact hc.s1 | exact hc.s2 | exact hc.s3 | exact hc.s5 | exact hc.s6 | exact hc.s7 | exact hc.s8 | exact hc.s9 | exact hc.s10 | exact hc.s11 | exact hc.s12 | exact hc.s13 | exact hc.s14 | exact hc.s15 | exact ⟨by omega,by omega⟩,fun W=>zqT c m l k hm W⟩
   ·exact ⟨_,_,by first | exact zag _ _ _ | exact zan _ _ | exact zaq | exact hk | exact hc.s0 | exact hc.s1 | exact hc.s2 | exact hc.s3 | exact hc.s5 | exact hc.s6 | exact hc.s7 | exact hc.s8 | exact hc.s9 | exact hc.s10 | exact hc.s11 | exact hc.s12 | exact hc.s13 | exact hc.s14 | exact hc.s15 | exact ⟨by omega,by omega⟩,fun W=>zv0 c m l k hm W⟩
   ·exact ⟨_,_,by first | exact zag _ _ _ | exact zan _ _ | exact zaq | exact hk | exact hc.s0 | exact hc.s1 | exact hc.s2 | exact hc.s3 | exact hc.s5 | exact hc.s6 | exact hc.s7 | exact hc.s8 | exact hc.s9 | exact hc.s10 | exact hc.s11 | exact hc.s12 | exact hc.s13 | exact hc.s14 | exact hc.s15 | exact ⟨by omega,by omega⟩,fun W=>zrr c m l k hm W⟩
   ·exact ⟨_,_,by first | exact zag _ _ _ | exact zan _ _ | exact zaq | exact hk | exact hc.s0 | exact hc.s1 | exact hc.s2 | exact hc.s3 | exact hc.s5 | exact hc.s6 | exact hc.s7 | exact hc.s8 | exact hc.s9 | exact hc.s10 | exact hc.s11 | exact hc.s12 | exact hc.s13 | exact hc.s14 | exact hc.s15 | exact ⟨by omega,by omega⟩,fun W=>zp9 c m l k hm W⟩
   ·exact ⟨_,_,by first | exact zag _ _ _ | exact zan _ _ | exact zaq | exact hk | exact hc.s0 | exact hc.s1 | exact hc.s2 | exact hc.s3 | exact hc.s5 | exact hc.s6 | exact hc.s7 | exact hc.s8 | exact hc.s9 | exact hc.s10 | exact hc.s11 | exact hc.s12 | exact hc.s13 | exact hc.s14 | exact hc.s15 | exact ⟨by omega,by omega⟩,fun W=>zx4 c m l k hm W⟩
   ·exact ⟨_,_,by first | exact zag _ _ _ | exact zan _ _ | exact zaq | exact hk | exact hc.s0 | exact hc.s1 | exact hc.s2 | exact hc.s3 | exact hc.s5 | exact hc.s6 | exact hc.s7 | exact hc.s8 | exact hc.s9 | exact hc.s10 | exact hc.s11 | exact hc.s12 | exact hc.s13 | exact hc.s14 | exact hc.s15 | exact ⟨by omega,by omega⟩,fun W=>zwv c m l k hm W⟩
   ·exact ⟨_,_,by first | exact zag _ _ _ | exact zan _ _ | exact zaq | exact hk | exact hc.s0 | exact hc.s1 | exact hc.s2 | exact hc.s3 | exact hc.s5 | exact hc.s6 | exact hc.s7 | exact hc.s8 | exact hc.s9 | exact hc.s10 | exact hc.s11 | exact hc.s12 | exact hc.s13 | exact hc.s14 | exact hc.s15 | exact ⟨by omega,by omega⟩,fun W=>zwC c m l k hm W⟩
   ·exact ⟨_,_,by first | exact zag _ _ _ | exact zan _ _ | exact zaq | exact hk | exact hc.s0 | exact hc.s1 | exact hc.s2 | exact hc.s3 | exact hc.s5 | exact hc.s6 | exact hc.s7 | exact hc.s8 | exact hc.s9 | exact hc.s10 | exact hc.s11 | exact hc.s12 | exact hc.s13 | exact hc.s14 | exact hc.s15 | exact ⟨by omega,by omega⟩,fun W=>zql c m l k hm W⟩
   ·exact ⟨_,_,by first | exact zag _ _ _ | exact zan _ _ | exact zaq | exact hk | exact hc.s0 | exact hc.s1 | exact hc.s2 | exact hc.s3 | exact hc.s5 | exact hc.s6 | exact hc.s7 | exact hc.s8 | exact hc.s9 | exact hc.s10 | exact hc.s11 | exact hc.s12 | exact hc.s13 | exact hc.s14 | exact hc.s15 | exact ⟨by omega,by omega⟩,fun W=>zow c m l k hm W⟩
   ·exact ⟨_,_,by first | exact zag _ _ _ | exact zan _ _ | exact zaq | exact hk | exact hc.s0 | exact hc.s1 | exact hc.s2 | exact hc.s3 | exact hc.s5 | exact hc.s6 | exact hc.s7 | exact hc.s8 | exact hc.s9 | exact hc.s10 | exact hc.s11 | exact hc.s12 | exact hc.s13 | exact hc.s14 | exact hc.s15 | exact ⟨by omega,by omega⟩,fun W=>zsp c m l k hm W⟩
  ·exact ⟨0,false,zaq,fun W=>by
    refine zpV c m n l k hm ?_ ?_ ?_ ?_ ?_ ?_ ?_ ?_ ?_ ?_ ?_ ?_ ?_ ?_ ?_ ?_ ?_ ?_ ?_ ?_ ?_ ?_ ?_ ?_ ?_ ?_ ?_ ?_ ?_ W
    all_goals
     rw [beq_eq_false_iff_ne]
     intro e
     exact h (by rw [e];decide)⟩
 ·exact ⟨0,false,zaq,fun W=>zmR c m n l k hm W⟩
open Classical in
noncomputable def rdV (c:Reg) (m n l k:Int):Int × Bool:=if h:∃ r:Int,∃ ok:Bool,U64 r∧∀ W,TB 108 #[regV c,.int .i64 m,.int .i64 n,.int .u64 l,.int .u64 k] W (.tuple #[.int .u64 r,.bool ok]) then (Classical.choose h,Classical.choose (Classical.choose_spec h)) else (0,false)
theorem rd_u (c:Reg) (m n l k:Int):U64 (rdV c m n l k).1:=by
 unfold rdV
 split
 ·rename_i h
  exact (Classical.choose_spec (Classical.choose_spec h)).1
 ·exact zaq
theorem zf8 (c:Reg) (m n l k:Int) (hc:RU c) (hk:U64 k) (W:World):TB 108 #[regV c,.int .i64 m,.int .i64 n,.int .u64 l,.int .u64 k] W (.tuple #[.int .u64 (rdV c m n l k).1,.bool (rdV c m n l k).2]):=by
 have h:=zra c m n l k hc hk
 unfold rdV
 rw [dif_pos h]
 exact (Classical.choose_spec (Classical.choose_spec h)).2 W
theorem zwt (c:Reg) (m n x:Int) (hc:RU c) (hx:U64 x):∃ r:Reg,∃ ok:Bool,RU r∧∀ W,TB 110 #[regV c,.int .i64 m,.int .i64 n,.int .u64 x] W (.tuple #[regV r,.bool ok]):=by
 rcases Bool.eq_false_or_eq_true (decide (zay n≤m)) with hm | hm
 ·by_cases h:n∈([256,260,261,320,321,322,323,324,384,768,769,770,771,772,773,832,833,834,835,836,2816,2818]:List Int)
  ·simp only [List.mem_cons,List.not_mem_nil,or_false] at h
   rcases h with rfl | rfl | rfl | rfl | rfl | rfl | rfl | rfl | rfl | rfl | rfl | rfl | rfl | rfl | rfl | rfl | rfl | rfl | rfl | rfl | rfl | rfl
   ·exact ⟨⟨(mxV c.s0 x 786722),c.s1,c.s2,c.s3,c.s4,c.s5,c.s6,c.s7,c.s8,c.s9,c.s10,c.s11,c.s12,c.s13,c.s14,c.s15⟩,true,⟨(zhh _ _ _:U64 ((mxV c.s0 x 786722))),hc.s1,hc.s2,hc.s3,hc.s4,hc.s5,hc.s6,hc.s7,hc.s8,hc.s9,hc.s10,hc.s11,hc.s12,hc.s13,hc.s14,hc.s15⟩,fun W=>zrw c m x hm W⟩
   ·exact ⟨⟨c.s0,c.s1,c.s2,(mxV c.s3 x c.s2),c.s4,c.s5,c.s6,c.s7,c.s8,c.s9,c.s10,c.s11,c.s12,c.s13,c.s14,c.s15⟩,true,⟨hc.s0,hc.s1,hc.s2,(zhh _ _ _:U64 ((mxV c.s3 x c.s2))),hc.s4,hc.s5,hc.s6,hc.s7,hc.s8,hc.s9,hc.s10,hc.s11,hc.s12,hc.s13,hc.s14,hc.s15⟩,fun W=>zqd c m x hm W⟩
   ·exact ⟨⟨c.s0,c.s1,c.s2,c.s3,c.s4,c.s5,c.s6,c.s7,c.s8,c.s9,(bits .and .u64 x 18446744073709551613),c.s11,c.s12,c.s13,c.s14,c.s15⟩,true,⟨hc.s0,hc.s1,hc.s2,hc.s3,hc.s4,hc.s5,hc.s6,hc.s7,hc.s8,hc.s9,(zag _ _ _:U64 ((bits .and .u64 x 18446744073709551613))),hc.s11,hc.s12,hc.s13,hc.s14,hc.s15⟩,fun W=>ztZ c m x hm W⟩
   ·exact ⟨⟨c.s0,c.s1,c.s2,c.s3,c.s4,c.s5,c.s6,c.s7,c.s8,c.s9,c.s10,x,c.s12,c.s13,c.s14,c.s15⟩,true,⟨hc.s0,hc.s1,hc.s2,hc.s3,hc.s4,hc.s5,hc.s6,hc.s7,hc.s8,hc.s9,hc.s10,hx,hc.s12,hc.s13,hc.s14,hc.s15⟩,fun W=>zmq c m x hm W⟩
   ·exact ⟨⟨c.s0,c.s1,c.s2,c.s3,c.s4,c.s5,c.s6,c.s7,c.s8,c.s9,c.s10,c.s11,(bits .and .u64 x 18446744073709551614),c.s13,c.s14,c.s15⟩,true,⟨hc.s0,hc.s1,hc.s2,hc.s3,hc.s4,hc.s5,hc.s6,hc.s7,hc.s8,hc.s9,hc.s10,hc.s11,(zag _ _ _:U64 ((bits .and .u64 x 18446744073709551614))),hc.s13,hc.s14,hc.s15⟩,fun W=>zwi c m x hm W⟩
   ·exact ⟨⟨c.s0,c.s1,c.s2,c.s3,c.s4,c.s5,c.s6,c.s7,c.s8,c.s9,c.s10,c.s11,c.s12,x,c.s14,c.s15⟩,true,⟨hc.s0,hc.s1,hc.s2,hc.s3,hc.s4,hc.s5,hc.s6,hc.s7,hc.s8,hc.s9,hc.s10,hc.s11,hc.s12,hx,hc.s14,hc.s15⟩,fun W=>ztv c m x hm W⟩
   ·exact ⟨⟨c.s0,c.s1,c.s2,c.s3,c.s4,c.s5,c.s6,c.s7,c.s8,c.s9,c.s10,c.s11,c.s12,c.s13,x,c.s15⟩,true,⟨hc.s0,hc.s1,hc.s2,hc.s3,hc.s4,hc.s5,hc.s6,hc.s7,hc.s8,hc.s9,hc.s10,hc.s11,hc.s12,hc.s13,hx,hc.s15⟩,fun W=>zl6 c m x hm W⟩
   ·exact ⟨⟨c.s0,c.s1,c.s2,c.s3,(mxV c.s4 x (bits .and .u64 c.s2 2)),c.s5,c.s6,c.s7,c.s8,c.s9,c.s10,c.s11,c.s12,c.s13,c.s14,c.s15⟩,true,⟨hc.s0,hc.s1,hc.s2,hc.s3,(zhh _ _ _:U64 ((mxV c.s4 x (bits .and .u64 c.s2 2)))),hc.s5,hc.s6,hc.s7,hc.s8,hc.s9,hc.s10,hc.s11,hc.s12,hc.s13,hc.s14,hc.s15⟩,fun W=>zlV c m x hm W⟩
   ·exact ⟨⟨c.s0,c.s1,c.s2,c.s3,c.s4,c.s5,c.s6,c.s7,c.s8,c.s9,c.s10,c.s11,c.s12,c.s13,c.s14,(spV c.s15 x)⟩,true,⟨hc.s0,hc.s1,hc.s2,hc.s3,hc.s4,hc.s5,hc.s6,hc.s7,hc.s8,hc.s9,hc.s10,hc.s11,hc.s12,hc.s13,hc.s14,(ziv _ _ hc.s15:U64 ((spV c.s15 x)))⟩,fun W=>zrE c m x hm W⟩
   ·exact ⟨⟨(stV x),c.s1,c.s2,c.s3,c.s4,c.s5,c.s6,c.s7,c.s8,c.s9,c.s10,c.s11,c.s12,c.s13,c.s14,c.s15⟩,true,⟨(zhB _:U64 ((stV x))),hc.s1,hc.s2,hc.s3,hc.s4,hc.s5,hc.s6,hc.s7,hc.s8,hc.s9,hc.s10,hc.s11,hc.s12,hc.s13,hc.s14,hc.s15⟩,fun W=>zvr c m x hm W⟩
   ·exact ⟨⟨c.s0,c.s1,c.s2,c.s3,c.s4,c.s5,c.s6,c.s7,c.s8,c.s9,c.s10,c.s11,c.s12,c.s13,c.s14,c.s15⟩,true,⟨hc.s0,hc.s1,hc.s2,hc.s3,hc.s4,hc.s5,hc.s6,hc.s7,hc.s8,hc.s9,hc.s10,hc.s11,hc.s12,hc.s13,hc.s14,hc.s15⟩,fun W=>zyj c m x hm W⟩
   ·exact ⟨⟨c.s0,(bits .and .u64 x 46079),c.s2,c.s3,c.s4,c.s5,c.s6,c.s7,c.s8,c.s9,c.s10,c.s11,c.s12,c.s13,c.s14,c.s15⟩,true,⟨hc.s0,(zag _ _ _:U64 ((bits .and .u64 x 46079))),hc.s2,hc.s3,hc.s4,hc.s5,hc.s6,hc.s7,hc.s8,hc.s9,hc.s10,hc.s11,hc.s12,hc.s13,hc.s14,hc.s15⟩,fun W=>zsS c m x hm W⟩
   ·exact ⟨⟨c.s0,c.s1,(bits .and .u64 x 546),c.s3,c.s4,c.s5,c.s6,c.s7,c.s8,c.s9,c.s10,c.s11,c.s12,c.s13,c.s14,c.s15⟩,true,⟨hc.s0,hc.s1,(zag _ _ _:U64 ((bits .and .u64 x 546))),hc.s3,hc.s4,hc.s5,hc.s6,hc.s7,hc.s8,hc.s9,hc.s10,hc.s11,hc.s12,hc.s13,hc.s14,hc.s15⟩,fun W=>zvT c m x hm W⟩
   ·exact ⟨⟨c.s0,c.s1,c.s2,(bits .and .u64 x 2730),c.s4,c.s5,c.s6,c.s7,c.s8,c.s9,c.s10,c.s11,c.s12,c.s13,c.s14,c.s15⟩,true,⟨hc.s0,hc.s1,hc.s2,(zag _ _ _:U64 ((bits .and .u64 x 2730))),hc.s4,hc.s5,hc.s6,hc.s7,hc.s8,hc.s9,hc.s10,hc.s11,hc.s12,hc.s13,hc.s14,hc.s15⟩,fun W=>zqv c m x hm W⟩
   ·exact ⟨⟨c.s0,c.s1,c.s2,c.s3,c.s4,(bits .and .u64 x 18446744073709551613),c.s6,c.s7,c.s8,c.s9,c.s10,c.s11,c.s12,c.s13,c.s14,c.s15⟩,true,⟨hc.s0,hc.s1,hc.s2,hc.s3,hc.s4,(zag _ _ _:U64 ((bits .and .u64 x 18446744073709551613))),hc.s6,hc.s7,hc.s8,hc.s9,hc.s10,hc.s11,hc.s12,hc.s13,hc.s14,hc.s15⟩,fun W=>zuz c m x hm W⟩
   ·exact ⟨⟨c.s0,c.s1,c.s2,c.s3,c.s4,c.s5,x,c.s7,c.s8,c.s9,c.s10,c.s11,c.s12,c.s13,c.s14,c.s15⟩,true,⟨hc.s0,hc.s1,hc.s2,hc.s3,hc.s4,hc.s5,hx,hc.s7,hc.s8,hc.s9,hc.s10,hc.s11,hc.s12,hc.s13,hc.s14,hc.s15⟩,fun W=>zu6 c m x hm W⟩
   ·exact ⟨⟨c.s0,c.s1,c.s2,c.s3,c.s4,c.s5,c.s6,(bits .and .u64 x 18446744073709551614),c.s8,c.s9,c.s10,c.s11,c.s12,c.s13,c.s14,c.s15⟩,true,⟨hc.s0,hc.s1,hc.s2,hc.s3,hc.s4,hc.s5,hc.s6,(zag _ _ _:U64 ((bits .and .u64 x 18446744073709551614))),hc.s8,hc.s9,hc.s10,hc.s11,hc.s12,hc.s13,hc.s14,hc.s15⟩,fun W=>zk9 c m x hm W⟩
   ·exact ⟨⟨c.s0,c.s1,c.s2,c.s3,c.s4,c.s5,c.s6,c.s7,x,c.s9,c.s10,c.s11,c.s12,c.s13,c.s14,c.s15⟩,true,⟨hc.s0,hc.s1,hc.s2,hc.s3,hc.s4,hc.s5,hc.s6,hc.s7,hx,hc.s9,hc.s10,hc.s11,hc.s12,hc.s13,hc.s14,hc.s15⟩,fun W=>zrn c m x hm W⟩
   ·exact ⟨⟨c.s0,c.s1,c.s2,c.s3,c.s4,c.s5,c.s6,c.s7,c.s8,x,c.s10,c.s11,c.s12,c.s13,c.s14,c.s15⟩,true,⟨hc.s0,hc.s1,hc.s2,hc.s3,hc.s4,hc.s5,hc.s6,hc.s7,hc.s8,hx,hc.s10,hc.s11,hc.s12,hc.s13,hc.s14,hc.s15⟩,fun W=>zvj c m x hm W⟩
   ·exact ⟨⟨c.s0,c.s1,c.s2,c.s3,(bits .and .u64 x 546),c.s5,c.s6,c.s7,c.s8,c.s9,c.s10,c.s11,c.s12,c.s13,c.s14,c.s15⟩,true,⟨hc.s0,hc.s1,hc.s2,hc.s3,(zag _ _ _:U64 ((bits .and .u64 x 546))),hc.s5,hc.s6,hc.s7,hc.s8,hc.s9,hc.s10,hc.s11,hc.s12,hc.s13,hc.s14,hc.s15⟩,fun W=>zxX c m x hm W⟩
   ·exact ⟨⟨c.s0,c.s1,c.s2,c.s3,c.s4,c.s5,c.s6,c.s7,c.s8,c.s9,c.s10,c.s11,c.s12,c.s13,c.s14,c.s15⟩,true,⟨hc.s0,hc.s1,hc.s2,hc.s3,hc.s4,hc.s5,hc.s6,hc.s7,hc.s8,hc.s9,hc.s10,hc.s11,hc.s12,hc.s13,hc.s14,hc.s15⟩,fun W=>zxT c m x hm W⟩
   ·exact ⟨⟨c.s0,c.s1,c.s2,c.s3,c.s4,c.s5,c.s6,c.s7,c.s8,c.s9,c.s10,c.s11,c.s12,c.s13,c.s14,c.s15⟩,true,⟨hc.s0,hc.s1,hc.s2,hc.s3,hc.s4,hc.s5,hc.s6,hc.s7,hc.s8,hc.s9,hc.s10,hc.s11,hc.s12,hc.s13,hc.s14,hc.s15⟩,fun W=>zlL c m x hm W⟩
  ·rcases Bool.eq_false_or_eq_true (zgo n != 3) with ho | ho
   ·refine ⟨c,false,hc,fun W=>?_⟩
    refine zrf c m n x hm ho ?_ ?_ ?_ ?_ ?_ ?_ ?_ ?_ ?_ ?_ ?_ ?_ ?_ ?_ ?_ ?_ ?_ ?_ ?_ ?_ ?_ ?_ W
    all_goals
     rw [beq_eq_false_iff_ne]
     intro e
     exact h (by rw [e];decide)
   ·exact ⟨c,false,hc,fun W=>ztT c m n x hm ho W⟩
 ·exact ⟨c,false,hc,fun W=>zp2 c m n x hm W⟩
open Classical in
noncomputable def wtV (c:Reg) (m n x:Int):Reg × Bool:=if h:∃ r:Reg,∃ ok:Bool,RU r∧∀ W,TB 110 #[regV c,.int .i64 m,.int .i64 n,.int .u64 x] W (.tuple #[regV r,.bool ok]) then (Classical.choose h,Classical.choose (Classical.choose_spec h)) else (c,false)
theorem wt_u (c:Reg) (m n x:Int) (hc:RU c):RU (wtV c m n x).1:=by
 unfold wtV
 split
 ·rename_i h
  exact (Classical.choose_spec (Classical.choose_spec h)).1
 ·exact hc
theorem ziN (c:Reg) (m n x:Int) (hc:RU c) (hx:U64 x) (W:World):TB 110 #[regV c,.int .i64 m,.int .i64 n,.int .u64 x] W (.tuple #[regV (wtV c m n x).1,.bool (wtV c m n x).2]):=by
 have h:=zwt c m n x hc hx
 unfold wtV
 rw [dif_pos h]
 exact (Classical.choose_spec (Classical.choose_spec h)).2 W
end Go.Proofs.YtplcfdnfeclpmaaGreatDoor.Cs
