/- HartQuiet,part 38. -/
import Derived.Test.YtmjjpgaeboaamaaGreatDoorY16
import Derived.Test.YtmjjpgaeboaamaaGreatDoorY17
set_option maxHeartbeats 4000000
set_option maxRecDepth 100000
open Go.Lib (hid)
namespace Go.Proofs.YtmjjpgaeboaamaaGreatDoor.Cs
open Go.RowKit Go.Deep Go.Joins
set_option maxRecDepth 100000
theorem nigh {n:Nat} {a b:World} (h:Below n a b:=by repeat (first | with_reducible exact Below.refl _ _ | with_reducible refine Below.drew ?_ | with_reducible refine Below.alloc ?_ (by first | exact Nat.le_refl _ | simp | (simp;omega)) _ | with_reducible refine Below.setCell ?_ (by first | exact Nat.le_refl _ | simp | (simp;omega)) _)):Below n a b:=h
theorem zrT (c:Reg) (m n l k:Int) (hm:decide (zaz n≤m)=false) (W:World):TB 151 #[regV c,.int .i64 m,.int .i64 n,.int .u64 l,.int .u64 k] W (.tuple #[.int .u64 0,.bool false]):=by
 go_enter Tryz.func151,Tryz.ntmps151
 go_wp2_with (first | (go_at_call 221;(with_reducible refine (za4 m n false hm _).mono ?_);rintro e w' ⟨rfl,rfl⟩) | fail)
 go_ret2
 exact ⟨rfl,by repeat (first | with_reducible exact Below.refl _ _ | with_reducible refine Below.drew ?_ | with_reducible refine Below.alloc ?_ (by first | exact Nat.le_refl _ | simp | (simp;omega)) _ | with_reducible refine Below.setCell ?_ (by first | exact Nat.le_refl _ | simp | (simp;omega)) _)⟩
theorem zxv (c:Reg) (m n l k:Int) (hm:decide (zaz n≤m)=true) (h100:(n==256)=false) (h104:(n==260)=false) (h105:(n==261)=false) (h140:(n==320)=false) (h141:(n==321)=false) (h142:(n==322)=false) (h143:(n==323)=false) (h144:(n==324)=false) (h180:(n==384)=false) (h300:(n==768)=false) (h301:(n==769)=false) (h302:(n==770)=false) (h303:(n==771)=false) (h304:(n==772)=false) (h305:(n==773)=false) (h340:(n==832)=false) (h341:(n==833)=false) (h342:(n==834)=false) (h343:(n==835)=false) (h344:(n==836)=false) (hb00:(n==2816)=false) (hb02:(n==2818)=false) (hc00:(n==3072)=false) (hc01:(n==3073)=false) (hc02:(n==3074)=false) (hf11:(n==3857)=false) (hf12:(n==3858)=false) (hf13:(n==3859)=false) (hf14:(n==3860)=false) (W:World):TB 151 #[regV c,.int .i64 m,.int .i64 n,.int .u64 l,.int .u64 k] W (.tuple #[.int .u64 0,.bool false]):=by
 go_enter Tryz.func151,Tryz.ntmps151
 go_wp2_with (first | ((first | (go_at_call 221;with_reducible refine (za4 m n true hm _).mono ?_) | (go_at_call 222;with_reducible refine (zcp _ n h300 h302 h303 h304 h305 h340 h341 h342 h343 h105 h140 h141 h142 h143 h180 _).mono ?_));rintro e w' ⟨rfl,rfl⟩) | fail)
 go_ret2
 exact ⟨rfl,by repeat (first | with_reducible exact Below.refl _ _ | with_reducible refine Below.drew ?_ | with_reducible refine Below.alloc ?_ (by first | exact Nat.le_refl _ | simp | (simp;omega)) _ | with_reducible refine Below.setCell ?_ (by first | exact Nat.le_refl _ | simp | (simp;omega)) _)⟩
theorem zlX (c:Reg) (m l k:Int) (hm:decide (zaz 256≤m)=true) (W:World):TB 151 #[regV c,.int .i64 m,.int .i64 256,.int .u64 l,.int .u64 k] W (.tuple #[.int .u64 (bits .and .u64 c.s0 786722),.bool true]):=by
 go_enter Tryz.func151,Tryz.ntmps151
 go_wp2_with (first | ((first | (go_at_call 221;with_reducible refine (za4 m 256 true hm _).mono ?_) | (go_at_call 222;with_reducible refine (zh2 _ _).mono ?_));rintro e w' ⟨rfl,rfl⟩) | fail)
 all_goals go_ret2
 all_goals exact ⟨rfl,nigh⟩
theorem zrP (c:Reg) (m l k:Int) (hm:decide (zaz 260≤m)=true) (W:World):TB 151 #[regV c,.int .i64 m,.int .i64 260,.int .u64 l,.int .u64 k] W (.tuple #[.int .u64 (bits .and .u64 c.s3 c.s2),.bool true]):=by
 go_enter Tryz.func151,Tryz.ntmps151
 go_wp2_with (first | ((first | (go_at_call 221;with_reducible refine (za4 m 260 true hm _).mono ?_) | (go_at_call 222;with_reducible refine (ziv _ _).mono ?_));rintro e w' ⟨rfl,rfl⟩) | fail)
 all_goals go_ret2
 all_goals exact ⟨rfl,nigh⟩
theorem zqk (c:Reg) (m l k:Int) (hm:decide (zaz 261≤m)=true) (W:World):TB 151 #[regV c,.int .i64 m,.int .i64 261,.int .u64 l,.int .u64 k] W (.tuple #[.int .u64 c.s10,.bool true]):=by
 go_enter Tryz.func151,Tryz.ntmps151
 go_wp2_with (first | ((first | (go_at_call 221;with_reducible refine (za4 m 261 true hm _).mono ?_) | (go_at_call 222;with_reducible refine (zjU _ _).mono ?_));rintro e w' ⟨rfl,rfl⟩) | fail)
 all_goals go_ret2
 all_goals exact ⟨rfl,nigh⟩
theorem zpG (c:Reg) (m l k:Int) (hm:decide (zaz 320≤m)=true) (W:World):TB 151 #[regV c,.int .i64 m,.int .i64 320,.int .u64 l,.int .u64 k] W (.tuple #[.int .u64 c.s11,.bool true]):=by
 go_enter Tryz.func151,Tryz.ntmps151
 go_wp2_with (first | ((first | (go_at_call 221;with_reducible refine (za4 m 320 true hm _).mono ?_) | (go_at_call 222;with_reducible refine (zjk _ _).mono ?_));rintro e w' ⟨rfl,rfl⟩) | fail)
 all_goals go_ret2
 all_goals exact ⟨rfl,nigh⟩
theorem zn1 (c:Reg) (m l k:Int) (hm:decide (zaz 321≤m)=true) (W:World):TB 151 #[regV c,.int .i64 m,.int .i64 321,.int .u64 l,.int .u64 k] W (.tuple #[.int .u64 c.s12,.bool true]):=by
 go_enter Tryz.func151,Tryz.ntmps151
 go_wp2_with (first | ((first | (go_at_call 221;with_reducible refine (za4 m 321 true hm _).mono ?_) | (go_at_call 222;with_reducible refine (zib _ _).mono ?_));rintro e w' ⟨rfl,rfl⟩) | fail)
 all_goals go_ret2
 all_goals exact ⟨rfl,nigh⟩
theorem zux (c:Reg) (m l k:Int) (hm:decide (zaz 322≤m)=true) (W:World):TB 151 #[regV c,.int .i64 m,.int .i64 322,.int .u64 l,.int .u64 k] W (.tuple #[.int .u64 c.s13,.bool true]):=by
 go_enter Tryz.func151,Tryz.ntmps151
 go_wp2_with (first | ((first | (go_at_call 221;with_reducible refine (za4 m 322 true hm _).mono ?_) | (go_at_call 222;with_reducible refine (zhr _ _).mono ?_));rintro e w' ⟨rfl,rfl⟩) | fail)
 all_goals go_ret2
 all_goals exact ⟨rfl,nigh⟩
theorem zkc (c:Reg) (m l k:Int) (hm:decide (zaz 323≤m)=true) (W:World):TB 151 #[regV c,.int .i64 m,.int .i64 323,.int .u64 l,.int .u64 k] W (.tuple #[.int .u64 c.s14,.bool true]):=by
 go_enter Tryz.func151,Tryz.ntmps151
 go_wp2_with (first | ((first | (go_at_call 221;with_reducible refine (za4 m 323 true hm _).mono ?_) | (go_at_call 222;with_reducible refine (zjq _ _).mono ?_));rintro e w' ⟨rfl,rfl⟩) | fail)
 all_goals go_ret2
 all_goals exact ⟨rfl,nigh⟩
theorem zqQ (c:Reg) (m l k:Int) (hm:decide (zaz 324≤m)=true) (W:World):TB 151 #[regV c,.int .i64 m,.int .i64 324,.int .u64 l,.int .u64 k] W (.tuple #[.int .u64 (bits .and .u64 (rsV c.s4 l) c.s2),.bool true]):=by
 go_enter Tryz.func151,Tryz.ntmps151
 go_wp2_with (first | ((first | (go_at_call 221;with_reducible refine (za4 m 324 true hm _).mono ?_) | (go_at_call 222;with_reducible refine (zie _ _).mono ?_));rintro e w' ⟨rfl,rfl⟩) | fail)
 go_region_with (first | (go_at_call 223;(with_reducible refine (zjm c l _).mono ?_);rintro e w' ⟨rfl,rfl⟩) | fail)
 all_goals go_wp2
 all_goals go_ret2
 all_goals exact ⟨rfl,nigh⟩
theorem zkV (c:Reg) (m l k:Int) (hm:decide (zaz 384≤m)=true) (W:World):TB 151 #[regV c,.int .i64 m,.int .i64 384,.int .u64 l,.int .u64 k] W (.tuple #[.int .u64 c.s15,.bool true]):=by
 go_enter Tryz.func151,Tryz.ntmps151
 go_wp2_with (first | ((first | (go_at_call 221;with_reducible refine (za4 m 384 true hm _).mono ?_) | (go_at_call 222;with_reducible refine (zii _ _).mono ?_));rintro e w' ⟨rfl,rfl⟩) | fail)
 all_goals go_ret2
 all_goals exact ⟨rfl,nigh⟩
theorem zwe (c:Reg) (m l k:Int) (hm:decide (zaz 768≤m)=true) (W:World):TB 151 #[regV c,.int .i64 m,.int .i64 768,.int .u64 l,.int .u64 k] W (.tuple #[.int .u64 c.s0,.bool true]):=by
 go_enter Tryz.func151,Tryz.ntmps151
 go_wp2_with (first | ((first | (go_at_call 221;with_reducible refine (za4 m 768 true hm _).mono ?_) | (go_at_call 222;with_reducible refine (zhw _ _).mono ?_));rintro e w' ⟨rfl,rfl⟩) | fail)
 all_goals go_ret2
 all_goals exact ⟨rfl,nigh⟩
theorem zxg (c:Reg) (m l k:Int) (hm:decide (zaz 769≤m)=true) (W:World):TB 151 #[regV c,.int .i64 m,.int .i64 769,.int .u64 l,.int .u64 k] W (.tuple #[.int .u64 9223372036856090885,.bool true]):=by
 go_enter Tryz.func151,Tryz.ntmps151
 go_wp2_with (first | ((first | (go_at_call 221;with_reducible refine (za4 m 769 true hm _).mono ?_) | (go_at_call 222;with_reducible refine (zjY _ _).mono ?_));rintro e w' ⟨rfl,rfl⟩) | fail)
 all_goals go_ret2
 all_goals exact ⟨rfl,nigh⟩
theorem znb (c:Reg) (m l k:Int) (hm:decide (zaz 770≤m)=true) (W:World):TB 151 #[regV c,.int .i64 m,.int .i64 770,.int .u64 l,.int .u64 k] W (.tuple #[.int .u64 c.s1,.bool true]):=by
 go_enter Tryz.func151,Tryz.ntmps151
 go_wp2_with (first | ((first | (go_at_call 221;with_reducible refine (za4 m 770 true hm _).mono ?_) | (go_at_call 222;with_reducible refine (zjl _ _).mono ?_));rintro e w' ⟨rfl,rfl⟩) | fail)
 all_goals go_ret2
 all_goals exact ⟨rfl,nigh⟩
theorem zoj (c:Reg) (m l k:Int) (hm:decide (zaz 771≤m)=true) (W:World):TB 151 #[regV c,.int .i64 m,.int .i64 771,.int .u64 l,.int .u64 k] W (.tuple #[.int .u64 c.s2,.bool true]):=by
 go_enter Tryz.func151,Tryz.ntmps151
 go_wp2_with (first | ((first | (go_at_call 221;with_reducible refine (za4 m 771 true hm _).mono ?_) | (go_at_call 222;with_reducible refine (zic _ _).mono ?_));rintro e w' ⟨rfl,rfl⟩) | fail)
 all_goals go_ret2
 all_goals exact ⟨rfl,nigh⟩
theorem zuY (c:Reg) (m l k:Int) (hm:decide (zaz 772≤m)=true) (W:World):TB 151 #[regV c,.int .i64 m,.int .i64 772,.int .u64 l,.int .u64 k] W (.tuple #[.int .u64 c.s3,.bool true]):=by
 go_enter Tryz.func151,Tryz.ntmps151
 go_wp2_with (first | ((first | (go_at_call 221;with_reducible refine (za4 m 772 true hm _).mono ?_) | (go_at_call 222;with_reducible refine (zhl _ _).mono ?_));rintro e w' ⟨rfl,rfl⟩) | fail)
 all_goals go_ret2
 all_goals exact ⟨rfl,nigh⟩
theorem zwT (c:Reg) (m l k:Int) (hm:decide (zaz 773≤m)=true) (W:World):TB 151 #[regV c,.int .i64 m,.int .i64 773,.int .u64 l,.int .u64 k] W (.tuple #[.int .u64 c.s5,.bool true]):=by
 go_enter Tryz.func151,Tryz.ntmps151
 go_wp2_with (first | ((first | (go_at_call 221;with_reducible refine (za4 m 773 true hm _).mono ?_) | (go_at_call 222;with_reducible refine (zij _ _).mono ?_));rintro e w' ⟨rfl,rfl⟩) | fail)
 all_goals go_ret2
 all_goals exact ⟨rfl,nigh⟩
theorem zoZ (c:Reg) (m l k:Int) (hm:decide (zaz 832≤m)=true) (W:World):TB 151 #[regV c,.int .i64 m,.int .i64 832,.int .u64 l,.int .u64 k] W (.tuple #[.int .u64 c.s6,.bool true]):=by
 go_enter Tryz.func151,Tryz.ntmps151
 go_wp2_with (first | ((first | (go_at_call 221;with_reducible refine (za4 m 832 true hm _).mono ?_) | (go_at_call 222;with_reducible refine (zjd _ _).mono ?_));rintro e w' ⟨rfl,rfl⟩) | fail)
 all_goals go_ret2
 all_goals exact ⟨rfl,nigh⟩
theorem zuw (c:Reg) (m l k:Int) (hm:decide (zaz 833≤m)=true) (W:World):TB 151 #[regV c,.int .i64 m,.int .i64 833,.int .u64 l,.int .u64 k] W (.tuple #[.int .u64 c.s7,.bool true]):=by
 go_enter Tryz.func151,Tryz.ntmps151
 go_wp2_with (first | ((first | (go_at_call 221;with_reducible refine (za4 m 833 true hm _).mono ?_) | (go_at_call 222;with_reducible refine (zhu _ _).mono ?_));rintro e w' ⟨rfl,rfl⟩) | fail)
 all_goals go_ret2
 all_goals exact ⟨rfl,nigh⟩
theorem zkw (c:Reg) (m l k:Int) (hm:decide (zaz 834≤m)=true) (W:World):TB 151 #[regV c,.int .i64 m,.int .i64 834,.int .u64 l,.int .u64 k] W (.tuple #[.int .u64 c.s8,.bool true]):=by
 go_enter Tryz.func151,Tryz.ntmps151
 go_wp2_with (first | ((first | (go_at_call 221;with_reducible refine (za4 m 834 true hm _).mono ?_) | (go_at_call 222;with_reducible refine (zi6 _ _).mono ?_));rintro e w' ⟨rfl,rfl⟩) | fail)
 all_goals go_ret2
 all_goals exact ⟨rfl,nigh⟩
theorem zwD (c:Reg) (m l k:Int) (hm:decide (zaz 835≤m)=true) (W:World):TB 151 #[regV c,.int .i64 m,.int .i64 835,.int .u64 l,.int .u64 k] W (.tuple #[.int .u64 c.s9,.bool true]):=by
 go_enter Tryz.func151,Tryz.ntmps151
 go_wp2_with (first | ((first | (go_at_call 221;with_reducible refine (za4 m 835 true hm _).mono ?_) | (go_at_call 222;with_reducible refine (zjP _ _).mono ?_));rintro e w' ⟨rfl,rfl⟩) | fail)
 all_goals go_ret2
 all_goals exact ⟨rfl,nigh⟩
theorem zkO (c:Reg) (m l k:Int) (hm:decide (zaz 836≤m)=true) (W:World):TB 151 #[regV c,.int .i64 m,.int .i64 836,.int .u64 l,.int .u64 k] W (.tuple #[.int .u64 (rsV c.s4 l),.bool true]):=by
 go_enter Tryz.func151,Tryz.ntmps151
 go_wp2_with (first | ((first | (go_at_call 221;with_reducible refine (za4 m 836 true hm _).mono ?_) | (go_at_call 222;with_reducible refine (ziP _ _).mono ?_) | (go_at_call 223;with_reducible refine (zjm c l _).mono ?_));rintro e w' ⟨rfl,rfl⟩) | fail)
 all_goals go_ret2
 all_goals exact ⟨rfl,nigh⟩
theorem zkS (c:Reg) (m l k:Int) (hm:decide (zaz 2816≤m)=true) (W:World):TB 151 #[regV c,.int .i64 m,.int .i64 2816,.int .u64 l,.int .u64 k] W (.tuple #[.int .u64 k,.bool true]):=by
 go_enter Tryz.func151,Tryz.ntmps151
 go_wp2_with (first | ((first | (go_at_call 221;with_reducible refine (za4 m 2816 true hm _).mono ?_) | (go_at_call 222;with_reducible refine (zjc _ _).mono ?_));rintro e w' ⟨rfl,rfl⟩) | fail)
 all_goals go_ret2
 all_goals exact ⟨rfl,nigh⟩
theorem zug (c:Reg) (m l k:Int) (hm:decide (zaz 2818≤m)=true) (W:World):TB 151 #[regV c,.int .i64 m,.int .i64 2818,.int .u64 l,.int .u64 k] W (.tuple #[.int .u64 k,.bool true]):=by
 go_enter Tryz.func151,Tryz.ntmps151
 go_wp2_with (first | ((first | (go_at_call 221;with_reducible refine (za4 m 2818 true hm _).mono ?_) | (go_at_call 222;with_reducible refine (zjX _ _).mono ?_));rintro e w' ⟨rfl,rfl⟩) | fail)
 all_goals go_ret2
 all_goals exact ⟨rfl,nigh⟩
theorem zts (c:Reg) (m l k:Int) (hm:decide (zaz 3072≤m)=true) (W:World):TB 151 #[regV c,.int .i64 m,.int .i64 3072,.int .u64 l,.int .u64 k] W (.tuple #[.int .u64 k,.bool true]):=by
 go_enter Tryz.func151,Tryz.ntmps151
 go_wp2_with (first | ((first | (go_at_call 221;with_reducible refine (za4 m 3072 true hm _).mono ?_) | (go_at_call 222;with_reducible refine (zwZ _ _).mono ?_));rintro e w' ⟨rfl,rfl⟩) | fail)
 all_goals go_ret2
 all_goals exact ⟨rfl,nigh⟩
theorem zwI (c:Reg) (m l k:Int) (hm:decide (zaz 3073≤m)=true) (W:World):TB 151 #[regV c,.int .i64 m,.int .i64 3073,.int .u64 l,.int .u64 k] W (.tuple #[.int .u64 k,.bool true]):=by
 go_enter Tryz.func151,Tryz.ntmps151
 go_wp2_with (first | ((first | (go_at_call 221;with_reducible refine (za4 m 3073 true hm _).mono ?_) | (go_at_call 222;with_reducible refine (zmp _ _).mono ?_));rintro e w' ⟨rfl,rfl⟩) | fail)
 all_goals go_ret2
 all_goals exact ⟨rfl,nigh⟩
theorem zws (c:Reg) (m l k:Int) (hm:decide (zaz 3074≤m)=true) (W:World):TB 151 #[regV c,.int .i64 m,.int .i64 3074,.int .u64 l,.int .u64 k] W (.tuple #[.int .u64 k,.bool true]):=by
 go_enter Tryz.func151,Tryz.ntmps151
 go_wp2_with (first | ((first | (go_at_call 221;with_reducible refine (za4 m 3074 true hm _).mono ?_) | (go_at_call 222;with_reducible refine (zoY _ _).mono ?_));rintro e w' ⟨rfl,rfl⟩) | fail)
 all_goals go_ret2
 all_goals exact ⟨rfl,nigh⟩
theorem zlh (c:Reg) (m l k:Int) (hm:decide (zaz 3857≤m)=true) (W:World):TB 151 #[regV c,.int .i64 m,.int .i64 3857,.int .u64 l,.int .u64 k] W (.tuple #[.int .u64 0,.bool true]):=by
 go_enter Tryz.func151,Tryz.ntmps151
 go_wp2_with (first | ((first | (go_at_call 221;with_reducible refine (za4 m 3857 true hm _).mono ?_) | (go_at_call 222;with_reducible refine (zvi _ _).mono ?_));rintro e w' ⟨rfl,rfl⟩) | fail)
 all_goals go_ret2
 all_goals exact ⟨rfl,nigh⟩
theorem zpU (c:Reg) (m l k:Int) (hm:decide (zaz 3858≤m)=true) (W:World):TB 151 #[regV c,.int .i64 m,.int .i64 3858,.int .u64 l,.int .u64 k] W (.tuple #[.int .u64 0,.bool true]):=by
 go_enter Tryz.func151,Tryz.ntmps151
 go_wp2_with (first | ((first | (go_at_call 221;with_reducible refine (za4 m 3858 true hm _).mono ?_) | (go_at_call 222;with_reducible refine (zvX _ _).mono ?_));rintro e w' ⟨rfl,rfl⟩) | fail)
 all_goals go_ret2
 all_goals exact ⟨rfl,nigh⟩
theorem zol (c:Reg) (m l k:Int) (hm:decide (zaz 3859≤m)=true) (W:World):TB 151 #[regV c,.int .i64 m,.int .i64 3859,.int .u64 l,.int .u64 k] W (.tuple #[.int .u64 0,.bool true]):=by
 go_enter Tryz.func151,Tryz.ntmps151
 go_wp2_with (first | ((first | (go_at_call 221;with_reducible refine (za4 m 3859 true hm _).mono ?_) | (go_at_call 222;with_reducible refine (zuH _ _).mono ?_));rintro e w' ⟨rfl,rfl⟩) | fail)
 all_goals go_ret2
 all_goals exact ⟨rfl,nigh⟩
theorem zo3 (c:Reg) (m l k:Int) (hm:decide (zaz 3860≤m)=true) (W:World):TB 151 #[regV c,.int .i64 m,.int .i64 3860,.int .u64 l,.int .u64 k] W (.tuple #[.int .u64 0,.bool true]):=by
 go_enter Tryz.func151,Tryz.ntmps151
 go_wp2_with (first | ((first | (go_at_call 221;with_reducible refine (za4 m 3860 true hm _).mono ?_) | (go_at_call 222;with_reducible refine (zwr _ _).mono ?_));rintro e w' ⟨rfl,rfl⟩) | fail)
 all_goals go_ret2
 all_goals exact ⟨rfl,nigh⟩
end Go.Proofs.YtmjjpgaeboaamaaGreatDoor.Cs
namespace Go.Proofs.YtmjjpgaeboaamaaGreatDoor.Cs
open Go.RowKit Go.Deep Go.Joins
set_option maxRecDepth 100000
def U64 (x:Int):Prop:=0≤x∧x<18446744073709551616
structure RU (c:Reg):Prop where
 s0:U64 c.s0
 s1:U64 c.s1
 s2:U64 c.s2
 s3:U64 c.s3
 s4:U64 c.s4
 s5:U64 c.s5
 s6:U64 c.s6
 s7:U64 c.s7
 s8:U64 c.s8
 s9:U64 c.s9
 s10:U64 c.s10
 s11:U64 c.s11
 s12:U64 c.s12
 s13:U64 c.s13
 s14:U64 c.s14
 s15:U64 c.s15
theorem zag (op:BinOp) (a b:Int):U64 (bits op .u64 a b):=⟨bits_lo_u64 op a b,by have:=bits_hi_u64 op a b;omega⟩
theorem zap:U64 0:=⟨by omega,by omega⟩
theorem zhT (v:Int):U64 (stV v):=by unfold stV;split <;> exact zag _ _ _
theorem zhv (w v:Int) (h:U64 w):U64 (spV w v):=by
 unfold spV
 split
 ·exact zag _ _ _
 ·exact h
theorem zgL (n v b:Int):U64 (mxV n v b):=zag _ _ _
theorem zao (p l:Int):U64 (rsV p l):=zag _ _ _
theorem ztG (c:Reg) (m n l k:Int) (hc:RU c) (hk:U64 k):∃ r:Int,∃ ok:Bool,U64 r∧∀ W,TB 151 #[regV c,.int .i64 m,.int .i64 n,.int .u64 l,.int .u64 k] W (.tuple #[.int .u64 r,.bool ok]):=by
 rcases Bool.eq_false_or_eq_true (decide (zaz n≤m)) with hm | hm
 ·by_cases h:n∈([256,260,261,320,321,322,323,324,384,768,769,770,771,772,773,832,833,834,835,836,2816,2818,3072,3073,3074,3857,3858,3859,3860]:List Int)
  ·simp only [List.mem_cons,List.not_mem_nil,or_false] at h
   rcases h with rfl | rfl | rfl | rfl | rfl | rfl | rfl | rfl | rfl | rfl | rfl | rfl | rfl | rfl | rfl | rfl | rfl | rfl | rfl | rfl | rfl | rfl | rfl | rfl | rfl | rfl | rfl | rfl | rfl
   ·exact ⟨_,_,by first | exact zag _ _ _ | exact zao _ _ | exact zap | exact hk | exact hc.s0 | exact hc.s1 | exact hc.s2 | exact hc.s3 | exact hc.s5 | exact hc.s6 | exact hc.s7 | exact hc.s8 | exact hc.s9 | exact hc.s10 | exact hc.s11 | exact hc.s12 | exact hc.s13 | exact hc.s14 | exact hc.s15 | exact ⟨by omega,by omega⟩,fun W=>zlX c m l k hm W⟩
   ·exact ⟨_,_,by first | exact zag _ _ _ | exact zao _ _ | exact zap | exact hk | exact hc.s0 | exact hc.s1 | exact hc.s2 | exact hc.s3 | exact hc.s5 | exact hc.s6 | exact hc.s7 | exact hc.s8 | exact hc.s9 | exact hc.s10 | exact hc.s11 | exact hc.s12 | exact hc.s13 | exact hc.s14 | exact hc.s15 | exact ⟨by omega,by omega⟩,fun W=>zrP c m l k hm W⟩
   ·exact ⟨_,_,by first | exact zag _ _ _ | exact zao _ _ | exact zap | exact hk | exact hc.s0 | exact hc.s1 | exact hc.s2 | exact hc.s3 | exact hc.s5 | exact hc.s6 | exact hc.s7 | exact hc.s8 | exact hc.s9 | exact hc.s10 | exact hc.s11 | exact hc.s12 | exact hc.s13 | exact hc.s14 | exact hc.s15 | exact ⟨by omega,by omega⟩,fun W=>zqk c m l k hm W⟩
   ·exact ⟨_,_,by first | exact zag _ _ _ | exact zao _ _ | exact zap | exact hk | exact hc.s0 | exact hc.s1 | exact hc.s2 | exact hc.s3 | exact hc.s5 | exact hc.s6 | exact hc.s7 | exact hc.s8 | exact hc.s9 | exact hc.s10 | exact hc.s11 | exact hc.s12 | exact hc.s13 | exact hc.s14 | exact hc.s15 | exact ⟨by omega,by omega⟩,fun W=>zpG c m l k hm W⟩
   ·exact ⟨_,_,by first | exact zag _ _ _ | exact zao _ _ | exact zap | exact hk | exact hc.s0 | exact hc.s1 | exact hc.s2 | exact hc.s3 | exact hc.s5 | exact hc.s6 | exact hc.s7 | exact hc.s8 | exact hc.s9 | exact hc.s10 | exact hc.s11 | exact hc.s12 | exact hc.s13 | exact hc.s14 | exact hc.s15 | exact ⟨by omega,by omega⟩,fun W=>zn1 c m l k hm W⟩
   ·exact ⟨_,_,by first | exact zag _ _ _ | exact zao _ _ | exact zap | exact hk | exact hc.s0 | exact hc.s1 | exact hc.s2 | exact hc.s3 | exact hc.s5 | exact hc.s6 | exact hc.s7 | exact hc.s8 | exact hc.s9 | exact hc.s10 | exact hc.s11 | exact hc.s12 | exact hc.s13 | exact hc.s14 | exact hc.s15 | exact ⟨by omega,by omega⟩,fun W=>zux c m l k hm W⟩
   ·exact ⟨_,_,by first | exact zag _ _ _ | exact zao _ _ | exact zap | exact hk | exact hc.s0 | exact hc.s1 | exact hc.s2 | exact hc.s3 | exact hc.s5 | exact hc.s6 | exact hc.s7 | exact hc.s8 | exact hc.s9 | exact hc.s10 | exact hc.s11 | exact hc.s12 | exact hc.s13 | exact hc.s14 | exact hc.s15 | exact ⟨by omega,by omega⟩,fun W=>zkc c m l k hm W⟩
   ·exact ⟨_,_,by first | exact zag _ _ _ | exact zao _ _ | exact zap | exact hk | exact hc.s0 | exact hc.s1 | exact hc.s2 | exact hc.s3 | exact hc.s5 | exact hc.s6 | exact hc.s7 | exact hc.s8 | exact hc.s9 | exact hc.s10 | exact hc.s11 | exact hc.s12 | exact hc.s13 | exact hc.s14 | exact hc.s15 | exact ⟨by omega,by omega⟩,fun W=>zqQ c m l k hm W⟩
   ·exact ⟨_,_,by first | exact zag _ _ _ | exact zao _ _ | exact zap | exact hk | exact hc.s0 | exact hc.s1 | exact hc.s2 | exact hc.s3 | exact hc.s5 | exact hc.s6 | exact hc.s7 | exact hc.s8 | exact hc.s9 | exact hc.s10 | exact hc.s11 | exact hc.s12 | exact hc.s13 | exact hc.s14 | exact hc.s15 | exact ⟨by omega,by omega⟩,fun W=>zkV c m l k hm W⟩
   ·exact ⟨_,_,by first | exact zag _ _ _ | exact zao _ _ | exact zap | exact hk | exact hc.s0 | exact hc.s1 | exact hc.s2 | exact hc.s3 | exact hc.s5 | exact hc.s6 | exact hc.s7 | exact hc.s8 | exact hc.s9 | exact hc.s10 | exact hc.s11 | exact hc.s12 | exact hc.s13 | exact hc.s14 | exact hc.s15 | exact ⟨by omega,by omega⟩,fun W=>zwe c m l k hm W⟩
   ·exact ⟨_,_,by first | exact zag _ _ _ | exact zao _ _ | exact zap | exact hk | exact hc.s0 | exact hc.s1 | exact hc.s2 | exact hc.s3 | exact hc.s5 | exact hc.s6 | exact hc.s7 | exact hc.s8 | exact hc.s9 | exact hc.s10 | exact hc.s11 | exact hc.s12 | exact hc.s13 | exact hc.s14 | exact hc.s15 | exact ⟨by omega,by omega⟩,fun W=>zxg c m l k hm W⟩
   ·exact ⟨_,_,by first | exact zag _ _ _ | exact zao _ _ | exact zap | exact hk | exact hc.s0 | exact hc.s1 | exact hc.s2 | exact hc.s3 | exact hc.s5 | exact hc.s6 | exact hc.s7 | exact hc.s8 | exact hc.s9 | exact hc.s10 | exact hc.s11 | exact hc.s12 | exact hc.s13 | exact hc.s14 | exact hc.s15 | exact ⟨by omega,by omega⟩,fun W=>znb c m l k hm W⟩
   ·exact ⟨_,_,by first | exact zag _ _ _ | exact zao _ _ | exact zap | exact hk | exact hc.s0 | exact hc.s1 | exact hc.s2 | exact hc.s3 | exact hc.s5 | exact hc.s6 | exact hc.s7 | exact hc.s8 | exact hc.s9 | exact hc.s10 | exact hc.s11 | exact hc.s12 | exact hc.s13 | exact hc.s14 | exact hc.s15 | exact ⟨by omega,by omega⟩,fun W=>zoj c m l k hm W⟩
   ·exact ⟨_,_,by first | exact zag _ _ _ | exact zao _ _ | exact zap | exact hk | exact hc.s0 | exact hc.s1 | exact hc.s2 | exact hc.s3 | exact hc.s5 | exact hc.s6 | exact hc.s7 | exact hc.s8 | exact hc.s9 | exact hc.s10 | exact hc.s11 | exact hc.s12 | exact hc.s13 | exact hc.s14 | exact hc.s15 | exact ⟨by omega,by omega⟩,fun W=>zuY c m l k hm W⟩
   ·exact ⟨_,_,by first | exact zag _ _ _ | exact zao _ _ | exact zap | exact hk | exact hc.s0 | exact hc.s1 | exact hc.s2 | exact hc.s3 | exact hc.s5 | exact hc.s6 | exact hc.s7 | exact hc.s8 | exact hc.s9 | exact hc.s10 | exact hc.s11 | exact hc.s12 | exact hc.s13 | exact hc.s14 | exact hc.s15 | exact ⟨by omega,by omega⟩,fun W=>zwT c m l k hm W⟩
   ·exact ⟨_,_,by first | exact zag _ _ _ | exact zao _ _ | exact zap | exact hk | exact hc.s0 | exact hc.s1 | exact hc.s2 | exact hc.s3 | exact hc.s5 | exact hc.s6 | exact hc.s7 | exact hc.s8 | exact hc.s9 | exact hc.s10 | exact hc.s11 | exact hc.s12 | exact hc.s13 | exact hc.s14 | exact hc.s15 | exact ⟨by omega,by omega⟩,fun W=>zoZ c m l k hm W⟩
   ·exact ⟨_,_,by first | exact zag _ _ _ | exact zao _ _ | exact zap | exact hk | exact hc.s0 | exact hc.s1 | exact hc.s2 | exact hc.s3 | exact hc.s5 | exact hc.s6 | exact hc.s7 | exact hc.s8 | exact hc.s9 | exact hc.s10 | exact hc.s11 | exact hc.s12 | exact hc.s13 | exact hc.s14 | exact hc.s15 | exact ⟨by omega,by omega⟩,fun W=>zuw c m l k hm W⟩
   ·exact ⟨_,_,by first | exact zag _ _ _ | exact zao _ _ | exact zap | exact hk | exact hc.s0 | exact hc.s1 | exact hc.s2 | exact hc.s3 | exact hc.s5 | exact hc.s6 | exact hc.s7 | exact hc.s8 | exact hc.s9 | exact hc.s10 | exact hc.s11 | exact hc.s12 | exact hc.s13 | exact hc.s14 | exact hc.s15 | exact ⟨by omega,by omega⟩,fun W=>zkw c m l k hm W⟩
   ·exact ⟨_,_,by first | exact zag _ _ _ | exact zao _ _ | exact zap | exact hk | exact hc.s0 | exact hc.s1 | exact hc.s2 | exact hc.s3 | exact hc.s5 | exact hc.s6 | exact hc.s7 | exact hc.s8 | exact hc.s9 | exact hc.s10 | exact hc.s11 | exact hc.s12 | exact hc.s13 | exact hc.s14 | exact hc.s15 | exact ⟨by omega,by omega⟩,fun W=>zwD c m l k hm W⟩
   ·exact ⟨_,_,by first | exact zag _ _ _ | exact zao _ _ | exact zap | exact hk | exact hc.s0 | exact hc.s1 | exact hc.s2 | exact hc.s3 | exact hc.s5 | exact hc.s6 | exact hc.s7 | exact hc.s8 | exact hc.s9 | exact hc.s10 | exact hc.s11 | exact hc.s12 | exact hc.s13 | exact hc.s14 | exact hc.s15 | exact ⟨by omega,by omega⟩,fun W=>zkO c m l k hm W⟩
   ·exact ⟨_,_,by first | exact zag _ _ _ | exact zao _ _ | exact zap | exact hk | exact hc.s0 | exact hc.s1 | exact hc.s2 | exact hc.s3 | exact hc.s5 | exact hc.s6 | exact hc.s7 | exact hc.s8 | exact hc.s9 | exact hc.s10 | exact hc.s11 | exact hc.s12 | exact hc.s13 | exact hc.s14 | exact hc.s15 | exact ⟨by omega,by omega⟩,fun W=>zkS c m l k hm W⟩
   ·exact ⟨_,_,by first | exact zag _ _ _ | exact zao _ _ | exact zap | exact hk | exact hc.s0 | exact hc.s1 | exact hc.s2 | exact hc.s3 | exact hc.s5 | exact hc.s6 | exact hc.s7 | exact hc.s8 | exact hc.s9 | exact hc.s10 | exact hc.s11 | exact hc.s12 | exact hc.s13 | exact hc.s14 | exact hc.s15 | exact ⟨by omega,by omega⟩,fun W=>zug c m l k hm W⟩
   ·exact ⟨_,_,by first | exact zag _ _ _ | exact zao _ _ | exact zap | exact hk | exact hc.s0 | exact hc.s1 | exact hc.s2 | exact hc.s3 | exact hc.s5 | exact hc.s6 | exact hc.s7 | exact hc.s8 | exact hc.s9 | exact hc.s10 | exact hc.s11 | exact hc.s12 | exact hc.s13 | exact hc.s14 | exact hc.s15 | exact ⟨by omega,by omega⟩,fun W=>zts c m l k hm W⟩
   ·exact ⟨_,_,by first | exact zag _ _ _ | exact zao _ _ | exact zap | exact hk | exact hc.s0 | exact hc.s1 | exact hc.s2 | exact hc.s3 | exact hc.s5 | exact hc.s6 | exact hc.s7 | exact hc.s8 | exact hc.s9 | exact hc.s10 | exact hc.s11 | exact hc.s12 | exact hc.s13 | exact hc.s14 | exact hc.s15 | exact ⟨by omega,by omega⟩,fun W=>zwI c m l k hm W⟩
   ·exact ⟨_,_,by first | exact zag _ _ _ | exact zao _ _ | exact zap | exact hk | exact hc.s0 | exact hc.s1 | exact hc.s2 | exact hc.s3 | exact hc.s5 | exact hc.s6 | exact hc.s7 | exact hc.s8 | exact hc.s9 | exact hc.s10 | exact hc.s11 | exact hc.s12 | exact hc.s13 | exact hc.s14 | exact hc.s15 | exact ⟨by omega,by omega⟩,fun W=>zws c m l k hm W⟩
   ·exact ⟨_,_,by first | exact zag _ _ _ | exact zao _ _ | exact zap | exact hk | exact hc.s0 | exact hc.s1 | exact hc.s2 | exact hc.s3 | exact hc.s5 | exact hc.s6 | exact hc.s7 | exact hc.s8 | exact hc.s9 | exact hc.s10 | exact hc.s11 | exact hc.s12 | exact hc.s13 | exact hc.s14 | exact hc.s15 | exact ⟨by omega,by omega⟩,fun W=>zlh c m l k hm W⟩
   ·exact ⟨_,_,by first | exact zag _ _ _ | exact zao _ _ | exact zap | exact hk | exact hc.s0 | exact hc.s1 | exact hc.s2 | exact hc.s3 | exact hc.s5 | exact hc.s6 | exact hc.s7 | exact hc.s8 | exact hc.s9 | exact hc.s10 | exact hc.s11 | exact hc.s12 | exact hc.s13 | exact hc.s14 | exact hc.s15 | exact ⟨by omega,by omega⟩,fun W=>zpU c m l k hm W⟩
   ·exact ⟨_,_,by first | exact zag _ _ _ | exact zao _ _ | exact zap | exact hk | exact hc.s0 | exact hc.s1 | exact hc.s2 | exact hc.s3 | exact hc.s5 | exact hc.s6 | exact hc.s7 | exact hc.s8 | exact hc.s9 | exact hc.s10 | exact hc.s11 | exact hc.s12 | exact hc.s13 | exact hc.s14 | exact hc.s15 | exact ⟨by omega,by omega⟩,fun W=>zol c m l k hm W⟩
   ·exact ⟨_,_,by first | exact zag _ _ _ | exact zao _ _ | exact zap | exact hk | exact hc.s0 | exact hc.s1 | exact hc.s2 | exact hc.s3 | exact hc.s5 | exact hc.s6 | exact hc.s7 | exact hc.s8 | exact hc.s9 | exact hc.s10 | exact hc.s11 | exact hc.s12 | exact hc.s13 | exact hc.s14 | exact hc.s15 | exact ⟨by omega,by omega⟩,fun W=>zo3 c m l k hm W⟩
  ·exact ⟨0,false,zap,fun W=>by
    refine zxv c m n l k hm ?_ ?_ ?_ ?_ ?_ ?_ ?_ ?_ ?_ ?_ ?_ ?_ ?_ ?_ ?_ ?_ ?_ ?_ ?_ ?_ ?_ ?_ ?_ ?_ ?_ ?_ ?_ ?_ ?_ W
    all_goals
     rw [beq_eq_false_iff_ne]
     intro e
     exact h (by rw [e];decide)⟩
 ·exact ⟨0,false,zap,fun W=>zrT c m n l k hm W⟩
open Classical in
noncomputable def rdV (c:Reg) (m n l k:Int):Int × Bool:=if h:∃ r:Int,∃ ok:Bool,U64 r∧∀ W,TB 151 #[regV c,.int .i64 m,.int .i64 n,.int .u64 l,.int .u64 k] W (.tuple #[.int .u64 r,.bool ok]) then (Classical.choose h,Classical.choose (Classical.choose_spec h)) else (0,false)
theorem rd_u (c:Reg) (m n l k:Int):U64 (rdV c m n l k).1:=by
 unfold rdV
 split
 ·rename_i h
  exact (Classical.choose_spec (Classical.choose_spec h)).1
 ·exact zap
theorem zgs (c:Reg) (m n l k:Int) (hc:RU c) (hk:U64 k) (W:World):TB 151 #[regV c,.int .i64 m,.int .i64 n,.int .u64 l,.int .u64 k] W (.tuple #[.int .u64 (rdV c m n l k).1,.bool (rdV c m n l k).2]):=by
 have h:=ztG c m n l k hc hk
 unfold rdV
 rw [dif_pos h]
 exact (Classical.choose_spec (Classical.choose_spec h)).2 W
theorem zwf (c:Reg) (m n x:Int) (hc:RU c) (hx:U64 x):∃ r:Reg,∃ ok:Bool,RU r∧∀ W,TB 153 #[regV c,.int .i64 m,.int .i64 n,.int .u64 x] W (.tuple #[regV r,.bool ok]):=by
 rcases Bool.eq_false_or_eq_true (decide (zaz n≤m)) with hm | hm
 ·by_cases h:n∈([256,260,261,320,321,322,323,324,384,768,769,770,771,772,773,832,833,834,835,836,2816,2818]:List Int)
  ·simp only [List.mem_cons,List.not_mem_nil,or_false] at h
   rcases h with rfl | rfl | rfl | rfl | rfl | rfl | rfl | rfl | rfl | rfl | rfl | rfl | rfl | rfl | rfl | rfl | rfl | rfl | rfl | rfl | rfl | rfl
   ·exact ⟨⟨(mxV c.s0 x 786722),c.s1,c.s2,c.s3,c.s4,c.s5,c.s6,c.s7,c.s8,c.s9,c.s10,c.s11,c.s12,c.s13,c.s14,c.s15⟩,true,⟨(zgL _ _ _:U64 ((mxV c.s0 x 786722))),hc.s1,hc.s2,hc.s3,hc.s4,hc.s5,hc.s6,hc.s7,hc.s8,hc.s9,hc.s10,hc.s11,hc.s12,hc.s13,hc.s14,hc.s15⟩,fun W=>zpT c m x hm W⟩
   ·exact ⟨⟨c.s0,c.s1,c.s2,(mxV c.s3 x c.s2),c.s4,c.s5,c.s6,c.s7,c.s8,c.s9,c.s10,c.s11,c.s12,c.s13,c.s14,c.s15⟩,true,⟨hc.s0,hc.s1,hc.s2,(zgL _ _ _:U64 ((mxV c.s3 x c.s2))),hc.s4,hc.s5,hc.s6,hc.s7,hc.s8,hc.s9,hc.s10,hc.s11,hc.s12,hc.s13,hc.s14,hc.s15⟩,fun W=>zxu c m x hm W⟩
   ·exact ⟨⟨c.s0,c.s1,c.s2,c.s3,c.s4,c.s5,c.s6,c.s7,c.s8,c.s9,(bits .and .u64 x 18446744073709551613),c.s11,c.s12,c.s13,c.s14,c.s15⟩,true,⟨hc.s0,hc.s1,hc.s2,hc.s3,hc.s4,hc.s5,hc.s6,hc.s7,hc.s8,hc.s9,(zag _ _ _:U64 ((bits .and .u64 x 18446744073709551613))),hc.s11,hc.s12,hc.s13,hc.s14,hc.s15⟩,fun W=>ztA c m x hm W⟩
   ·exact ⟨⟨c.s0,c.s1,c.s2,c.s3,c.s4,c.s5,c.s6,c.s7,c.s8,c.s9,c.s10,x,c.s12,c.s13,c.s14,c.s15⟩,true,⟨hc.s0,hc.s1,hc.s2,hc.s3,hc.s4,hc.s5,hc.s6,hc.s7,hc.s8,hc.s9,hc.s10,hx,hc.s12,hc.s13,hc.s14,hc.s15⟩,fun W=>zno c m x hm W⟩
   ·exact ⟨⟨c.s0,c.s1,c.s2,c.s3,c.s4,c.s5,c.s6,c.s7,c.s8,c.s9,c.s10,c.s11,(bits .and .u64 x 18446744073709551614),c.s13,c.s14,c.s15⟩,true,⟨hc.s0,hc.s1,hc.s2,hc.s3,hc.s4,hc.s5,hc.s6,hc.s7,hc.s8,hc.s9,hc.s10,hc.s11,(zag _ _ _:U64 ((bits .and .u64 x 18446744073709551614))),hc.s13,hc.s14,hc.s15⟩,fun W=>zoO c m x hm W⟩
   ·exact ⟨⟨c.s0,c.s1,c.s2,c.s3,c.s4,c.s5,c.s6,c.s7,c.s8,c.s9,c.s10,c.s11,c.s12,x,c.s14,c.s15⟩,true,⟨hc.s0,hc.s1,hc.s2,hc.s3,hc.s4,hc.s5,hc.s6,hc.s7,hc.s8,hc.s9,hc.s10,hc.s11,hc.s12,hx,hc.s14,hc.s15⟩,fun W=>zrG c m x hm W⟩
   ·exact ⟨⟨c.s0,c.s1,c.s2,c.s3,c.s4,c.s5,c.s6,c.s7,c.s8,c.s9,c.s10,c.s11,c.s12,c.s13,x,c.s15⟩,true,⟨hc.s0,hc.s1,hc.s2,hc.s3,hc.s4,hc.s5,hc.s6,hc.s7,hc.s8,hc.s9,hc.s10,hc.s11,hc.s12,hc.s13,hx,hc.s15⟩,fun W=>zn2 c m x hm W⟩
   ·exact ⟨⟨c.s0,c.s1,c.s2,c.s3,(mxV c.s4 x (bits .and .u64 c.s2 2)),c.s5,c.s6,c.s7,c.s8,c.s9,c.s10,c.s11,c.s12,c.s13,c.s14,c.s15⟩,true,⟨hc.s0,hc.s1,hc.s2,hc.s3,(zgL _ _ _:U64 ((mxV c.s4 x (bits .and .u64 c.s2 2)))),hc.s5,hc.s6,hc.s7,hc.s8,hc.s9,hc.s10,hc.s11,hc.s12,hc.s13,hc.s14,hc.s15⟩,fun W=>zpS c m x hm W⟩
   ·exact ⟨⟨c.s0,c.s1,c.s2,c.s3,c.s4,c.s5,c.s6,c.s7,c.s8,c.s9,c.s10,c.s11,c.s12,c.s13,c.s14,(spV c.s15 x)⟩,true,⟨hc.s0,hc.s1,hc.s2,hc.s3,hc.s4,hc.s5,hc.s6,hc.s7,hc.s8,hc.s9,hc.s10,hc.s11,hc.s12,hc.s13,hc.s14,(zhv _ _ hc.s15:U64 ((spV c.s15 x)))⟩,fun W=>zsZ c m x hm W⟩
   ·exact ⟨⟨(stV x),c.s1,c.s2,c.s3,c.s4,c.s5,c.s6,c.s7,c.s8,c.s9,c.s10,c.s11,c.s12,c.s13,c.s14,c.s15⟩,true,⟨(zhT _:U64 ((stV x))),hc.s1,hc.s2,hc.s3,hc.s4,hc.s5,hc.s6,hc.s7,hc.s8,hc.s9,hc.s10,hc.s11,hc.s12,hc.s13,hc.s14,hc.s15⟩,fun W=>zw6 c m x hm W⟩
   ·exact ⟨⟨c.s0,c.s1,c.s2,c.s3,c.s4,c.s5,c.s6,c.s7,c.s8,c.s9,c.s10,c.s11,c.s12,c.s13,c.s14,c.s15⟩,true,⟨hc.s0,hc.s1,hc.s2,hc.s3,hc.s4,hc.s5,hc.s6,hc.s7,hc.s8,hc.s9,hc.s10,hc.s11,hc.s12,hc.s13,hc.s14,hc.s15⟩,fun W=>zpJ c m x hm W⟩
   ·exact ⟨⟨c.s0,(bits .and .u64 x 46079),c.s2,c.s3,c.s4,c.s5,c.s6,c.s7,c.s8,c.s9,c.s10,c.s11,c.s12,c.s13,c.s14,c.s15⟩,true,⟨hc.s0,(zag _ _ _:U64 ((bits .and .u64 x 46079))),hc.s2,hc.s3,hc.s4,hc.s5,hc.s6,hc.s7,hc.s8,hc.s9,hc.s10,hc.s11,hc.s12,hc.s13,hc.s14,hc.s15⟩,fun W=>zwl c m x hm W⟩
   ·exact ⟨⟨c.s0,c.s1,(bits .and .u64 x 546),c.s3,c.s4,c.s5,c.s6,c.s7,c.s8,c.s9,c.s10,c.s11,c.s12,c.s13,c.s14,c.s15⟩,true,⟨hc.s0,hc.s1,(zag _ _ _:U64 ((bits .and .u64 x 546))),hc.s3,hc.s4,hc.s5,hc.s6,hc.s7,hc.s8,hc.s9,hc.s10,hc.s11,hc.s12,hc.s13,hc.s14,hc.s15⟩,fun W=>zo1 c m x hm W⟩
   ·exact ⟨⟨c.s0,c.s1,c.s2,(bits .and .u64 x 2730),c.s4,c.s5,c.s6,c.s7,c.s8,c.s9,c.s10,c.s11,c.s12,c.s13,c.s14,c.s15⟩,true,⟨hc.s0,hc.s1,hc.s2,(zag _ _ _:U64 ((bits .and .u64 x 2730))),hc.s4,hc.s5,hc.s6,hc.s7,hc.s8,hc.s9,hc.s10,hc.s11,hc.s12,hc.s13,hc.s14,hc.s15⟩,fun W=>zo4 c m x hm W⟩
   ·exact ⟨⟨c.s0,c.s1,c.s2,c.s3,c.s4,(bits .and .u64 x 18446744073709551613),c.s6,c.s7,c.s8,c.s9,c.s10,c.s11,c.s12,c.s13,c.s14,c.s15⟩,true,⟨hc.s0,hc.s1,hc.s2,hc.s3,hc.s4,(zag _ _ _:U64 ((bits .and .u64 x 18446744073709551613))),hc.s6,hc.s7,hc.s8,hc.s9,hc.s10,hc.s11,hc.s12,hc.s13,hc.s14,hc.s15⟩,fun W=>zuZ c m x hm W⟩
   ·exact ⟨⟨c.s0,c.s1,c.s2,c.s3,c.s4,c.s5,x,c.s7,c.s8,c.s9,c.s10,c.s11,c.s12,c.s13,c.s14,c.s15⟩,true,⟨hc.s0,hc.s1,hc.s2,hc.s3,hc.s4,hc.s5,hx,hc.s7,hc.s8,hc.s9,hc.s10,hc.s11,hc.s12,hc.s13,hc.s14,hc.s15⟩,fun W=>zu5 c m x hm W⟩
   ·exact ⟨⟨c.s0,c.s1,c.s2,c.s3,c.s4,c.s5,c.s6,(bits .and .u64 x 18446744073709551614),c.s8,c.s9,c.s10,c.s11,c.s12,c.s13,c.s14,c.s15⟩,true,⟨hc.s0,hc.s1,hc.s2,hc.s3,hc.s4,hc.s5,hc.s6,(zag _ _ _:U64 ((bits .and .u64 x 18446744073709551614))),hc.s8,hc.s9,hc.s10,hc.s11,hc.s12,hc.s13,hc.s14,hc.s15⟩,fun W=>zn6 c m x hm W⟩
   ·exact ⟨⟨c.s0,c.s1,c.s2,c.s3,c.s4,c.s5,c.s6,c.s7,x,c.s9,c.s10,c.s11,c.s12,c.s13,c.s14,c.s15⟩,true,⟨hc.s0,hc.s1,hc.s2,hc.s3,hc.s4,hc.s5,hc.s6,hc.s7,hx,hc.s9,hc.s10,hc.s11,hc.s12,hc.s13,hc.s14,hc.s15⟩,fun W=>zvu c m x hm W⟩
   ·exact ⟨⟨c.s0,c.s1,c.s2,c.s3,c.s4,c.s5,c.s6,c.s7,c.s8,x,c.s10,c.s11,c.s12,c.s13,c.s14,c.s15⟩,true,⟨hc.s0,hc.s1,hc.s2,hc.s3,hc.s4,hc.s5,hc.s6,hc.s7,hc.s8,hx,hc.s10,hc.s11,hc.s12,hc.s13,hc.s14,hc.s15⟩,fun W=>zoR c m x hm W⟩
   ·exact ⟨⟨c.s0,c.s1,c.s2,c.s3,(bits .and .u64 x 546),c.s5,c.s6,c.s7,c.s8,c.s9,c.s10,c.s11,c.s12,c.s13,c.s14,c.s15⟩,true,⟨hc.s0,hc.s1,hc.s2,hc.s3,(zag _ _ _:U64 ((bits .and .u64 x 546))),hc.s5,hc.s6,hc.s7,hc.s8,hc.s9,hc.s10,hc.s11,hc.s12,hc.s13,hc.s14,hc.s15⟩,fun W=>zvT c m x hm W⟩
   ·exact ⟨⟨c.s0,c.s1,c.s2,c.s3,c.s4,c.s5,c.s6,c.s7,c.s8,c.s9,c.s10,c.s11,c.s12,c.s13,c.s14,c.s15⟩,true,⟨hc.s0,hc.s1,hc.s2,hc.s3,hc.s4,hc.s5,hc.s6,hc.s7,hc.s8,hc.s9,hc.s10,hc.s11,hc.s12,hc.s13,hc.s14,hc.s15⟩,fun W=>zs8 c m x hm W⟩
   ·exact ⟨⟨c.s0,c.s1,c.s2,c.s3,c.s4,c.s5,c.s6,c.s7,c.s8,c.s9,c.s10,c.s11,c.s12,c.s13,c.s14,c.s15⟩,true,⟨hc.s0,hc.s1,hc.s2,hc.s3,hc.s4,hc.s5,hc.s6,hc.s7,hc.s8,hc.s9,hc.s10,hc.s11,hc.s12,hc.s13,hc.s14,hc.s15⟩,fun W=>zk1 c m x hm W⟩
  ·rcases Bool.eq_false_or_eq_true (zf7 n != 3) with ho | ho
   ·refine ⟨c,false,hc,fun W=>?_⟩
    refine zwj c m n x hm ho ?_ ?_ ?_ ?_ ?_ ?_ ?_ ?_ ?_ ?_ ?_ ?_ ?_ ?_ ?_ ?_ ?_ ?_ ?_ ?_ ?_ ?_ W
    all_goals
     rw [beq_eq_false_iff_ne]
     intro e
     exact h (by rw [e];decide)
   ·exact ⟨c,false,hc,fun W=>zpu c m n x hm ho W⟩
 ·exact ⟨c,false,hc,fun W=>zuK c m n x hm W⟩
open Classical in
noncomputable def wtV (c:Reg) (m n x:Int):Reg × Bool:=if h:∃ r:Reg,∃ ok:Bool,RU r∧∀ W,TB 153 #[regV c,.int .i64 m,.int .i64 n,.int .u64 x] W (.tuple #[regV r,.bool ok]) then (Classical.choose h,Classical.choose (Classical.choose_spec h)) else (c,false)
theorem wt_u (c:Reg) (m n x:Int) (hc:RU c):RU (wtV c m n x).1:=by
 unfold wtV
 split
 ·rename_i h
  exact (Classical.choose_spec (Classical.choose_spec h)).1
 ·exact hc
theorem zhJ (c:Reg) (m n x:Int) (hc:RU c) (hx:U64 x) (W:World):TB 153 #[regV c,.int .i64 m,.int .i64 n,.int .u64 x] W (.tuple #[regV (wtV c m n x).1,.bool (wtV c m n x).2]):=by
 have h:=zwf c m n x hc hx
 unfold wtV
 rw [dif_pos h]
 exact (Classical.choose_spec (Classical.choose_spec h)).2 W
end Go.Proofs.YtmjjpgaeboaamaaGreatDoor.Cs
