/- MachineOn, part 37. -/
import Derived.Test.YtplcfdnfeclpmaaGreatDoorV07
import Derived.Test.YtplcfdnfeclpmaaGreatDoorV16
set_option maxHeartbeats 4000000
set_option maxRecDepth 100000
open Go.Lib (hid)
open Go Go.RowKit Go.Deep Go.Joins Go.Proofs.Tryz
namespace Go.Proofs.YtplcfdnfeclpmaaGreatDoor.Cs
theorem nigh {n:Nat} {a b:World} (h:Below n a b:=by repeat (first | with_reducible exact Below.refl _ _ | with_reducible refine Below.drew ?_ | with_reducible refine Below.alloc ?_ (by first | exact Nat.le_refl _ | simp | (simp;omega)) _ | with_reducible refine Below.setCell ?_ (by first | exact Nat.le_refl _ | simp | (simp;omega)) _)):Below n a b:=h
theorem znY (c:Reg) (m n l k:Int) (hm:decide (zaz n≤m)=false) (W:World):TB 108 #[regV c,.int .i64 m,.int .i64 n,.int .u64 l,.int .u64 k] W (.tuple #[.int .u64 0,.bool false]):=by
 go_enter func108,ntmps108;go_wp2_with (go_at_call 148;with_reducible refine (zbb m n false hm _).tq ?_);go_ret2;exact ⟨rfl,by repeat (first | with_reducible exact Below.refl _ _ | with_reducible refine Below.drew ?_ | with_reducible refine Below.alloc ?_ (by first | exact Nat.le_refl _ | simp | (simp;omega)) _ | with_reducible refine Below.setCell ?_ (by first | exact Nat.le_refl _ | simp | (simp;omega)) _)⟩
theorem zyE (c:Reg) (m n l k:Int) (hm:decide (zaz n≤m)=true) (h100:(n==256)=false) (h104:(n==260)=false) (h105:(n==261)=false) (h140:(n==320)=false) (h141:(n==321)=false) (h142:(n==322)=false) (h143:(n==323)=false) (h144:(n==324)=false) (h180:(n==384)=false) (h300:(n==768)=false) (h301:(n==769)=false) (h302:(n==770)=false) (h303:(n==771)=false) (h304:(n==772)=false) (h305:(n==773)=false) (h340:(n==832)=false) (h341:(n==833)=false) (h342:(n==834)=false) (h343:(n==835)=false) (h344:(n==836)=false) (hb00:(n==2816)=false) (hb02:(n==2818)=false) (hc00:(n==3072)=false) (hc01:(n==3073)=false) (hc02:(n==3074)=false) (hf11:(n==3857)=false) (hf12:(n==3858)=false) (hf13:(n==3859)=false) (hf14:(n==3860)=false) (W:World):TB 108 #[regV c,.int .i64 m,.int .i64 n,.int .u64 l,.int .u64 k] W (.tuple #[.int .u64 0,.bool false]):=by
 go_enter func108,ntmps108;go_wp2_with ((first | (go_at_call 148;with_reducible refine (zbb m n true hm _).tq ?_) | (go_at_call 149;with_reducible refine (zcC _ n h300 h302 h303 h304 h305 h340 h341 h342 h343 h105 h140 h141 h142 h143 h180 _).tq ?_)));go_ret2;exact ⟨rfl,by repeat (first | with_reducible exact Below.refl _ _ | with_reducible refine Below.drew ?_ | with_reducible refine Below.alloc ?_ (by first | exact Nat.le_refl _ | simp | (simp;omega)) _ | with_reducible refine Below.setCell ?_ (by first | exact Nat.le_refl _ | simp | (simp;omega)) _)⟩
theorem zrf (c:Reg) (m l k:Int) (hm:decide (zaz 256≤m)=true) (W:World):TB 108 #[regV c,.int .i64 m,.int .i64 256,.int .u64 l,.int .u64 k] W (.tuple #[.int .u64 (bits .and .u64 c.s0 786722),.bool true]):=by
 go_enter func108,ntmps108;go_wp2_with ((first | (go_at_call 148;with_reducible refine (zbb m 256 true hm _).tq ?_) | (go_at_call 149;with_reducible refine (zjo _ _).tq ?_)))
 all_goals go_ret2
 all_goals exact ⟨rfl,nigh⟩
theorem zo3 (c:Reg) (m l k:Int) (hm:decide (zaz 260≤m)=true) (W:World):TB 108 #[regV c,.int .i64 m,.int .i64 260,.int .u64 l,.int .u64 k] W (.tuple #[.int .u64 (bits .and .u64 c.s3 c.s2),.bool true]):=by
 go_enter func108,ntmps108;go_wp2_with ((first | (go_at_call 148;with_reducible refine (zbb m 260 true hm _).tq ?_) | (go_at_call 149;with_reducible refine (zje _ _).tq ?_)))
 all_goals go_ret2
 all_goals exact ⟨rfl,nigh⟩
theorem zwJ (c:Reg) (m l k:Int) (hm:decide (zaz 261≤m)=true) (W:World):TB 108 #[regV c,.int .i64 m,.int .i64 261,.int .u64 l,.int .u64 k] W (.tuple #[.int .u64 c.s10,.bool true]):=by
 go_enter func108,ntmps108;go_wp2_with ((first | (go_at_call 148;with_reducible refine (zbb m 261 true hm _).tq ?_) | (go_at_call 149;with_reducible refine (zkC _ _).tq ?_)))
 all_goals go_ret2
 all_goals exact ⟨rfl,nigh⟩
theorem zyz (c:Reg) (m l k:Int) (hm:decide (zaz 320≤m)=true) (W:World):TB 108 #[regV c,.int .i64 m,.int .i64 320,.int .u64 l,.int .u64 k] W (.tuple #[.int .u64 c.s11,.bool true]):=by
 go_enter func108,ntmps108;go_wp2_with ((first | (go_at_call 148;with_reducible refine (zbb m 320 true hm _).tq ?_) | (go_at_call 149;with_reducible refine (zkU _ _).tq ?_)))
 all_goals go_ret2
 all_goals exact ⟨rfl,nigh⟩
theorem zsJ (c:Reg) (m l k:Int) (hm:decide (zaz 321≤m)=true) (W:World):TB 108 #[regV c,.int .i64 m,.int .i64 321,.int .u64 l,.int .u64 k] W (.tuple #[.int .u64 c.s12,.bool true]):=by
 go_enter func108,ntmps108;go_wp2_with ((first | (go_at_call 148;with_reducible refine (zbb m 321 true hm _).tq ?_) | (go_at_call 149;with_reducible refine (zk4 _ _).tq ?_)))
 all_goals go_ret2
 all_goals exact ⟨rfl,nigh⟩
theorem zy5 (c:Reg) (m l k:Int) (hm:decide (zaz 322≤m)=true) (W:World):TB 108 #[regV c,.int .i64 m,.int .i64 322,.int .u64 l,.int .u64 k] W (.tuple #[.int .u64 c.s13,.bool true]):=by
 go_enter func108,ntmps108;go_wp2_with ((first | (go_at_call 148;with_reducible refine (zbb m 322 true hm _).tq ?_) | (go_at_call 149;with_reducible refine (zjB _ _).tq ?_)))
 all_goals go_ret2
 all_goals exact ⟨rfl,nigh⟩
theorem zuO (c:Reg) (m l k:Int) (hm:decide (zaz 323≤m)=true) (W:World):TB 108 #[regV c,.int .i64 m,.int .i64 323,.int .u64 l,.int .u64 k] W (.tuple #[.int .u64 c.s14,.bool true]):=by
 go_enter func108,ntmps108;go_wp2_with ((first | (go_at_call 148;with_reducible refine (zbb m 323 true hm _).tq ?_) | (go_at_call 149;with_reducible refine (zlj _ _).tq ?_)))
 all_goals go_ret2
 all_goals exact ⟨rfl,nigh⟩
theorem zm4 (c:Reg) (m l k:Int) (hm:decide (zaz 324≤m)=true) (W:World):TB 108 #[regV c,.int .i64 m,.int .i64 324,.int .u64 l,.int .u64 k] W (.tuple #[.int .u64 (bits .and .u64 (rsV c.s4 l) c.s2),.bool true]):=by
 go_enter func108,ntmps108;go_wp2_with ((first | (go_at_call 148;with_reducible refine (zbb m 324 true hm _).tq ?_) | (go_at_call 149;with_reducible refine (ziA _ _).tq ?_)))
 go_region_with (first | (go_at_call 150;(with_reducible refine (zj4 c l _).mono ?_);rintro e w' ⟨rfl,rfl⟩))
 all_goals go_wp2
 all_goals go_ret2
 all_goals exact ⟨rfl,nigh⟩
theorem zoh (c:Reg) (m l k:Int) (hm:decide (zaz 384≤m)=true) (W:World):TB 108 #[regV c,.int .i64 m,.int .i64 384,.int .u64 l,.int .u64 k] W (.tuple #[.int .u64 c.s15,.bool true]):=by
 go_enter func108,ntmps108;go_wp2_with ((first | (go_at_call 148;with_reducible refine (zbb m 384 true hm _).tq ?_) | (go_at_call 149;with_reducible refine (zjt _ _).tq ?_)))
 all_goals go_ret2
 all_goals exact ⟨rfl,nigh⟩
theorem zoI (c:Reg) (m l k:Int) (hm:decide (zaz 768≤m)=true) (W:World):TB 108 #[regV c,.int .i64 m,.int .i64 768,.int .u64 l,.int .u64 k] W (.tuple #[.int .u64 c.s0,.bool true]):=by
 go_enter func108,ntmps108;go_wp2_with ((first | (go_at_call 148;with_reducible refine (zbb m 768 true hm _).tq ?_) | (go_at_call 149;with_reducible refine (zk2 _ _).tq ?_)))
 all_goals go_ret2
 all_goals exact ⟨rfl,nigh⟩
theorem zyG (c:Reg) (m l k:Int) (hm:decide (zaz 769≤m)=true) (W:World):TB 108 #[regV c,.int .i64 m,.int .i64 769,.int .u64 l,.int .u64 k] W (.tuple #[.int .u64 9223372036856090885,.bool true]):=by
 go_enter func108,ntmps108;go_wp2_with ((first | (go_at_call 148;with_reducible refine (zbb m 769 true hm _).tq ?_) | (go_at_call 149;with_reducible refine (zlA _ _).tq ?_)))
 all_goals go_ret2
 all_goals exact ⟨rfl,nigh⟩
theorem zoT (c:Reg) (m l k:Int) (hm:decide (zaz 770≤m)=true) (W:World):TB 108 #[regV c,.int .i64 m,.int .i64 770,.int .u64 l,.int .u64 k] W (.tuple #[.int .u64 c.s1,.bool true]):=by
 go_enter func108,ntmps108;go_wp2_with ((first | (go_at_call 148;with_reducible refine (zbb m 770 true hm _).tq ?_) | (go_at_call 149;with_reducible refine (zkw _ _).tq ?_)))
 all_goals go_ret2
 all_goals exact ⟨rfl,nigh⟩
theorem zAs (c:Reg) (m l k:Int) (hm:decide (zaz 771≤m)=true) (W:World):TB 108 #[regV c,.int .i64 m,.int .i64 771,.int .u64 l,.int .u64 k] W (.tuple #[.int .u64 c.s2,.bool true]):=by
 go_enter func108,ntmps108;go_wp2_with ((first | (go_at_call 148;with_reducible refine (zbb m 771 true hm _).tq ?_) | (go_at_call 149;with_reducible refine (zlo _ _).tq ?_)))
 all_goals go_ret2
 all_goals exact ⟨rfl,nigh⟩
theorem zoM (c:Reg) (m l k:Int) (hm:decide (zaz 772≤m)=true) (W:World):TB 108 #[regV c,.int .i64 m,.int .i64 772,.int .u64 l,.int .u64 k] W (.tuple #[.int .u64 c.s3,.bool true]):=by
 go_enter func108,ntmps108;go_wp2_with ((first | (go_at_call 148;with_reducible refine (zbb m 772 true hm _).tq ?_) | (go_at_call 149;with_reducible refine (zlk _ _).tq ?_)))
 all_goals go_ret2
 all_goals exact ⟨rfl,nigh⟩
theorem zyd (c:Reg) (m l k:Int) (hm:decide (zaz 773≤m)=true) (W:World):TB 108 #[regV c,.int .i64 m,.int .i64 773,.int .u64 l,.int .u64 k] W (.tuple #[.int .u64 c.s5,.bool true]):=by
 go_enter func108,ntmps108;go_wp2_with ((first | (go_at_call 148;with_reducible refine (zbb m 773 true hm _).tq ?_) | (go_at_call 149;with_reducible refine (zjC _ _).tq ?_)))
 all_goals go_ret2
 all_goals exact ⟨rfl,nigh⟩
theorem zvo (c:Reg) (m l k:Int) (hm:decide (zaz 832≤m)=true) (W:World):TB 108 #[regV c,.int .i64 m,.int .i64 832,.int .u64 l,.int .u64 k] W (.tuple #[.int .u64 c.s6,.bool true]):=by
 go_enter func108,ntmps108;go_wp2_with ((first | (go_at_call 148;with_reducible refine (zbb m 832 true hm _).tq ?_) | (go_at_call 149;with_reducible refine (zj3 _ _).tq ?_)))
 all_goals go_ret2
 all_goals exact ⟨rfl,nigh⟩
theorem znH (c:Reg) (m l k:Int) (hm:decide (zaz 833≤m)=true) (W:World):TB 108 #[regV c,.int .i64 m,.int .i64 833,.int .u64 l,.int .u64 k] W (.tuple #[.int .u64 c.s7,.bool true]):=by
 go_enter func108,ntmps108;go_wp2_with ((first | (go_at_call 148;with_reducible refine (zbb m 833 true hm _).tq ?_) | (go_at_call 149;with_reducible refine (zll _ _).tq ?_)))
 all_goals go_ret2
 all_goals exact ⟨rfl,nigh⟩
theorem ztm (c:Reg) (m l k:Int) (hm:decide (zaz 834≤m)=true) (W:World):TB 108 #[regV c,.int .i64 m,.int .i64 834,.int .u64 l,.int .u64 k] W (.tuple #[.int .u64 c.s8,.bool true]):=by
 go_enter func108,ntmps108;go_wp2_with ((first | (go_at_call 148;with_reducible refine (zbb m 834 true hm _).tq ?_) | (go_at_call 149;with_reducible refine (ziH _ _).tq ?_)))
 all_goals go_ret2
 all_goals exact ⟨rfl,nigh⟩
theorem zoJ (c:Reg) (m l k:Int) (hm:decide (zaz 835≤m)=true) (W:World):TB 108 #[regV c,.int .i64 m,.int .i64 835,.int .u64 l,.int .u64 k] W (.tuple #[.int .u64 c.s9,.bool true]):=by
 go_enter func108,ntmps108;go_wp2_with ((first | (go_at_call 148;with_reducible refine (zbb m 835 true hm _).tq ?_) | (go_at_call 149;with_reducible refine (zkf _ _).tq ?_)))
 all_goals go_ret2
 all_goals exact ⟨rfl,nigh⟩
theorem zyc (c:Reg) (m l k:Int) (hm:decide (zaz 836≤m)=true) (W:World):TB 108 #[regV c,.int .i64 m,.int .i64 836,.int .u64 l,.int .u64 k] W (.tuple #[.int .u64 (rsV c.s4 l),.bool true]):=by
 go_enter func108,ntmps108;go_wp2_with ((first | (go_at_call 148;with_reducible refine (zbb m 836 true hm _).mono ?_) | (go_at_call 149;with_reducible refine (zjQ _ _).mono ?_) | (go_at_call 150;with_reducible refine (zj4 c l _).mono ?_));rintro e w' ⟨rfl,rfl⟩)
 all_goals go_ret2
 all_goals exact ⟨rfl,nigh⟩
theorem zn9 (c:Reg) (m l k:Int) (hm:decide (zaz 2816≤m)=true) (W:World):TB 108 #[regV c,.int .i64 m,.int .i64 2816,.int .u64 l,.int .u64 k] W (.tuple #[.int .u64 k,.bool true]):=by
 go_enter func108,ntmps108;go_wp2_with ((first | (go_at_call 148;with_reducible refine (zbb m 2816 true hm _).tq ?_) | (go_at_call 149;with_reducible refine (zle _ _).tq ?_)))
 all_goals go_ret2
 all_goals exact ⟨rfl,nigh⟩
theorem zn6 (c:Reg) (m l k:Int) (hm:decide (zaz 2818≤m)=true) (W:World):TB 108 #[regV c,.int .i64 m,.int .i64 2818,.int .u64 l,.int .u64 k] W (.tuple #[.int .u64 k,.bool true]):=by
 go_enter func108,ntmps108;go_wp2_with ((first | (go_at_call 148;with_reducible refine (zbb m 2818 true hm _).tq ?_) | (go_at_call 149;with_reducible refine (zjU _ _).tq ?_)))
 all_goals go_ret2
 all_goals exact ⟨rfl,nigh⟩
theorem zv8 (c:Reg) (m l k:Int) (hm:decide (zaz 3072≤m)=true) (W:World):TB 108 #[regV c,.int .i64 m,.int .i64 3072,.int .u64 l,.int .u64 k] W (.tuple #[.int .u64 k,.bool true]):=by
 go_enter func108,ntmps108;go_wp2_with ((first | (go_at_call 148;with_reducible refine (zbb m 3072 true hm _).tq ?_) | (go_at_call 149;with_reducible refine (zwC _ _).tq ?_)))
 all_goals go_ret2
 all_goals exact ⟨rfl,nigh⟩
theorem ztZ (c:Reg) (m l k:Int) (hm:decide (zaz 3073≤m)=true) (W:World):TB 108 #[regV c,.int .i64 m,.int .i64 3073,.int .u64 l,.int .u64 k] W (.tuple #[.int .u64 k,.bool true]):=by
 go_enter func108,ntmps108;go_wp2_with ((first | (go_at_call 148;with_reducible refine (zbb m 3073 true hm _).tq ?_) | (go_at_call 149;with_reducible refine (zzX _ _).tq ?_)))
 all_goals go_ret2
 all_goals exact ⟨rfl,nigh⟩
theorem zsR (c:Reg) (m l k:Int) (hm:decide (zaz 3074≤m)=true) (W:World):TB 108 #[regV c,.int .i64 m,.int .i64 3074,.int .u64 l,.int .u64 k] W (.tuple #[.int .u64 k,.bool true]):=by
 go_enter func108,ntmps108;go_wp2_with ((first | (go_at_call 148;with_reducible refine (zbb m 3074 true hm _).tq ?_) | (go_at_call 149;with_reducible refine (zwZ _ _).tq ?_)))
 all_goals go_ret2
 all_goals exact ⟨rfl,nigh⟩
theorem zpM (c:Reg) (m l k:Int) (hm:decide (zaz 3857≤m)=true) (W:World):TB 108 #[regV c,.int .i64 m,.int .i64 3857,.int .u64 l,.int .u64 k] W (.tuple #[.int .u64 0,.bool true]):=by
 go_enter func108,ntmps108;go_wp2_with ((first | (go_at_call 148;with_reducible refine (zbb m 3857 true hm _).tq ?_) | (go_at_call 149;with_reducible refine (zyJ _ _).tq ?_)))
 all_goals go_ret2
 all_goals exact ⟨rfl,nigh⟩
theorem zqw (c:Reg) (m l k:Int) (hm:decide (zaz 3858≤m)=true) (W:World):TB 108 #[regV c,.int .i64 m,.int .i64 3858,.int .u64 l,.int .u64 k] W (.tuple #[.int .u64 0,.bool true]):=by
 go_enter func108,ntmps108;go_wp2_with ((first | (go_at_call 148;with_reducible refine (zbb m 3858 true hm _).tq ?_) | (go_at_call 149;with_reducible refine (zz7 _ _).tq ?_)))
 all_goals go_ret2
 all_goals exact ⟨rfl,nigh⟩
theorem zwN (c:Reg) (m l k:Int) (hm:decide (zaz 3859≤m)=true) (W:World):TB 108 #[regV c,.int .i64 m,.int .i64 3859,.int .u64 l,.int .u64 k] W (.tuple #[.int .u64 0,.bool true]):=by
 go_enter func108,ntmps108;go_wp2_with ((first | (go_at_call 148;with_reducible refine (zbb m 3859 true hm _).tq ?_) | (go_at_call 149;with_reducible refine (znL _ _).tq ?_)))
 all_goals go_ret2
 all_goals exact ⟨rfl,nigh⟩
theorem zsG (c:Reg) (m l k:Int) (hm:decide (zaz 3860≤m)=true) (W:World):TB 108 #[regV c,.int .i64 m,.int .i64 3860,.int .u64 l,.int .u64 k] W (.tuple #[.int .u64 0,.bool true]):=by
 go_enter func108,ntmps108;go_wp2_with ((first | (go_at_call 148;with_reducible refine (zbb m 3860 true hm _).tq ?_) | (go_at_call 149;with_reducible refine (zth _ _).tq ?_)))
 all_goals go_ret2
 all_goals exact ⟨rfl,nigh⟩
end Go.Proofs.YtplcfdnfeclpmaaGreatDoor.Cs
namespace Go.Proofs.YtplcfdnfeclpmaaGreatDoor.Cs
theorem zcq {B:Nat} {a w:World} (h:Below B a w) (n:Nat):Below B a (w.drewN n):=⟨h.os,h.tape,h.output,h.size,h.block⟩
end Go.Proofs.YtplcfdnfeclpmaaGreatDoor.Cs
namespace Go.Proofs.YtplcfdnfeclpmaaGreatDoor.Cs
theorem zAl (c:Reg)  (g:(stV c.s0==c.s0)=false) (W:World):TB 30 #[regV c] W (.bool false):=by
 go_enter func30,ntmps30;go_wp2_with fail
 go_quiet (first | (go_at_call 52;exact Calls.quiet_of_same ((zbE _ _).mono fun _ _ h=>And.intro h.1 h.2.symm)) | (go_at_call 53;exact Calls.quiet_of_same ((zct _ _ _).mono fun _ _ h=>And.intro h.1 h.2.symm)) | (go_at_call 54;exact Calls.quiet_of_same ((zcX _ _).mono fun _ _ h=>And.intro h.1 h.2.symm)))
 go_wp2
 go_ret;exact ⟨rfl,zcq ((Below.refl _ _).alloc (Nat.le_refl _) _) _⟩
theorem zzt (c:Reg) (h0:(stV c.s0==c.s0)=true) (g:((bits .andNot .u64 c.s1 46079)==0)=false) (W:World):TB 30 #[regV c] W (.bool false):=by
 go_enter func30,ntmps30;go_wp2_with fail
 go_quiet (first | (go_at_call 52;exact Calls.quiet_of_same ((zbE _ _).mono fun _ _ h=>And.intro h.1 h.2.symm)) | (go_at_call 53;exact Calls.quiet_of_same ((zct _ _ _).mono fun _ _ h=>And.intro h.1 h.2.symm)) | (go_at_call 54;exact Calls.quiet_of_same ((zcX _ _).mono fun _ _ h=>And.intro h.1 h.2.symm)))
 go_wp2
 go_ret;exact ⟨rfl,zcq ((Below.refl _ _).alloc (Nat.le_refl _) _) _⟩
theorem zzz (c:Reg) (h0:(stV c.s0==c.s0)=true) (h1:((bits .andNot .u64 c.s1 46079)==0)=true) (g:((bits .andNot .u64 c.s2 546)==0)=false) (W:World):TB 30 #[regV c] W (.bool false):=by
 go_enter func30,ntmps30;go_wp2_with fail
 go_quiet (first | (go_at_call 52;exact Calls.quiet_of_same ((zbE _ _).mono fun _ _ h=>And.intro h.1 h.2.symm)) | (go_at_call 53;exact Calls.quiet_of_same ((zct _ _ _).mono fun _ _ h=>And.intro h.1 h.2.symm)) | (go_at_call 54;exact Calls.quiet_of_same ((zcX _ _).mono fun _ _ h=>And.intro h.1 h.2.symm)))
 go_wp2
 go_ret;exact ⟨rfl,zcq ((Below.refl _ _).alloc (Nat.le_refl _) _) _⟩
theorem zoE (c:Reg) (h0:(stV c.s0==c.s0)=true) (h1:((bits .andNot .u64 c.s1 46079)==0)=true) (h2:((bits .andNot .u64 c.s2 546)==0)=true) (g:((bits .andNot .u64 c.s3 2730)==0)=false) (W:World):TB 30 #[regV c] W (.bool false):=by
 go_enter func30,ntmps30;go_wp2_with fail
 go_quiet (first | (go_at_call 52;exact Calls.quiet_of_same ((zbE _ _).mono fun _ _ h=>And.intro h.1 h.2.symm)) | (go_at_call 53;exact Calls.quiet_of_same ((zct _ _ _).mono fun _ _ h=>And.intro h.1 h.2.symm)) | (go_at_call 54;exact Calls.quiet_of_same ((zcX _ _).mono fun _ _ h=>And.intro h.1 h.2.symm)))
 go_wp2
 go_ret;exact ⟨rfl,zcq ((Below.refl _ _).alloc (Nat.le_refl _) _) _⟩
theorem znc (c:Reg) (h0:(stV c.s0==c.s0)=true) (h1:((bits .andNot .u64 c.s1 46079)==0)=true) (h2:((bits .andNot .u64 c.s2 546)==0)=true) (h3:((bits .andNot .u64 c.s3 2730)==0)=true) (g:((bits .andNot .u64 c.s4 546)==0)=false) (W:World):TB 30 #[regV c] W (.bool false):=by
 go_enter func30,ntmps30;go_wp2_with fail
 go_quiet (first | (go_at_call 52;exact Calls.quiet_of_same ((zbE _ _).mono fun _ _ h=>And.intro h.1 h.2.symm)) | (go_at_call 53;exact Calls.quiet_of_same ((zct _ _ _).mono fun _ _ h=>And.intro h.1 h.2.symm)) | (go_at_call 54;exact Calls.quiet_of_same ((zcX _ _).mono fun _ _ h=>And.intro h.1 h.2.symm)))
 go_wp2
 go_ret;exact ⟨rfl,zcq ((Below.refl _ _).alloc (Nat.le_refl _) _) _⟩
theorem zuP (c:Reg) (h0:(stV c.s0==c.s0)=true) (h1:((bits .andNot .u64 c.s1 46079)==0)=true) (h2:((bits .andNot .u64 c.s2 546)==0)=true) (h3:((bits .andNot .u64 c.s3 2730)==0)=true) (h4:((bits .andNot .u64 c.s4 546)==0)=true) (g:((bits .andNot .u64 c.s5 18446744073709551613)==0)=false) (W:World):TB 30 #[regV c] W (.bool false):=by
 go_enter func30,ntmps30;go_wp2_with fail
 go_quiet (first | (go_at_call 52;exact Calls.quiet_of_same ((zbE _ _).mono fun _ _ h=>And.intro h.1 h.2.symm)) | (go_at_call 53;exact Calls.quiet_of_same ((zct _ _ _).mono fun _ _ h=>And.intro h.1 h.2.symm)) | (go_at_call 54;exact Calls.quiet_of_same ((zcX _ _).mono fun _ _ h=>And.intro h.1 h.2.symm)))
 go_wp2
 go_ret;exact ⟨rfl,zcq ((Below.refl _ _).alloc (Nat.le_refl _) _) _⟩
end Go.Proofs.YtplcfdnfeclpmaaGreatDoor.Cs
namespace Go.Proofs.YtplcfdnfeclpmaaGreatDoor.Cs
theorem zml (c:Reg) (h0:(stV c.s0==c.s0)=true) (h1:((bits .andNot .u64 c.s1 46079)==0)=true) (h2:((bits .andNot .u64 c.s2 546)==0)=true) (h3:((bits .andNot .u64 c.s3 2730)==0)=true) (h4:((bits .andNot .u64 c.s4 546)==0)=true) (h5:((bits .andNot .u64 c.s5 18446744073709551613)==0)=true) (g:((bits .andNot .u64 c.s10 18446744073709551613)==0)=false) (W:World):TB 30 #[regV c] W (.bool false):=by
 go_enter func30,ntmps30;go_wp2_with fail
 go_quiet (first | (go_at_call 52;exact Calls.quiet_of_same ((zbE _ _).mono fun _ _ h=>And.intro h.1 h.2.symm)) | (go_at_call 53;exact Calls.quiet_of_same ((zct _ _ _).mono fun _ _ h=>And.intro h.1 h.2.symm)) | (go_at_call 54;exact Calls.quiet_of_same ((zcX _ _).mono fun _ _ h=>And.intro h.1 h.2.symm)))
 go_wp2
 go_ret;exact ⟨rfl,zcq ((Below.refl _ _).alloc (Nat.le_refl _) _) _⟩
theorem zpR (c:Reg) (h0:(stV c.s0==c.s0)=true) (h1:((bits .andNot .u64 c.s1 46079)==0)=true) (h2:((bits .andNot .u64 c.s2 546)==0)=true) (h3:((bits .andNot .u64 c.s3 2730)==0)=true) (h4:((bits .andNot .u64 c.s4 546)==0)=true) (h5:((bits .andNot .u64 c.s5 18446744073709551613)==0)=true) (h6:((bits .andNot .u64 c.s10 18446744073709551613)==0)=true) (g:((bits .andNot .u64 c.s7 18446744073709551614)==0)=false) (W:World):TB 30 #[regV c] W (.bool false):=by
 go_enter func30,ntmps30;go_wp2_with fail
 go_quiet (first | (go_at_call 52;exact Calls.quiet_of_same ((zbE _ _).mono fun _ _ h=>And.intro h.1 h.2.symm)) | (go_at_call 53;exact Calls.quiet_of_same ((zct _ _ _).mono fun _ _ h=>And.intro h.1 h.2.symm)) | (go_at_call 54;exact Calls.quiet_of_same ((zcX _ _).mono fun _ _ h=>And.intro h.1 h.2.symm)))
 go_wp2
 go_ret;exact ⟨rfl,zcq ((Below.refl _ _).alloc (Nat.le_refl _) _) _⟩
theorem zlZ (c:Reg) (h0:(stV c.s0==c.s0)=true) (h1:((bits .andNot .u64 c.s1 46079)==0)=true) (h2:((bits .andNot .u64 c.s2 546)==0)=true) (h3:((bits .andNot .u64 c.s3 2730)==0)=true) (h4:((bits .andNot .u64 c.s4 546)==0)=true) (h5:((bits .andNot .u64 c.s5 18446744073709551613)==0)=true) (h6:((bits .andNot .u64 c.s10 18446744073709551613)==0)=true) (h7:((bits .andNot .u64 c.s7 18446744073709551614)==0)=true) (g:((bits .andNot .u64 c.s12 18446744073709551614)==0)=false) (W:World):TB 30 #[regV c] W (.bool false):=by
 go_enter func30,ntmps30;go_wp2_with fail
 go_quiet (first | (go_at_call 52;exact Calls.quiet_of_same ((zbE _ _).mono fun _ _ h=>And.intro h.1 h.2.symm)) | (go_at_call 53;exact Calls.quiet_of_same ((zct _ _ _).mono fun _ _ h=>And.intro h.1 h.2.symm)) | (go_at_call 54;exact Calls.quiet_of_same ((zcX _ _).mono fun _ _ h=>And.intro h.1 h.2.symm)))
 go_wp2
 go_ret;exact ⟨rfl,zcq ((Below.refl _ _).alloc (Nat.le_refl _) _) _⟩
theorem zAM (c:Reg) (h0:(stV c.s0==c.s0)=true) (h1:((bits .andNot .u64 c.s1 46079)==0)=true) (h2:((bits .andNot .u64 c.s2 546)==0)=true) (h3:((bits .andNot .u64 c.s3 2730)==0)=true) (h4:((bits .andNot .u64 c.s4 546)==0)=true) (h5:((bits .andNot .u64 c.s5 18446744073709551613)==0)=true) (h6:((bits .andNot .u64 c.s10 18446744073709551613)==0)=true) (h7:((bits .andNot .u64 c.s7 18446744073709551614)==0)=true) (h8:((bits .andNot .u64 c.s12 18446744073709551614)==0)=true) (g:((bits .andNot .u64 c.s15 17293840161288749055)==0)=false) (W:World):TB 30 #[regV c] W (.bool false):=by
 go_enter func30,ntmps30;go_wp2_with fail
 go_quiet (first | (go_at_call 52;exact Calls.quiet_of_same ((zbE _ _).mono fun _ _ h=>And.intro h.1 h.2.symm)) | (go_at_call 53;exact Calls.quiet_of_same ((zct _ _ _).mono fun _ _ h=>And.intro h.1 h.2.symm)) | (go_at_call 54;exact Calls.quiet_of_same ((zcX _ _).mono fun _ _ h=>And.intro h.1 h.2.symm)))
 go_wp2
 go_ret;exact ⟨rfl,zcq ((Below.refl _ _).alloc (Nat.le_refl _) _) _⟩
theorem zAg (c:Reg) (h0:(stV c.s0==c.s0)=true) (h1:((bits .andNot .u64 c.s1 46079)==0)=true) (h2:((bits .andNot .u64 c.s2 546)==0)=true) (h3:((bits .andNot .u64 c.s3 2730)==0)=true) (h4:((bits .andNot .u64 c.s4 546)==0)=true) (h5:((bits .andNot .u64 c.s5 18446744073709551613)==0)=true) (h6:((bits .andNot .u64 c.s10 18446744073709551613)==0)=true) (h7:((bits .andNot .u64 c.s7 18446744073709551614)==0)=true) (h8:((bits .andNot .u64 c.s12 18446744073709551614)==0)=true) (h9:((bits .andNot .u64 c.s15 17293840161288749055)==0)=true) (g:(tbB c.s15)=false) (W:World):TB 30 #[regV c] W (.bool false):=by
 go_enter func30,ntmps30;go_wp2_with fail
 go_quiet (first | (go_at_call 52;exact Calls.quiet_of_same ((zbE _ _).mono fun _ _ h=>And.intro h.1 h.2.symm)) | (go_at_call 53;exact Calls.quiet_of_same ((zct _ _ _).mono fun _ _ h=>And.intro h.1 h.2.symm)) | (go_at_call 54;exact Calls.quiet_of_same ((zcX _ _).mono fun _ _ h=>And.intro h.1 h.2.symm)))
 go_wp2
 go_ret;exact ⟨rfl,zcq ((Below.refl _ _).alloc (Nat.le_refl _) _) _⟩
theorem zj0 (c:Reg) (h0:(stV c.s0==c.s0)=true) (h1:((bits .andNot .u64 c.s1 46079)==0)=true) (h2:((bits .andNot .u64 c.s2 546)==0)=true) (h3:((bits .andNot .u64 c.s3 2730)==0)=true) (h4:((bits .andNot .u64 c.s4 546)==0)=true) (h5:((bits .andNot .u64 c.s5 18446744073709551613)==0)=true) (h6:((bits .andNot .u64 c.s10 18446744073709551613)==0)=true) (h7:((bits .andNot .u64 c.s7 18446744073709551614)==0)=true) (h8:((bits .andNot .u64 c.s12 18446744073709551614)==0)=true) (h9:((bits .andNot .u64 c.s15 17293840161288749055)==0)=true) (h10:(tbB c.s15)=true) (W:World):TB 30 #[regV c] W (.bool true):=by
 go_enter func30,ntmps30;go_wp2_with fail
 go_quiet (first | (go_at_call 52;exact Calls.quiet_of_same ((zbE _ _).mono fun _ _ h=>And.intro h.1 h.2.symm)) | (go_at_call 53;exact Calls.quiet_of_same ((zct _ _ _).mono fun _ _ h=>And.intro h.1 h.2.symm)) | (go_at_call 54;exact Calls.quiet_of_same ((zcX _ _).mono fun _ _ h=>And.intro h.1 h.2.symm)))
 go_wp2
 go_ret;exact ⟨rfl,zcq ((Below.refl _ _).alloc (Nat.le_refl _) _) _⟩
end Go.Proofs.YtplcfdnfeclpmaaGreatDoor.Cs
namespace Go.Proofs.YtplcfdnfeclpmaaGreatDoor.Cs
def zao (c:Reg):Bool:=(stV c.s0==c.s0) && ((bits .andNot .u64 c.s1 46079)==0) && ((bits .andNot .u64 c.s2 546)==0) && ((bits .andNot .u64 c.s3 2730)==0) && ((bits .andNot .u64 c.s4 546)==0) && ((bits .andNot .u64 c.s5 18446744073709551613)==0) && ((bits .andNot .u64 c.s10 18446744073709551613)==0) && ((bits .andNot .u64 c.s7 18446744073709551614)==0) && ((bits .andNot .u64 c.s12 18446744073709551614)==0) && ((bits .andNot .u64 c.s15 17293840161288749055)==0) && (tbB c.s15)
theorem zbe (c:Reg) (W:World):TB 30 #[regV c] W (.bool (zao c)):=by
 rcases Bool.eq_false_or_eq_true (stV c.s0==c.s0) with h0 | h0
 rotate_left
 ·have e:zao c=false:=by unfold zao;simp [h0]
  rw [e];exact zAl c  h0 W
 rcases Bool.eq_false_or_eq_true ((bits .andNot .u64 c.s1 46079)==0) with h1 | h1
 rotate_left
 ·have e:zao c=false:=by unfold zao;simp [h0,h1]
  rw [e];exact zzt c h0 h1 W
 rcases Bool.eq_false_or_eq_true ((bits .andNot .u64 c.s2 546)==0) with h2 | h2
 rotate_left
 ·have e:zao c=false:=by unfold zao;simp [h0,h1,h2]
  rw [e];exact zzz c h0 h1 h2 W
 rcases Bool.eq_false_or_eq_true ((bits .andNot .u64 c.s3 2730)==0) with h3 | h3
 rotate_left
 ·have e:zao c=false:=by unfold zao;simp [h0,h1,h2,h3]
  rw [e];exact zoE c h0 h1 h2 h3 W
 rcases Bool.eq_false_or_eq_true ((bits .andNot .u64 c.s4 546)==0) with h4 | h4
 rotate_left
 ·have e:zao c=false:=by unfold zao;simp [h0,h1,h2,h3,h4]
  rw [e];exact znc c h0 h1 h2 h3 h4 W
 rcases Bool.eq_false_or_eq_true ((bits .andNot .u64 c.s5 18446744073709551613)==0) with h5 | h5
 rotate_left
 ·have e:zao c=false:=by unfold zao;simp [h0,h1,h2,h3,h4,h5]
  rw [e];exact zuP c h0 h1 h2 h3 h4 h5 W
 rcases Bool.eq_false_or_eq_true ((bits .andNot .u64 c.s10 18446744073709551613)==0) with h6 | h6
 rotate_left
 ·have e:zao c=false:=by unfold zao;simp [h0,h1,h2,h3,h4,h5,h6]
  rw [e];exact zml c h0 h1 h2 h3 h4 h5 h6 W
 rcases Bool.eq_false_or_eq_true ((bits .andNot .u64 c.s7 18446744073709551614)==0) with h7 | h7
 rotate_left
 ·have e:zao c=false:=by unfold zao;simp [h0,h1,h2,h3,h4,h5,h6,h7]
  rw [e];exact zpR c h0 h1 h2 h3 h4 h5 h6 h7 W
 rcases Bool.eq_false_or_eq_true ((bits .andNot .u64 c.s12 18446744073709551614)==0) with h8 | h8
 rotate_left
 ·have e:zao c=false:=by unfold zao;simp [h0,h1,h2,h3,h4,h5,h6,h7,h8]
  rw [e];exact zlZ c h0 h1 h2 h3 h4 h5 h6 h7 h8 W
 rcases Bool.eq_false_or_eq_true ((bits .andNot .u64 c.s15 17293840161288749055)==0) with h9 | h9
 rotate_left
 ·have e:zao c=false:=by unfold zao;simp [h0,h1,h2,h3,h4,h5,h6,h7,h8,h9]
  rw [e];exact zAM c h0 h1 h2 h3 h4 h5 h6 h7 h8 h9 W
 rcases Bool.eq_false_or_eq_true (tbB c.s15) with h10 | h10
 rotate_left
 ·have e:zao c=false:=by unfold zao;simp [h0,h1,h2,h3,h4,h5,h6,h7,h8,h9,h10]
  rw [e];exact zAg c h0 h1 h2 h3 h4 h5 h6 h7 h8 h9 h10 W
 ·have e:zao c=true:=by unfold zao;simp [h0,h1,h2,h3,h4,h5,h6,h7,h8,h9,h10]
  rw [e];exact zj0 c h0 h1 h2 h3 h4 h5 h6 h7 h8 h9 h10 W
end Go.Proofs.YtplcfdnfeclpmaaGreatDoor.Cs
namespace Go.Proofs.YtplcfdnfeclpmaaGreatDoor.Tr
open Cs (mxV)
theorem zgE (x:Int) (hx:U64 x):(stV x==x)=true ↔ bits .and .u64 x 924074=x∧twoB x=false:=by
 rw [beq_iff_eq,zjV]
 constructor
 ·intro h
  split at h
  ·rename_i ht
   have k12:=congrArg (fun y=>bitT y 12) h;simp only [zcd _ _ 12 (by omega),zbd,K12] at k12
   have e:bits .and .u64 x 924074=x:=by
    refine zci _ _ (zad _ _ _) hx fun i hi=>?_
    have k:=congrArg (fun y=>bitT y i) h;simp only [zcd _ _ i hi,zbd] at k;rw [zbd]
    revert k
    cases bitT x i <;> cases bitT 924074 i <;> simp
   rw [e] at ht;unfold twoB at ht
   simp at ht k12
   rw [ht.1] at k12;exact absurd k12 (by decide)
  ·rename_i ht
   refine ⟨h,?_⟩
   rw [h] at ht
   simpa using ht
 ·rintro ⟨h,ht⟩
  rw [h,ht];rfl
theorem zei (n v b:Int):U64 (mxV n v b):=zad _ _ _
theorem zfG (n v b:Int) (i:Nat) (hi:i<64):bitT (mxV n v b) i=(bitT n i && !bitT b i || bitT v i && bitT b i):=by
 unfold mxV;rw [zep,zcd _ _ _ hi,zbd]
theorem zpj (v:Int):(stV (stV v)==stV v)=true:=by
 rw [zgE _ (zhJ v)];rw [zjV]
 split
 ·rename_i ht
  constructor
  ·refine zci _ _ (zad _ _ _) (zad _ _ _) fun i hi=>?_
   simp only [zbd,zcd _ _ i hi];cases bitT v i <;> cases bitT 924074 i <;> cases bitT 6144 i <;> rfl
  ·unfold twoB
   rw [zcd _ _ 12 (by omega),K12]
   simp
 ·rename_i ht
  constructor
  ·refine zci _ _ (zad _ _ _) (zad _ _ _) fun i hi=>?_
   simp only [zbd];cases bitT v i <;> cases bitT 924074 i <;> rfl
  ·simpa using ht
theorem zvf (x v:Int) (hx:U64 x) (h:(stV x==x)=true):(stV (mxV x v 786722)==mxV x v 786722)=true:=by
 rw [zgE _ hx] at h;rw [zgE _ (zei _ _ _)]
 constructor
 ·refine zci _ _ (zad _ _ _) (zei _ _ _) fun i hi=>?_
  have k:=congrArg (fun y=>bitT y i) h.1;simp only [zbd] at k;rw [zbd,zfG _ _ _ i hi];have c:=cL i hi
  revert k c
  cases bitT x i <;> cases bitT v i <;> cases bitT 786722 i <;> cases bitT 924074 i <;> simp
 ·have k:=h.2
  unfold twoB at k ⊢;rw [zfG _ _ _ 12 (by omega),zfG _ _ _ 11 (by omega),L11,L12]
  revert k
  cases bitT x 12 <;> cases bitT x 11 <;> cases bitT v 12 <;> cases bitT v 11 <;> simp
theorem zyb (x v d:Int) (hx:U64 x) (hd:U64 d) (h:(bits .andNot .u64 x 2730==0)=true) (hk:(bits .andNot .u64 d 546==0)=true):(bits .andNot .u64 (mxV x v d) 2730==0)=true:=by
 refine zh0 _ _ (zei _ _ _) fun i hi=>?_
 have a:=zgT x 2730 hx h i;have b:=zgT d 546 hd hk i;have c:=c546 i hi;rw [zfG _ _ _ i hi]
 revert a b c
 cases bitT x i <;> cases bitT v i <;> cases bitT d i <;> cases bitT 546 i <;> cases bitT 2730 i <;> simp
theorem zni (x v d:Int) (hx:U64 x) (h:(bits .andNot .u64 x 546==0)=true):(bits .andNot .u64 (mxV x v (bits .and .u64 d 2)) 546==0)=true:=by
 refine zh0 _ _ (zei _ _ _) fun i hi=>?_
 have a:=zgT x 546 hx h i;have c:=c22 i hi;rw [zfG _ _ _ i hi,zbd]
 revert a c
 cases bitT x i <;> cases bitT v i <;> cases bitT d i <;> cases bitT 2 i <;> cases bitT 546 i <;> simp
theorem zze (v:Int) (hv:U64 v):tbB (bits .and .u64 v 17293840161288749055)=tbB v:=by
 rw [ziv _ (zad _ _ _),ziv _ hv,zbd,zbd,zbd,T60,T61,T62]
 simp
theorem zlg (u v:Int) (hv:U64 v) (h1:(bits .andNot .u64 u 17293840161288749055==0)=true) (h2:tbB u=true):(bits .andNot .u64 (spV u v) 17293840161288749055==0)=true∧tbB (spV u v)=true:=by
 unfold spV
 split
 ·rename_i h
  exact ⟨zdi _ _,by rw [zze _ hv];exact h⟩
 ·exact ⟨h1,h2⟩
end Go.Proofs.YtplcfdnfeclpmaaGreatDoor.Tr
namespace Go.Proofs.YtplcfdnfeclpmaaGreatDoor.Cs
theorem zbD (c:Reg) (h0:(stV c.s0==c.s0)=true) (h1:((bits .andNot .u64 c.s1 46079)==0)=true) (h2:((bits .andNot .u64 c.s2 546)==0)=true) (h3:((bits .andNot .u64 c.s3 2730)==0)=true) (h4:((bits .andNot .u64 c.s4 546)==0)=true) (h5:((bits .andNot .u64 c.s5 18446744073709551613)==0)=true) (h6:((bits .andNot .u64 c.s10 18446744073709551613)==0)=true) (h7:((bits .andNot .u64 c.s7 18446744073709551614)==0)=true) (h8:((bits .andNot .u64 c.s12 18446744073709551614)==0)=true) (h9:((bits .andNot .u64 c.s15 17293840161288749055)==0)=true) (h10:(tbB c.s15)=true):zao c=true:=by
 unfold zao;rw [h0,h1,h2,h3,h4,h5,h6,h7,h8,h9,h10];rfl
theorem zgf (c:Reg) (h:zao c=true):(stV c.s0==c.s0)=true∧((bits .andNot .u64 c.s1 46079)==0)=true∧((bits .andNot .u64 c.s2 546)==0)=true∧((bits .andNot .u64 c.s3 2730)==0)=true∧((bits .andNot .u64 c.s4 546)==0)=true∧((bits .andNot .u64 c.s5 18446744073709551613)==0)=true∧((bits .andNot .u64 c.s10 18446744073709551613)==0)=true∧((bits .andNot .u64 c.s7 18446744073709551614)==0)=true∧((bits .andNot .u64 c.s12 18446744073709551614)==0)=true∧((bits .andNot .u64 c.s15 17293840161288749055)==0)=true∧(tbB c.s15)=true:=by
 unfold zao at h;simp only [Bool.and_eq_true] at h;simp only [and_assoc] at h;exact h
theorem zb7 (c r:Reg) (h:zao c=true) (f:(stV c.s0==c.s0)=true→((bits .andNot .u64 c.s1 46079)==0)=true→((bits .andNot .u64 c.s2 546)==0)=true→((bits .andNot .u64 c.s3 2730)==0)=true→((bits .andNot .u64 c.s4 546)==0)=true→((bits .andNot .u64 c.s5 18446744073709551613)==0)=true→((bits .andNot .u64 c.s10 18446744073709551613)==0)=true→((bits .andNot .u64 c.s7 18446744073709551614)==0)=true→((bits .andNot .u64 c.s12 18446744073709551614)==0)=true→((bits .andNot .u64 c.s15 17293840161288749055)==0)=true→(tbB c.s15)=true→zao r=true):zao r=true:=by
 obtain ⟨h0,h1,h2,h3,h4,h5,h6,h7,h8,h9,h10⟩:=zgf c h;exact f h0 h1 h2 h3 h4 h5 h6 h7 h8 h9 h10
end Go.Proofs.YtplcfdnfeclpmaaGreatDoor.Cs
