/- MachineNumbers, part 36. -/
import Derived.Test.YtplcfdnfeclpmaaGreatDoorV07
import Derived.Test.YtplcfdnfeclpmaaGreatDoorV16
set_option maxHeartbeats 4000000
set_option maxRecDepth 100000
open Go.Lib (hid)
open Go Go.RowKit Go.Deep Go.Joins Go.Proofs.Tryz
namespace Go.Proofs.YtplcfdnfeclpmaaGreatDoor.Cs
theorem nigh {n:Nat} {a b:World} (h:Below n a b:=by repeat (first | with_reducible exact Below.refl _ _ | with_reducible refine Below.drew ?_ | with_reducible refine Below.alloc ?_ (by first | exact Nat.le_refl _ | simp | (simp;omega)) _ | with_reducible refine Below.setCell ?_ (by first | exact Nat.le_refl _ | simp | (simp;omega)) _)):Below n a b:=h
theorem zvp (c:Reg) (m n l k:Int) (hm:decide (zaz n≤m)=false) (W:World):TB 108 #[regV c,.int .i64 m,.int .i64 n,.int .u64 l,.int .u64 k] W (.tuple #[.int .u64 0,.bool false]):=by
 go_enter func108,ntmps108;go_wp2_with (go_at_call 148;with_reducible refine (za8 m n false hm _).tq ?_);go_ret2;exact ⟨rfl,by repeat (first | with_reducible exact Below.refl _ _ | with_reducible refine Below.drew ?_ | with_reducible refine Below.alloc ?_ (by first | exact Nat.le_refl _ | simp | (simp;omega)) _ | with_reducible refine Below.setCell ?_ (by first | exact Nat.le_refl _ | simp | (simp;omega)) _)⟩
theorem zuB (c:Reg) (m n l k:Int) (hm:decide (zaz n≤m)=true) (h100:(n==256)=false) (h104:(n==260)=false) (h105:(n==261)=false) (h140:(n==320)=false) (h141:(n==321)=false) (h142:(n==322)=false) (h143:(n==323)=false) (h144:(n==324)=false) (h180:(n==384)=false) (h300:(n==768)=false) (h301:(n==769)=false) (h302:(n==770)=false) (h303:(n==771)=false) (h304:(n==772)=false) (h305:(n==773)=false) (h340:(n==832)=false) (h341:(n==833)=false) (h342:(n==834)=false) (h343:(n==835)=false) (h344:(n==836)=false) (hb00:(n==2816)=false) (hb02:(n==2818)=false) (hc00:(n==3072)=false) (hc01:(n==3073)=false) (hc02:(n==3074)=false) (hf11:(n==3857)=false) (hf12:(n==3858)=false) (hf13:(n==3859)=false) (hf14:(n==3860)=false) (W:World):TB 108 #[regV c,.int .i64 m,.int .i64 n,.int .u64 l,.int .u64 k] W (.tuple #[.int .u64 0,.bool false]):=by
 go_enter func108,ntmps108;go_wp2_with ((first | (go_at_call 148;with_reducible refine (za8 m n true hm _).tq ?_) | (go_at_call 149;with_reducible refine (zcD _ n h300 h302 h303 h304 h305 h340 h341 h342 h343 h105 h140 h141 h142 h143 h180 _).tq ?_)));go_ret2;exact ⟨rfl,by repeat (first | with_reducible exact Below.refl _ _ | with_reducible refine Below.drew ?_ | with_reducible refine Below.alloc ?_ (by first | exact Nat.le_refl _ | simp | (simp;omega)) _ | with_reducible refine Below.setCell ?_ (by first | exact Nat.le_refl _ | simp | (simp;omega)) _)⟩
theorem zph (c:Reg) (m l k:Int) (hm:decide (zaz 256≤m)=true) (W:World):TB 108 #[regV c,.int .i64 m,.int .i64 256,.int .u64 l,.int .u64 k] W (.tuple #[.int .u64 (bits .and .u64 c.s0 786722),.bool true]):=by
 go_enter func108,ntmps108;go_wp2_with ((first | (go_at_call 148;with_reducible refine (za8 m 256 true hm _).tq ?_) | (go_at_call 149;with_reducible refine (zi6 _ _).tq ?_)))
 all_goals go_ret2
 all_goals exact ⟨rfl,nigh⟩
theorem zuq (c:Reg) (m l k:Int) (hm:decide (zaz 260≤m)=true) (W:World):TB 108 #[regV c,.int .i64 m,.int .i64 260,.int .u64 l,.int .u64 k] W (.tuple #[.int .u64 (bits .and .u64 c.s3 c.s2),.bool true]):=by
 go_enter func108,ntmps108;go_wp2_with ((first | (go_at_call 148;with_reducible refine (za8 m 260 true hm _).tq ?_) | (go_at_call 149;with_reducible refine (zjF _ _).tq ?_)))
 all_goals go_ret2
 all_goals exact ⟨rfl,nigh⟩
theorem zzi (c:Reg) (m l k:Int) (hm:decide (zaz 261≤m)=true) (W:World):TB 108 #[regV c,.int .i64 m,.int .i64 261,.int .u64 l,.int .u64 k] W (.tuple #[.int .u64 c.s10,.bool true]):=by
 go_enter func108,ntmps108;go_wp2_with ((first | (go_at_call 148;with_reducible refine (za8 m 261 true hm _).tq ?_) | (go_at_call 149;with_reducible refine (zkg _ _).tq ?_)))
 all_goals go_ret2
 all_goals exact ⟨rfl,nigh⟩
theorem zvM (c:Reg) (m l k:Int) (hm:decide (zaz 320≤m)=true) (W:World):TB 108 #[regV c,.int .i64 m,.int .i64 320,.int .u64 l,.int .u64 k] W (.tuple #[.int .u64 c.s11,.bool true]):=by
 go_enter func108,ntmps108;go_wp2_with ((first | (go_at_call 148;with_reducible refine (za8 m 320 true hm _).tq ?_) | (go_at_call 149;with_reducible refine (zih _ _).tq ?_)))
 all_goals go_ret2
 all_goals exact ⟨rfl,nigh⟩
theorem zp9 (c:Reg) (m l k:Int) (hm:decide (zaz 321≤m)=true) (W:World):TB 108 #[regV c,.int .i64 m,.int .i64 321,.int .u64 l,.int .u64 k] W (.tuple #[.int .u64 c.s12,.bool true]):=by
 go_enter func108,ntmps108;go_wp2_with ((first | (go_at_call 148;with_reducible refine (za8 m 321 true hm _).tq ?_) | (go_at_call 149;with_reducible refine (zio _ _).tq ?_)))
 all_goals go_ret2
 all_goals exact ⟨rfl,nigh⟩
theorem zlM (c:Reg) (m l k:Int) (hm:decide (zaz 322≤m)=true) (W:World):TB 108 #[regV c,.int .i64 m,.int .i64 322,.int .u64 l,.int .u64 k] W (.tuple #[.int .u64 c.s13,.bool true]):=by
 go_enter func108,ntmps108;go_wp2_with ((first | (go_at_call 148;with_reducible refine (za8 m 322 true hm _).tq ?_) | (go_at_call 149;with_reducible refine (zjW _ _).tq ?_)))
 all_goals go_ret2
 all_goals exact ⟨rfl,nigh⟩
theorem zzm (c:Reg) (m l k:Int) (hm:decide (zaz 323≤m)=true) (W:World):TB 108 #[regV c,.int .i64 m,.int .i64 323,.int .u64 l,.int .u64 k] W (.tuple #[.int .u64 c.s14,.bool true]):=by
 go_enter func108,ntmps108;go_wp2_with ((first | (go_at_call 148;with_reducible refine (za8 m 323 true hm _).tq ?_) | (go_at_call 149;with_reducible refine (zj8 _ _).tq ?_)))
 all_goals go_ret2
 all_goals exact ⟨rfl,nigh⟩
theorem zvK (c:Reg) (m l k:Int) (hm:decide (zaz 324≤m)=true) (W:World):TB 108 #[regV c,.int .i64 m,.int .i64 324,.int .u64 l,.int .u64 k] W (.tuple #[.int .u64 (bits .and .u64 (rsV c.s4 l) c.s2),.bool true]):=by
 go_enter func108,ntmps108;go_wp2_with ((first | (go_at_call 148;with_reducible refine (za8 m 324 true hm _).tq ?_) | (go_at_call 149;with_reducible refine (ziO _ _).tq ?_)))
 go_region_with (first | (go_at_call 150;(with_reducible refine (zks c l _).mono ?_);rintro e w' ⟨rfl,rfl⟩))
 all_goals go_wp2
 all_goals go_ret2
 all_goals exact ⟨rfl,nigh⟩
theorem zlp (c:Reg) (m l k:Int) (hm:decide (zaz 384≤m)=true) (W:World):TB 108 #[regV c,.int .i64 m,.int .i64 384,.int .u64 l,.int .u64 k] W (.tuple #[.int .u64 c.s15,.bool true]):=by
 go_enter func108,ntmps108;go_wp2_with ((first | (go_at_call 148;with_reducible refine (za8 m 384 true hm _).tq ?_) | (go_at_call 149;with_reducible refine (zjq _ _).tq ?_)))
 all_goals go_ret2
 all_goals exact ⟨rfl,nigh⟩
theorem zu6 (c:Reg) (m l k:Int) (hm:decide (zaz 768≤m)=true) (W:World):TB 108 #[regV c,.int .i64 m,.int .i64 768,.int .u64 l,.int .u64 k] W (.tuple #[.int .u64 c.s0,.bool true]):=by
 go_enter func108,ntmps108;go_wp2_with ((first | (go_at_call 148;with_reducible refine (za8 m 768 true hm _).tq ?_) | (go_at_call 149;with_reducible refine (ziq _ _).tq ?_)))
 all_goals go_ret2
 all_goals exact ⟨rfl,nigh⟩
theorem znp (c:Reg) (m l k:Int) (hm:decide (zaz 769≤m)=true) (W:World):TB 108 #[regV c,.int .i64 m,.int .i64 769,.int .u64 l,.int .u64 k] W (.tuple #[.int .u64 9223372036856090885,.bool true]):=by
 go_enter func108,ntmps108;go_wp2_with ((first | (go_at_call 148;with_reducible refine (za8 m 769 true hm _).tq ?_) | (go_at_call 149;with_reducible refine (zjj _ _).tq ?_)))
 all_goals go_ret2
 all_goals exact ⟨rfl,nigh⟩
theorem zpH (c:Reg) (m l k:Int) (hm:decide (zaz 770≤m)=true) (W:World):TB 108 #[regV c,.int .i64 m,.int .i64 770,.int .u64 l,.int .u64 k] W (.tuple #[.int .u64 c.s1,.bool true]):=by
 go_enter func108,ntmps108;go_wp2_with ((first | (go_at_call 148;with_reducible refine (za8 m 770 true hm _).tq ?_) | (go_at_call 149;with_reducible refine (zj2 _ _).tq ?_)))
 all_goals go_ret2
 all_goals exact ⟨rfl,nigh⟩
theorem zq3 (c:Reg) (m l k:Int) (hm:decide (zaz 771≤m)=true) (W:World):TB 108 #[regV c,.int .i64 m,.int .i64 771,.int .u64 l,.int .u64 k] W (.tuple #[.int .u64 c.s2,.bool true]):=by
 go_enter func108,ntmps108;go_wp2_with ((first | (go_at_call 148;with_reducible refine (za8 m 771 true hm _).tq ?_) | (go_at_call 149;with_reducible refine (zjZ _ _).tq ?_)))
 all_goals go_ret2
 all_goals exact ⟨rfl,nigh⟩
theorem zvP (c:Reg) (m l k:Int) (hm:decide (zaz 772≤m)=true) (W:World):TB 108 #[regV c,.int .i64 m,.int .i64 772,.int .u64 l,.int .u64 k] W (.tuple #[.int .u64 c.s3,.bool true]):=by
 go_enter func108,ntmps108;go_wp2_with ((first | (go_at_call 148;with_reducible refine (za8 m 772 true hm _).tq ?_) | (go_at_call 149;with_reducible refine (zil _ _).tq ?_)))
 all_goals go_ret2
 all_goals exact ⟨rfl,nigh⟩
theorem zuG (c:Reg) (m l k:Int) (hm:decide (zaz 773≤m)=true) (W:World):TB 108 #[regV c,.int .i64 m,.int .i64 773,.int .u64 l,.int .u64 k] W (.tuple #[.int .u64 c.s5,.bool true]):=by
 go_enter func108,ntmps108;go_wp2_with ((first | (go_at_call 148;with_reducible refine (za8 m 773 true hm _).tq ?_) | (go_at_call 149;with_reducible refine (zkD _ _).tq ?_)))
 all_goals go_ret2
 all_goals exact ⟨rfl,nigh⟩
theorem zsc (c:Reg) (m l k:Int) (hm:decide (zaz 832≤m)=true) (W:World):TB 108 #[regV c,.int .i64 m,.int .i64 832,.int .u64 l,.int .u64 k] W (.tuple #[.int .u64 c.s6,.bool true]):=by
 go_enter func108,ntmps108;go_wp2_with ((first | (go_at_call 148;with_reducible refine (za8 m 832 true hm _).tq ?_) | (go_at_call 149;with_reducible refine (ziQ _ _).tq ?_)))
 all_goals go_ret2
 all_goals exact ⟨rfl,nigh⟩
theorem zlU (c:Reg) (m l k:Int) (hm:decide (zaz 833≤m)=true) (W:World):TB 108 #[regV c,.int .i64 m,.int .i64 833,.int .u64 l,.int .u64 k] W (.tuple #[.int .u64 c.s7,.bool true]):=by
 go_enter func108,ntmps108;go_wp2_with ((first | (go_at_call 148;with_reducible refine (za8 m 833 true hm _).tq ?_) | (go_at_call 149;with_reducible refine (zk1 _ _).tq ?_)))
 all_goals go_ret2
 all_goals exact ⟨rfl,nigh⟩
theorem zts (c:Reg) (m l k:Int) (hm:decide (zaz 834≤m)=true) (W:World):TB 108 #[regV c,.int .i64 m,.int .i64 834,.int .u64 l,.int .u64 k] W (.tuple #[.int .u64 c.s8,.bool true]):=by
 go_enter func108,ntmps108;go_wp2_with ((first | (go_at_call 148;with_reducible refine (za8 m 834 true hm _).tq ?_) | (go_at_call 149;with_reducible refine (zk7 _ _).tq ?_)))
 all_goals go_ret2
 all_goals exact ⟨rfl,nigh⟩
theorem zzD (c:Reg) (m l k:Int) (hm:decide (zaz 835≤m)=true) (W:World):TB 108 #[regV c,.int .i64 m,.int .i64 835,.int .u64 l,.int .u64 k] W (.tuple #[.int .u64 c.s9,.bool true]):=by
 go_enter func108,ntmps108;go_wp2_with ((first | (go_at_call 148;with_reducible refine (za8 m 835 true hm _).tq ?_) | (go_at_call 149;with_reducible refine (ziG _ _).tq ?_)))
 all_goals go_ret2
 all_goals exact ⟨rfl,nigh⟩
theorem zxY (c:Reg) (m l k:Int) (hm:decide (zaz 836≤m)=true) (W:World):TB 108 #[regV c,.int .i64 m,.int .i64 836,.int .u64 l,.int .u64 k] W (.tuple #[.int .u64 (rsV c.s4 l),.bool true]):=by
 go_enter func108,ntmps108;go_wp2_with ((first | (go_at_call 148;with_reducible refine (za8 m 836 true hm _).mono ?_) | (go_at_call 149;with_reducible refine (zjR _ _).mono ?_) | (go_at_call 150;with_reducible refine (zks c l _).mono ?_));rintro e w' ⟨rfl,rfl⟩)
 all_goals go_ret2
 all_goals exact ⟨rfl,nigh⟩
theorem zto (c:Reg) (m l k:Int) (hm:decide (zaz 2816≤m)=true) (W:World):TB 108 #[regV c,.int .i64 m,.int .i64 2816,.int .u64 l,.int .u64 k] W (.tuple #[.int .u64 k,.bool true]):=by
 go_enter func108,ntmps108;go_wp2_with ((first | (go_at_call 148;with_reducible refine (za8 m 2816 true hm _).tq ?_) | (go_at_call 149;with_reducible refine (zjx _ _).tq ?_)))
 all_goals go_ret2
 all_goals exact ⟨rfl,nigh⟩
theorem zvq (c:Reg) (m l k:Int) (hm:decide (zaz 2818≤m)=true) (W:World):TB 108 #[regV c,.int .i64 m,.int .i64 2818,.int .u64 l,.int .u64 k] W (.tuple #[.int .u64 k,.bool true]):=by
 go_enter func108,ntmps108;go_wp2_with ((first | (go_at_call 148;with_reducible refine (za8 m 2818 true hm _).tq ?_) | (go_at_call 149;with_reducible refine (zji _ _).tq ?_)))
 all_goals go_ret2
 all_goals exact ⟨rfl,nigh⟩
theorem zm0 (c:Reg) (m l k:Int) (hm:decide (zaz 3072≤m)=true) (W:World):TB 108 #[regV c,.int .i64 m,.int .i64 3072,.int .u64 l,.int .u64 k] W (.tuple #[.int .u64 k,.bool true]):=by
 go_enter func108,ntmps108;go_wp2_with ((first | (go_at_call 148;with_reducible refine (za8 m 3072 true hm _).tq ?_) | (go_at_call 149;with_reducible refine (zzw _ _).tq ?_)))
 all_goals go_ret2
 all_goals exact ⟨rfl,nigh⟩
theorem znx (c:Reg) (m l k:Int) (hm:decide (zaz 3073≤m)=true) (W:World):TB 108 #[regV c,.int .i64 m,.int .i64 3073,.int .u64 l,.int .u64 k] W (.tuple #[.int .u64 k,.bool true]):=by
 go_enter func108,ntmps108;go_wp2_with ((first | (go_at_call 148;with_reducible refine (za8 m 3073 true hm _).tq ?_) | (go_at_call 149;with_reducible refine (zoa _ _).tq ?_)))
 all_goals go_ret2
 all_goals exact ⟨rfl,nigh⟩
theorem zuA (c:Reg) (m l k:Int) (hm:decide (zaz 3074≤m)=true) (W:World):TB 108 #[regV c,.int .i64 m,.int .i64 3074,.int .u64 l,.int .u64 k] W (.tuple #[.int .u64 k,.bool true]):=by
 go_enter func108,ntmps108;go_wp2_with ((first | (go_at_call 148;with_reducible refine (za8 m 3074 true hm _).tq ?_) | (go_at_call 149;with_reducible refine (zmS _ _).tq ?_)))
 all_goals go_ret2
 all_goals exact ⟨rfl,nigh⟩
theorem zsf (c:Reg) (m l k:Int) (hm:decide (zaz 3857≤m)=true) (W:World):TB 108 #[regV c,.int .i64 m,.int .i64 3857,.int .u64 l,.int .u64 k] W (.tuple #[.int .u64 0,.bool true]):=by
 go_enter func108,ntmps108;go_wp2_with ((first | (go_at_call 148;with_reducible refine (za8 m 3857 true hm _).tq ?_) | (go_at_call 149;with_reducible refine (zsB _ _).tq ?_)))
 all_goals go_ret2
 all_goals exact ⟨rfl,nigh⟩
theorem zyM (c:Reg) (m l k:Int) (hm:decide (zaz 3858≤m)=true) (W:World):TB 108 #[regV c,.int .i64 m,.int .i64 3858,.int .u64 l,.int .u64 k] W (.tuple #[.int .u64 0,.bool true]):=by
 go_enter func108,ntmps108;go_wp2_with ((first | (go_at_call 148;with_reducible refine (za8 m 3858 true hm _).tq ?_) | (go_at_call 149;with_reducible refine (zrb _ _).tq ?_)))
 all_goals go_ret2
 all_goals exact ⟨rfl,nigh⟩
theorem zxZ (c:Reg) (m l k:Int) (hm:decide (zaz 3859≤m)=true) (W:World):TB 108 #[regV c,.int .i64 m,.int .i64 3859,.int .u64 l,.int .u64 k] W (.tuple #[.int .u64 0,.bool true]):=by
 go_enter func108,ntmps108;go_wp2_with ((first | (go_at_call 148;with_reducible refine (za8 m 3859 true hm _).tq ?_) | (go_at_call 149;with_reducible refine (zxm _ _).tq ?_)))
 all_goals go_ret2
 all_goals exact ⟨rfl,nigh⟩
theorem zx4 (c:Reg) (m l k:Int) (hm:decide (zaz 3860≤m)=true) (W:World):TB 108 #[regV c,.int .i64 m,.int .i64 3860,.int .u64 l,.int .u64 k] W (.tuple #[.int .u64 0,.bool true]):=by
 go_enter func108,ntmps108;go_wp2_with ((first | (go_at_call 148;with_reducible refine (za8 m 3860 true hm _).tq ?_) | (go_at_call 149;with_reducible refine (zsm _ _).tq ?_)))
 all_goals go_ret2
 all_goals exact ⟨rfl,nigh⟩
end Go.Proofs.YtplcfdnfeclpmaaGreatDoor.Cs
namespace Go.Proofs.YtplcfdnfeclpmaaGreatDoor.Cs
theorem zep {B:Nat} {a w:World} (h:Below B a w) (n:Nat):Below B a (w.drewN n):=⟨h.os,h.tape,h.output,h.size,h.block⟩
end Go.Proofs.YtplcfdnfeclpmaaGreatDoor.Cs

namespace Go.Proofs.YtplcfdnfeclpmaaGreatDoor.Cs
theorem zu9 (c:Reg) (h0:(stV c.s0==c.s0)=true) (h1:((bits .andNot .u64 c.s1 46079)==0)=true) (h2:((bits .andNot .u64 c.s2 546)==0)=true) (h3:((bits .andNot .u64 c.s3 2730)==0)=true) (h4:((bits .andNot .u64 c.s4 546)==0)=true) (h5:((bits .andNot .u64 c.s5 18446744073709551613)==0)=true) (h6:((bits .andNot .u64 c.s10 18446744073709551613)==0)=true) (h7:((bits .andNot .u64 c.s7 18446744073709551614)==0)=true) (h8:((bits .andNot .u64 c.s12 18446744073709551614)==0)=true) (h9:((bits .andNot .u64 c.s15 17293840161288749055)==0)=true) (h10:(tbB c.s15)=true) (W:World):TB 30 #[regV c] W (.bool true):=by
 go_enter func30,ntmps30;go_wp2_with fail
 go_quiet (first | (go_at_call 52;exact Calls.quiet_of_same ((zcN _ _).mono fun _ _ h=>And.intro h.1 h.2.symm)) | (go_at_call 53;exact Calls.quiet_of_same ((zeC _ _ _).mono fun _ _ h=>And.intro h.1 h.2.symm)) | (go_at_call 54;exact Calls.quiet_of_same ((zhn _ _).mono fun _ _ h=>And.intro h.1 h.2.symm)))
 go_wp2
 go_ret;exact ⟨rfl,zep ((Below.refl _ _).alloc (Nat.le_refl _) _) _⟩
end Go.Proofs.YtplcfdnfeclpmaaGreatDoor.Cs
namespace Go.Proofs.YtplcfdnfeclpmaaGreatDoor.Cs
def zax (c:Reg):Bool:=(stV c.s0==c.s0) && ((bits .andNot .u64 c.s1 46079)==0) && ((bits .andNot .u64 c.s2 546)==0) && ((bits .andNot .u64 c.s3 2730)==0) && ((bits .andNot .u64 c.s4 546)==0) && ((bits .andNot .u64 c.s5 18446744073709551613)==0) && ((bits .andNot .u64 c.s10 18446744073709551613)==0) && ((bits .andNot .u64 c.s7 18446744073709551614)==0) && ((bits .andNot .u64 c.s12 18446744073709551614)==0) && ((bits .andNot .u64 c.s15 17293840161288749055)==0) && (tbB c.s15)
end Go.Proofs.YtplcfdnfeclpmaaGreatDoor.Cs
namespace Go.Proofs.YtplcfdnfeclpmaaGreatDoor.Tr
open Cs (mxV)
theorem zgM (x:Int) (hx:U64 x):(stV x==x)=true ↔ bits .and .u64 x 924074=x∧twoB x=false:=by
 rw [beq_iff_eq,zig]
 constructor
 ·intro h
  split at h
  ·rename_i ht
   have k12:=congrArg (fun y=>bitT y 12) h;simp only [zb8 _ _ 12 (by omega),zbc,K12] at k12
   have e:bits .and .u64 x 924074=x:=by
    refine zce _ _ (zae _ _ _) hx fun i hi=>?_
    have k:=congrArg (fun y=>bitT y i) h;simp only [zb8 _ _ i hi,zbc] at k;rw [zbc]
    revert k
    cases bitT x i <;> cases bitT 924074 i <;> simp
   rw [e] at ht;unfold twoB at ht
   simp at ht k12
   rw [ht.1] at k12;exact absurd k12 (by decide)
  ·rename_i ht
   refine ⟨h,?_⟩
   rw [h] at ht
   simpa using ht
 ·rintro ⟨h,ht⟩
  rw [h,ht];rfl
theorem zed (n v b:Int):U64 (mxV n v b):=zae _ _ _
theorem zf3 (n v b:Int) (i:Nat) (hi:i<64):bitT (mxV n v b) i=(bitT n i && !bitT b i || bitT v i && bitT b i):=by
 unfold mxV;rw [zd8,zb8 _ _ _ hi,zbc]
theorem zrz (v:Int):(stV (stV v)==stV v)=true:=by
 rw [zgM _ (zhz v)];rw [zig]
 split
 ·rename_i ht
  constructor
  ·refine zce _ _ (zae _ _ _) (zae _ _ _) fun i hi=>?_
   simp only [zbc,zb8 _ _ i hi];cases bitT v i <;> cases bitT 924074 i <;> cases bitT 6144 i <;> rfl
  ·unfold twoB
   rw [zb8 _ _ 12 (by omega),K12]
   simp
 ·rename_i ht
  constructor
  ·refine zce _ _ (zae _ _ _) (zae _ _ _) fun i hi=>?_
   simp only [zbc];cases bitT v i <;> cases bitT 924074 i <;> rfl
  ·simpa using ht
theorem zsG (x v:Int) (hx:U64 x) (h:(stV x==x)=true):(stV (mxV x v 786722)==mxV x v 786722)=true:=by
 rw [zgM _ hx] at h;rw [zgM _ (zed _ _ _)]
 constructor
 ·refine zce _ _ (zae _ _ _) (zed _ _ _) fun i hi=>?_
  have k:=congrArg (fun y=>bitT y i) h.1;simp only [zbc] at k;rw [zbc,zf3 _ _ _ i hi];have c:=cL i hi
  revert k c
  cases bitT x i <;> cases bitT v i <;> cases bitT 786722 i <;> cases bitT 924074 i <;> simp
 ·have k:=h.2
  unfold twoB at k ⊢;rw [zf3 _ _ _ 12 (by omega),zf3 _ _ _ 11 (by omega),L11,L12]
  revert k
  cases bitT x 12 <;> cases bitT x 11 <;> cases bitT v 12 <;> cases bitT v 11 <;> simp
theorem zxh (x v d:Int) (hx:U64 x) (hd:U64 d) (h:(bits .andNot .u64 x 2730==0)=true) (hk:(bits .andNot .u64 d 546==0)=true):(bits .andNot .u64 (mxV x v d) 2730==0)=true:=by
 refine zhp _ _ (zed _ _ _) fun i hi=>?_
 have a:=zgz x 2730 hx h i;have b:=zgz d 546 hd hk i;have c:=c546 i hi;rw [zf3 _ _ _ i hi]
 revert a b c
 cases bitT x i <;> cases bitT v i <;> cases bitT d i <;> cases bitT 546 i <;> cases bitT 2730 i <;> simp
theorem zqu (x v d:Int) (hx:U64 x) (h:(bits .andNot .u64 x 546==0)=true):(bits .andNot .u64 (mxV x v (bits .and .u64 d 2)) 546==0)=true:=by
 refine zhp _ _ (zed _ _ _) fun i hi=>?_
 have a:=zgz x 546 hx h i;have c:=c22 i hi;rw [zf3 _ _ _ i hi,zbc]
 revert a c
 cases bitT x i <;> cases bitT v i <;> cases bitT d i <;> cases bitT 2 i <;> cases bitT 546 i <;> simp
theorem zza (v:Int) (hv:U64 v):tbB (bits .and .u64 v 17293840161288749055)=tbB v:=by
 rw [zi9 _ (zae _ _ _),zi9 _ hv,zbc,zbc,zbc,T60,T61,T62]
 simp
theorem zh9 (u v:Int) (hv:U64 v) (h1:(bits .andNot .u64 u 17293840161288749055==0)=true) (h2:tbB u=true):(bits .andNot .u64 (spV u v) 17293840161288749055==0)=true∧tbB (spV u v)=true:=by
 unfold spV
 split
 ·rename_i h
  exact ⟨zc9 _ _,by rw [zza _ hv];exact h⟩
 ·exact ⟨h1,h2⟩
end Go.Proofs.YtplcfdnfeclpmaaGreatDoor.Tr
namespace Go.Proofs.YtplcfdnfeclpmaaGreatDoor.Cs
theorem zbw (c:Reg) (h0:(stV c.s0==c.s0)=true) (h1:((bits .andNot .u64 c.s1 46079)==0)=true) (h2:((bits .andNot .u64 c.s2 546)==0)=true) (h3:((bits .andNot .u64 c.s3 2730)==0)=true) (h4:((bits .andNot .u64 c.s4 546)==0)=true) (h5:((bits .andNot .u64 c.s5 18446744073709551613)==0)=true) (h6:((bits .andNot .u64 c.s10 18446744073709551613)==0)=true) (h7:((bits .andNot .u64 c.s7 18446744073709551614)==0)=true) (h8:((bits .andNot .u64 c.s12 18446744073709551614)==0)=true) (h9:((bits .andNot .u64 c.s15 17293840161288749055)==0)=true) (h10:(tbB c.s15)=true):zax c=true:=by
 unfold zax;rw [h0,h1,h2,h3,h4,h5,h6,h7,h8,h9,h10];rfl
theorem zgW (c:Reg) (h:zax c=true):(stV c.s0==c.s0)=true∧((bits .andNot .u64 c.s1 46079)==0)=true∧((bits .andNot .u64 c.s2 546)==0)=true∧((bits .andNot .u64 c.s3 2730)==0)=true∧((bits .andNot .u64 c.s4 546)==0)=true∧((bits .andNot .u64 c.s5 18446744073709551613)==0)=true∧((bits .andNot .u64 c.s10 18446744073709551613)==0)=true∧((bits .andNot .u64 c.s7 18446744073709551614)==0)=true∧((bits .andNot .u64 c.s12 18446744073709551614)==0)=true∧((bits .andNot .u64 c.s15 17293840161288749055)==0)=true∧(tbB c.s15)=true:=by
 unfold zax at h;simp only [Bool.and_eq_true] at h;simp only [and_assoc] at h;exact h
theorem zb3 (c r:Reg) (h:zax c=true) (f:(stV c.s0==c.s0)=true→((bits .andNot .u64 c.s1 46079)==0)=true→((bits .andNot .u64 c.s2 546)==0)=true→((bits .andNot .u64 c.s3 2730)==0)=true→((bits .andNot .u64 c.s4 546)==0)=true→((bits .andNot .u64 c.s5 18446744073709551613)==0)=true→((bits .andNot .u64 c.s10 18446744073709551613)==0)=true→((bits .andNot .u64 c.s7 18446744073709551614)==0)=true→((bits .andNot .u64 c.s12 18446744073709551614)==0)=true→((bits .andNot .u64 c.s15 17293840161288749055)==0)=true→(tbB c.s15)=true→zax r=true):zax r=true:=by
 obtain ⟨h0,h1,h2,h3,h4,h5,h6,h7,h8,h9,h10⟩:=zgW c h;exact f h0 h1 h2 h3 h4 h5 h6 h7 h8 h9 h10
end Go.Proofs.YtplcfdnfeclpmaaGreatDoor.Cs
