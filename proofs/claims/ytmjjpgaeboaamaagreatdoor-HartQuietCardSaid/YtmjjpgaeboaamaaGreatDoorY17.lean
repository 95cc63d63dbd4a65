/- HartQuiet,part 17. -/
import Derived.Test.YtmjjpgaeboaamaaGreatDoorY16
set_option maxHeartbeats 4000000
set_option maxRecDepth 100000
open Go.Lib (hid)
namespace Go.Proofs.YtmjjpgaeboaamaaGreatDoor.Cs
open Go.RowKit Go.Deep Go.Joins
set_option maxRecDepth 100000
theorem zpT (c:Reg) (m v:Int) (hm:decide (zaz 256≤m)=true) (W:World):TB 153 #[regV c,.int .i64 m,.int .i64 256,.int .u64 v] W (.tuple #[.agg #[.int .u64 (mxV c.s0 v 786722),.int .u64 c.s1,.int .u64 c.s2,.int .u64 c.s3,.int .u64 c.s4,.int .u64 c.s5,.int .u64 c.s6,.int .u64 c.s7,.int .u64 c.s8,.int .u64 c.s9,.int .u64 c.s10,.int .u64 c.s11,.int .u64 c.s12,.int .u64 c.s13,.int .u64 c.s14,.int .u64 c.s15],.bool true]):=by
 go_enter Tryz.func153,Tryz.ntmps153
 go_upto_region 20 with (first | ((first | (go_at_call 225;with_reducible refine (zbK m 256 true hm (by decide) _).mono ?_) | (go_at_call 222;with_reducible refine (zh2 _ _).mono ?_) | (go_at_call 227;with_reducible refine (zgX _ _ _ _).mono ?_));rintro e w' ⟨rfl,rfl⟩) | fail)
 refine wp_region_lit ?_
 refine zbz rfl 25 (.tmp 4) rfl _ (regV ({ c with s0:=(mxV c.s0 v 786722) }:Reg)) rfl (zbs _ _ ({ c with s0:=(mxV c.s0 v 786722) }:Reg) (zby W _ _)) ?_
 refine zbA rfl 25 (.tmp 8) (.tmp 66) rfl _ (regV ({ c with s0:=(mxV c.s0 v 786722) }:Reg)) rfl rfl (store_at _ _ _ ({ c with s0:=(mxV c.s0 v 786722) }:Reg) (zaQ W _ _) rfl) ?_
 go_wp2
 refine bodyPost_ret (v:=.tuple #[.agg #[.int .u64 (mxV c.s0 v 786722),.int .u64 c.s1,.int .u64 c.s2,.int .u64 c.s3,.int .u64 c.s4,.int .u64 c.s5,.int .u64 c.s6,.int .u64 c.s7,.int .u64 c.s8,.int .u64 c.s9,.int .u64 c.s10,.int .u64 c.s11,.int .u64 c.s12,.int .u64 c.s13,.int .u64 c.s14,.int .u64 c.s15],.bool true]) (by rw [results_cell_tmp Tryz.results153];simp [asAddr,Result.andThen,zbw _ _ _ ({ c with s0:=(mxV c.s0 v 786722) }:Reg) (zaQ W _ _)]) rfl ?_
 exact ⟨rfl,za9 W _ _ _⟩
theorem zxu (c:Reg) (m v:Int) (hm:decide (zaz 260≤m)=true) (W:World):TB 153 #[regV c,.int .i64 m,.int .i64 260,.int .u64 v] W (.tuple #[.agg #[.int .u64 c.s0,.int .u64 c.s1,.int .u64 c.s2,.int .u64 (mxV c.s3 v c.s2),.int .u64 c.s4,.int .u64 c.s5,.int .u64 c.s6,.int .u64 c.s7,.int .u64 c.s8,.int .u64 c.s9,.int .u64 c.s10,.int .u64 c.s11,.int .u64 c.s12,.int .u64 c.s13,.int .u64 c.s14,.int .u64 c.s15],.bool true]):=by
 go_enter Tryz.func153,Tryz.ntmps153
 go_upto_region 20 with (first | ((first | (go_at_call 225;with_reducible refine (zbK m 260 true hm (by decide) _).mono ?_) | (go_at_call 222;with_reducible refine (ziv _ _).mono ?_) | (go_at_call 227;with_reducible refine (zgX _ _ _ _).mono ?_));rintro e w' ⟨rfl,rfl⟩) | fail)
 refine wp_region_lit ?_
 refine zbz rfl 25 (.tmp 4) rfl _ (regV ({ c with s3:=(mxV c.s3 v c.s2) }:Reg)) rfl (zbs _ _ ({ c with s3:=(mxV c.s3 v c.s2) }:Reg) (zby W _ _)) ?_
 refine zbA rfl 25 (.tmp 8) (.tmp 66) rfl _ (regV ({ c with s3:=(mxV c.s3 v c.s2) }:Reg)) rfl rfl (store_at _ _ _ ({ c with s3:=(mxV c.s3 v c.s2) }:Reg) (zaQ W _ _) rfl) ?_
 go_wp2
 refine bodyPost_ret (v:=.tuple #[.agg #[.int .u64 c.s0,.int .u64 c.s1,.int .u64 c.s2,.int .u64 (mxV c.s3 v c.s2),.int .u64 c.s4,.int .u64 c.s5,.int .u64 c.s6,.int .u64 c.s7,.int .u64 c.s8,.int .u64 c.s9,.int .u64 c.s10,.int .u64 c.s11,.int .u64 c.s12,.int .u64 c.s13,.int .u64 c.s14,.int .u64 c.s15],.bool true]) (by rw [results_cell_tmp Tryz.results153];simp [asAddr,Result.andThen,zbw _ _ _ ({ c with s3:=(mxV c.s3 v c.s2) }:Reg) (zaQ W _ _)]) rfl ?_
 exact ⟨rfl,za9 W _ _ _⟩
theorem ztA (c:Reg) (m v:Int) (hm:decide (zaz 261≤m)=true) (W:World):TB 153 #[regV c,.int .i64 m,.int .i64 261,.int .u64 v] W (.tuple #[.agg #[.int .u64 c.s0,.int .u64 c.s1,.int .u64 c.s2,.int .u64 c.s3,.int .u64 c.s4,.int .u64 c.s5,.int .u64 c.s6,.int .u64 c.s7,.int .u64 c.s8,.int .u64 c.s9,.int .u64 (bits .and .u64 v 18446744073709551613),.int .u64 c.s11,.int .u64 c.s12,.int .u64 c.s13,.int .u64 c.s14,.int .u64 c.s15],.bool true]):=by
 go_enter Tryz.func153,Tryz.ntmps153
 go_upto_region 6 with (first | ((first | (go_at_call 225;with_reducible refine (zbK m 261 true hm (by decide) _).mono ?_) | (go_at_call 222;with_reducible refine (zjU _ _).mono ?_) | (go_at_call 226;with_reducible refine (zxf _ _ _).mono ?_));rintro e w' ⟨rfl,rfl⟩) | fail)
 refine wp_region_lit ?_
 refine zbz rfl 25 (.tmp 4) rfl _ (regV ({ c with s10:=(bits .and .u64 v 18446744073709551613) }:Reg)) rfl (zbs _ _ ({ c with s10:=(bits .and .u64 v 18446744073709551613) }:Reg) (zby W _ _)) ?_
 refine zbA rfl 25 (.tmp 8) (.tmp 28) rfl _ (regV ({ c with s10:=(bits .and .u64 v 18446744073709551613) }:Reg)) rfl rfl (store_at _ _ _ ({ c with s10:=(bits .and .u64 v 18446744073709551613) }:Reg) (zaQ W _ _) rfl) ?_
 go_wp2
 refine bodyPost_ret (v:=.tuple #[.agg #[.int .u64 c.s0,.int .u64 c.s1,.int .u64 c.s2,.int .u64 c.s3,.int .u64 c.s4,.int .u64 c.s5,.int .u64 c.s6,.int .u64 c.s7,.int .u64 c.s8,.int .u64 c.s9,.int .u64 (bits .and .u64 v 18446744073709551613),.int .u64 c.s11,.int .u64 c.s12,.int .u64 c.s13,.int .u64 c.s14,.int .u64 c.s15],.bool true]) (by rw [results_cell_tmp Tryz.results153];simp [asAddr,Result.andThen,zbw _ _ _ ({ c with s10:=(bits .and .u64 v 18446744073709551613) }:Reg) (zaQ W _ _)]) rfl ?_
 exact ⟨rfl,za9 W _ _ _⟩
theorem zno (c:Reg) (m v:Int) (hm:decide (zaz 320≤m)=true) (W:World):TB 153 #[regV c,.int .i64 m,.int .i64 320,.int .u64 v] W (.tuple #[.agg #[.int .u64 c.s0,.int .u64 c.s1,.int .u64 c.s2,.int .u64 c.s3,.int .u64 c.s4,.int .u64 c.s5,.int .u64 c.s6,.int .u64 c.s7,.int .u64 c.s8,.int .u64 c.s9,.int .u64 c.s10,.int .u64 v,.int .u64 c.s12,.int .u64 c.s13,.int .u64 c.s14,.int .u64 c.s15],.bool true]):=by
 go_enter Tryz.func153,Tryz.ntmps153
 go_upto_region 6 with (first | ((first | (go_at_call 225;with_reducible refine (zbK m 320 true hm (by decide) _).mono ?_) | (go_at_call 222;with_reducible refine (zjk _ _).mono ?_) | (go_at_call 226;with_reducible refine (zsi _ _ _).mono ?_));rintro e w' ⟨rfl,rfl⟩) | fail)
 refine wp_region_lit ?_
 refine zbz rfl 25 (.tmp 4) rfl _ (regV ({ c with s11:=v }:Reg)) rfl (zbs _ _ ({ c with s11:=v }:Reg) (zby W _ _)) ?_
 refine zbA rfl 25 (.tmp 8) (.tmp 28) rfl _ (regV ({ c with s11:=v }:Reg)) rfl rfl (store_at _ _ _ ({ c with s11:=v }:Reg) (zaQ W _ _) rfl) ?_
 go_wp2
 refine bodyPost_ret (v:=.tuple #[.agg #[.int .u64 c.s0,.int .u64 c.s1,.int .u64 c.s2,.int .u64 c.s3,.int .u64 c.s4,.int .u64 c.s5,.int .u64 c.s6,.int .u64 c.s7,.int .u64 c.s8,.int .u64 c.s9,.int .u64 c.s10,.int .u64 v,.int .u64 c.s12,.int .u64 c.s13,.int .u64 c.s14,.int .u64 c.s15],.bool true]) (by rw [results_cell_tmp Tryz.results153];simp [asAddr,Result.andThen,zbw _ _ _ ({ c with s11:=v }:Reg) (zaQ W _ _)]) rfl ?_
 exact ⟨rfl,za9 W _ _ _⟩
theorem zoO (c:Reg) (m v:Int) (hm:decide (zaz 321≤m)=true) (W:World):TB 153 #[regV c,.int .i64 m,.int .i64 321,.int .u64 v] W (.tuple #[.agg #[.int .u64 c.s0,.int .u64 c.s1,.int .u64 c.s2,.int .u64 c.s3,.int .u64 c.s4,.int .u64 c.s5,.int .u64 c.s6,.int .u64 c.s7,.int .u64 c.s8,.int .u64 c.s9,.int .u64 c.s10,.int .u64 c.s11,.int .u64 (bits .and .u64 v 18446744073709551614),.int .u64 c.s13,.int .u64 c.s14,.int .u64 c.s15],.bool true]):=by
 go_enter Tryz.func153,Tryz.ntmps153
 go_upto_region 6 with (first | ((first | (go_at_call 225;with_reducible refine (zbK m 321 true hm (by decide) _).mono ?_) | (go_at_call 222;with_reducible refine (zib _ _).mono ?_) | (go_at_call 226;with_reducible refine (zse _ _ _).mono ?_));rintro e w' ⟨rfl,rfl⟩) | fail)
 refine wp_region_lit ?_
 refine zbz rfl 25 (.tmp 4) rfl _ (regV ({ c with s12:=(bits .and .u64 v 18446744073709551614) }:Reg)) rfl (zbs _ _ ({ c with s12:=(bits .and .u64 v 18446744073709551614) }:Reg) (zby W _ _)) ?_
 refine zbA rfl 25 (.tmp 8) (.tmp 28) rfl _ (regV ({ c with s12:=(bits .and .u64 v 18446744073709551614) }:Reg)) rfl rfl (store_at _ _ _ ({ c with s12:=(bits .and .u64 v 18446744073709551614) }:Reg) (zaQ W _ _) rfl) ?_
 go_wp2
 refine bodyPost_ret (v:=.tuple #[.agg #[.int .u64 c.s0,.int .u64 c.s1,.int .u64 c.s2,.int .u64 c.s3,.int .u64 c.s4,.int .u64 c.s5,.int .u64 c.s6,.int .u64 c.s7,.int .u64 c.s8,.int .u64 c.s9,.int .u64 c.s10,.int .u64 c.s11,.int .u64 (bits .and .u64 v 18446744073709551614),.int .u64 c.s13,.int .u64 c.s14,.int .u64 c.s15],.bool true]) (by rw [results_cell_tmp Tryz.results153];simp [asAddr,Result.andThen,zbw _ _ _ ({ c with s12:=(bits .and .u64 v 18446744073709551614) }:Reg) (zaQ W _ _)]) rfl ?_
 exact ⟨rfl,za9 W _ _ _⟩
theorem zrG (c:Reg) (m v:Int) (hm:decide (zaz 322≤m)=true) (W:World):TB 153 #[regV c,.int .i64 m,.int .i64 322,.int .u64 v] W (.tuple #[.agg #[.int .u64 c.s0,.int .u64 c.s1,.int .u64 c.s2,.int .u64 c.s3,.int .u64 c.s4,.int .u64 c.s5,.int .u64 c.s6,.int .u64 c.s7,.int .u64 c.s8,.int .u64 c.s9,.int .u64 c.s10,.int .u64 c.s11,.int .u64 c.s12,.int .u64 v,.int .u64 c.s14,.int .u64 c.s15],.bool true]):=by
 go_enter Tryz.func153,Tryz.ntmps153
 go_upto_region 6 with (first | ((first | (go_at_call 225;with_reducible refine (zbK m 322 true hm (by decide) _).mono ?_) | (go_at_call 222;with_reducible refine (zhr _ _).mono ?_) | (go_at_call 226;with_reducible refine (zrw _ _ _).mono ?_));rintro e w' ⟨rfl,rfl⟩) | fail)
 refine wp_region_lit ?_
 refine zbz rfl 25 (.tmp 4) rfl _ (regV ({ c with s13:=v }:Reg)) rfl (zbs _ _ ({ c with s13:=v }:Reg) (zby W _ _)) ?_
 refine zbA rfl 25 (.tmp 8) (.tmp 28) rfl _ (regV ({ c with s13:=v }:Reg)) rfl rfl (store_at _ _ _ ({ c with s13:=v }:Reg) (zaQ W _ _) rfl) ?_
 go_wp2
 refine bodyPost_ret (v:=.tuple #[.agg #[.int .u64 c.s0,.int .u64 c.s1,.int .u64 c.s2,.int .u64 c.s3,.int .u64 c.s4,.int .u64 c.s5,.int .u64 c.s6,.int .u64 c.s7,.int .u64 c.s8,.int .u64 c.s9,.int .u64 c.s10,.int .u64 c.s11,.int .u64 c.s12,.int .u64 v,.int .u64 c.s14,.int .u64 c.s15],.bool true]) (by rw [results_cell_tmp Tryz.results153];simp [asAddr,Result.andThen,zbw _ _ _ ({ c with s13:=v }:Reg) (zaQ W _ _)]) rfl ?_
 exact ⟨rfl,za9 W _ _ _⟩
theorem zn2 (c:Reg) (m v:Int) (hm:decide (zaz 323≤m)=true) (W:World):TB 153 #[regV c,.int .i64 m,.int .i64 323,.int .u64 v] W (.tuple #[.agg #[.int .u64 c.s0,.int .u64 c.s1,.int .u64 c.s2,.int .u64 c.s3,.int .u64 c.s4,.int .u64 c.s5,.int .u64 c.s6,.int .u64 c.s7,.int .u64 c.s8,.int .u64 c.s9,.int .u64 c.s10,.int .u64 c.s11,.int .u64 c.s12,.int .u64 c.s13,.int .u64 v,.int .u64 c.s15],.bool true]):=by
 go_enter Tryz.func153,Tryz.ntmps153
 go_upto_region 6 with (first | ((first | (go_at_call 225;with_reducible refine (zbK m 323 true hm (by decide) _).mono ?_) | (go_at_call 222;with_reducible refine (zjq _ _).mono ?_) | (go_at_call 226;with_reducible refine (zlA _ _ _).mono ?_));rintro e w' ⟨rfl,rfl⟩) | fail)
 refine wp_region_lit ?_
 refine zbz rfl 25 (.tmp 4) rfl _ (regV ({ c with s14:=v }:Reg)) rfl (zbs _ _ ({ c with s14:=v }:Reg) (zby W _ _)) ?_
 refine zbA rfl 25 (.tmp 8) (.tmp 28) rfl _ (regV ({ c with s14:=v }:Reg)) rfl rfl (store_at _ _ _ ({ c with s14:=v }:Reg) (zaQ W _ _) rfl) ?_
 go_wp2
 refine bodyPost_ret (v:=.tuple #[.agg #[.int .u64 c.s0,.int .u64 c.s1,.int .u64 c.s2,.int .u64 c.s3,.int .u64 c.s4,.int .u64 c.s5,.int .u64 c.s6,.int .u64 c.s7,.int .u64 c.s8,.int .u64 c.s9,.int .u64 c.s10,.int .u64 c.s11,.int .u64 c.s12,.int .u64 c.s13,.int .u64 v,.int .u64 c.s15],.bool true]) (by rw [results_cell_tmp Tryz.results153];simp [asAddr,Result.andThen,zbw _ _ _ ({ c with s14:=v }:Reg) (zaQ W _ _)]) rfl ?_
 exact ⟨rfl,za9 W _ _ _⟩
theorem zpS (c:Reg) (m v:Int) (hm:decide (zaz 324≤m)=true) (W:World):TB 153 #[regV c,.int .i64 m,.int .i64 324,.int .u64 v] W (.tuple #[.agg #[.int .u64 c.s0,.int .u64 c.s1,.int .u64 c.s2,.int .u64 c.s3,.int .u64 (mxV c.s4 v (bits .and .u64 c.s2 2)),.int .u64 c.s5,.int .u64 c.s6,.int .u64 c.s7,.int .u64 c.s8,.int .u64 c.s9,.int .u64 c.s10,.int .u64 c.s11,.int .u64 c.s12,.int .u64 c.s13,.int .u64 c.s14,.int .u64 c.s15],.bool true]):=by
 go_enter Tryz.func153,Tryz.ntmps153
 go_upto_region 20 with (first | ((first | (go_at_call 225;with_reducible refine (zbK m 324 true hm (by decide) _).mono ?_) | (go_at_call 222;with_reducible refine (zie _ _).mono ?_) | (go_at_call 227;with_reducible refine (zgX _ _ _ _).mono ?_));rintro e w' ⟨rfl,rfl⟩) | fail)
 refine wp_region_lit ?_
 refine zbz rfl 25 (.tmp 4) rfl _ (regV ({ c with s4:=(mxV c.s4 v (bits .and .u64 c.s2 2)) }:Reg)) rfl (zbs _ _ ({ c with s4:=(mxV c.s4 v (bits .and .u64 c.s2 2)) }:Reg) (zby W _ _)) ?_
 refine zbA rfl 25 (.tmp 8) (.tmp 66) rfl _ (regV ({ c with s4:=(mxV c.s4 v (bits .and .u64 c.s2 2)) }:Reg)) rfl rfl (store_at _ _ _ ({ c with s4:=(mxV c.s4 v (bits .and .u64 c.s2 2)) }:Reg) (zaQ W _ _) rfl) ?_
 go_wp2
 refine bodyPost_ret (v:=.tuple #[.agg #[.int .u64 c.s0,.int .u64 c.s1,.int .u64 c.s2,.int .u64 c.s3,.int .u64 (mxV c.s4 v (bits .and .u64 c.s2 2)),.int .u64 c.s5,.int .u64 c.s6,.int .u64 c.s7,.int .u64 c.s8,.int .u64 c.s9,.int .u64 c.s10,.int .u64 c.s11,.int .u64 c.s12,.int .u64 c.s13,.int .u64 c.s14,.int .u64 c.s15],.bool true]) (by rw [results_cell_tmp Tryz.results153];simp [asAddr,Result.andThen,zbw _ _ _ ({ c with s4:=(mxV c.s4 v (bits .and .u64 c.s2 2)) }:Reg) (zaQ W _ _)]) rfl ?_
 exact ⟨rfl,za9 W _ _ _⟩
theorem zsZ (c:Reg) (m v:Int) (hm:decide (zaz 384≤m)=true) (W:World):TB 153 #[regV c,.int .i64 m,.int .i64 384,.int .u64 v] W (.tuple #[.agg #[.int .u64 c.s0,.int .u64 c.s1,.int .u64 c.s2,.int .u64 c.s3,.int .u64 c.s4,.int .u64 c.s5,.int .u64 c.s6,.int .u64 c.s7,.int .u64 c.s8,.int .u64 c.s9,.int .u64 c.s10,.int .u64 c.s11,.int .u64 c.s12,.int .u64 c.s13,.int .u64 c.s14,.int .u64 (spV c.s15 v)],.bool true]):=by
 go_enter Tryz.func153,Tryz.ntmps153
 go_upto_region 6 with (first | ((first | (go_at_call 225;with_reducible refine (zbK m 384 true hm (by decide) _).mono ?_) | (go_at_call 222;with_reducible refine (zii _ _).mono ?_) | (go_at_call 226;with_reducible refine (zp0 _ _ _).mono ?_));rintro e w' ⟨rfl,rfl⟩) | fail)
 refine wp_region_lit ?_
 refine zbz rfl 25 (.tmp 4) rfl _ (regV ({ c with s15:=(spV c.s15 v) }:Reg)) rfl (zbs _ _ ({ c with s15:=(spV c.s15 v) }:Reg) (zby W _ _)) ?_
 refine zbA rfl 25 (.tmp 8) (.tmp 28) rfl _ (regV ({ c with s15:=(spV c.s15 v) }:Reg)) rfl rfl (store_at _ _ _ ({ c with s15:=(spV c.s15 v) }:Reg) (zaQ W _ _) rfl) ?_
 go_wp2
 refine bodyPost_ret (v:=.tuple #[.agg #[.int .u64 c.s0,.int .u64 c.s1,.int .u64 c.s2,.int .u64 c.s3,.int .u64 c.s4,.int .u64 c.s5,.int .u64 c.s6,.int .u64 c.s7,.int .u64 c.s8,.int .u64 c.s9,.int .u64 c.s10,.int .u64 c.s11,.int .u64 c.s12,.int .u64 c.s13,.int .u64 c.s14,.int .u64 (spV c.s15 v)],.bool true]) (by rw [results_cell_tmp Tryz.results153];simp [asAddr,Result.andThen,zbw _ _ _ ({ c with s15:=(spV c.s15 v) }:Reg) (zaQ W _ _)]) rfl ?_
 exact ⟨rfl,za9 W _ _ _⟩
theorem zw6 (c:Reg) (m v:Int) (hm:decide (zaz 768≤m)=true) (W:World):TB 153 #[regV c,.int .i64 m,.int .i64 768,.int .u64 v] W (.tuple #[.agg #[.int .u64 (stV v),.int .u64 c.s1,.int .u64 c.s2,.int .u64 c.s3,.int .u64 c.s4,.int .u64 c.s5,.int .u64 c.s6,.int .u64 c.s7,.int .u64 c.s8,.int .u64 c.s9,.int .u64 c.s10,.int .u64 c.s11,.int .u64 c.s12,.int .u64 c.s13,.int .u64 c.s14,.int .u64 c.s15],.bool true]):=by
 go_enter Tryz.func153,Tryz.ntmps153
 go_upto_region 6 with (first | ((first | (go_at_call 225;with_reducible refine (zbK m 768 true hm (by decide) _).mono ?_) | (go_at_call 222;with_reducible refine (zhw _ _).mono ?_) | (go_at_call 226;with_reducible refine (zxC _ _ _).mono ?_));rintro e w' ⟨rfl,rfl⟩) | fail)
 refine wp_region_lit ?_
 refine zbz rfl 25 (.tmp 4) rfl _ (regV ({ c with s0:=(stV v) }:Reg)) rfl (zbs _ _ ({ c with s0:=(stV v) }:Reg) (zby W _ _)) ?_
 refine zbA rfl 25 (.tmp 8) (.tmp 28) rfl _ (regV ({ c with s0:=(stV v) }:Reg)) rfl rfl (store_at _ _ _ ({ c with s0:=(stV v) }:Reg) (zaQ W _ _) rfl) ?_
 go_wp2
 refine bodyPost_ret (v:=.tuple #[.agg #[.int .u64 (stV v),.int .u64 c.s1,.int .u64 c.s2,.int .u64 c.s3,.int .u64 c.s4,.int .u64 c.s5,.int .u64 c.s6,.int .u64 c.s7,.int .u64 c.s8,.int .u64 c.s9,.int .u64 c.s10,.int .u64 c.s11,.int .u64 c.s12,.int .u64 c.s13,.int .u64 c.s14,.int .u64 c.s15],.bool true]) (by rw [results_cell_tmp Tryz.results153];simp [asAddr,Result.andThen,zbw _ _ _ ({ c with s0:=(stV v) }:Reg) (zaQ W _ _)]) rfl ?_
 exact ⟨rfl,za9 W _ _ _⟩
theorem zpJ (c:Reg) (m v:Int) (hm:decide (zaz 769≤m)=true) (W:World):TB 153 #[regV c,.int .i64 m,.int .i64 769,.int .u64 v] W (.tuple #[.agg #[.int .u64 c.s0,.int .u64 c.s1,.int .u64 c.s2,.int .u64 c.s3,.int .u64 c.s4,.int .u64 c.s5,.int .u64 c.s6,.int .u64 c.s7,.int .u64 c.s8,.int .u64 c.s9,.int .u64 c.s10,.int .u64 c.s11,.int .u64 c.s12,.int .u64 c.s13,.int .u64 c.s14,.int .u64 c.s15],.bool true]):=by
 go_enter Tryz.func153,Tryz.ntmps153
 go_upto_region 20 with (first | ((first | (go_at_call 225;with_reducible refine (zbK m 769 true hm (by decide) _).mono ?_) | (go_at_call 222;with_reducible refine (zjY _ _).mono ?_));rintro e w' ⟨rfl,rfl⟩) | fail)
 refine wp_region_lit ?_
 refine zbz rfl 25 (.tmp 4) rfl _ (regV c) rfl (zbs _ _ c (zby W _ _)) ?_
 refine zbA rfl 25 (.tmp 8) (.tmp 66) rfl _ (regV c) rfl rfl (store_at _ _ _ c (zaQ W _ _) rfl) ?_
 go_wp2
 refine bodyPost_ret (v:=.tuple #[.agg #[.int .u64 c.s0,.int .u64 c.s1,.int .u64 c.s2,.int .u64 c.s3,.int .u64 c.s4,.int .u64 c.s5,.int .u64 c.s6,.int .u64 c.s7,.int .u64 c.s8,.int .u64 c.s9,.int .u64 c.s10,.int .u64 c.s11,.int .u64 c.s12,.int .u64 c.s13,.int .u64 c.s14,.int .u64 c.s15],.bool true]) (by rw [results_cell_tmp Tryz.results153];simp [asAddr,Result.andThen,zbw _ _ _ c (zaQ W _ _)]) rfl ?_
 exact ⟨rfl,za9 W _ _ _⟩
theorem zwl (c:Reg) (m v:Int) (hm:decide (zaz 770≤m)=true) (W:World):TB 153 #[regV c,.int .i64 m,.int .i64 770,.int .u64 v] W (.tuple #[.agg #[.int .u64 c.s0,.int .u64 (bits .and .u64 v 46079),.int .u64 c.s2,.int .u64 c.s3,.int .u64 c.s4,.int .u64 c.s5,.int .u64 c.s6,.int .u64 c.s7,.int .u64 c.s8,.int .u64 c.s9,.int .u64 c.s10,.int .u64 c.s11,.int .u64 c.s12,.int .u64 c.s13,.int .u64 c.s14,.int .u64 c.s15],.bool true]):=by
 go_enter Tryz.func153,Tryz.ntmps153
 go_upto_region 6 with (first | ((first | (go_at_call 225;with_reducible refine (zbK m 770 true hm (by decide) _).mono ?_) | (go_at_call 222;with_reducible refine (zjl _ _).mono ?_) | (go_at_call 226;with_reducible refine (zuD _ _ _).mono ?_));rintro e w' ⟨rfl,rfl⟩) | fail)
 refine wp_region_lit ?_
 refine zbz rfl 25 (.tmp 4) rfl _ (regV ({ c with s1:=(bits .and .u64 v 46079) }:Reg)) rfl (zbs _ _ ({ c with s1:=(bits .and .u64 v 46079) }:Reg) (zby W _ _)) ?_
 refine zbA rfl 25 (.tmp 8) (.tmp 28) rfl _ (regV ({ c with s1:=(bits .and .u64 v 46079) }:Reg)) rfl rfl (store_at _ _ _ ({ c with s1:=(bits .and .u64 v 46079) }:Reg) (zaQ W _ _) rfl) ?_
 go_wp2
 refine bodyPost_ret (v:=.tuple #[.agg #[.int .u64 c.s0,.int .u64 (bits .and .u64 v 46079),.int .u64 c.s2,.int .u64 c.s3,.int .u64 c.s4,.int .u64 c.s5,.int .u64 c.s6,.int .u64 c.s7,.int .u64 c.s8,.int .u64 c.s9,.int .u64 c.s10,.int .u64 c.s11,.int .u64 c.s12,.int .u64 c.s13,.int .u64 c.s14,.int .u64 c.s15],.bool true]) (by rw [results_cell_tmp Tryz.results153];simp [asAddr,Result.andThen,zbw _ _ _ ({ c with s1:=(bits .and .u64 v 46079) }:Reg) (zaQ W _ _)]) rfl ?_
 exact ⟨rfl,za9 W _ _ _⟩
theorem zo1 (c:Reg) (m v:Int) (hm:decide (zaz 771≤m)=true) (W:World):TB 153 #[regV c,.int .i64 m,.int .i64 771,.int .u64 v] W (.tuple #[.agg #[.int .u64 c.s0,.int .u64 c.s1,.int .u64 (bits .and .u64 v 546),.int .u64 c.s3,.int .u64 c.s4,.int .u64 c.s5,.int .u64 c.s6,.int .u64 c.s7,.int .u64 c.s8,.int .u64 c.s9,.int .u64 c.s10,.int .u64 c.s11,.int .u64 c.s12,.int .u64 c.s13,.int .u64 c.s14,.int .u64 c.s15],.bool true]):=by
 go_enter Tryz.func153,Tryz.ntmps153
 go_upto_region 6 with (first | ((first | (go_at_call 225;with_reducible refine (zbK m 771 true hm (by decide) _).mono ?_) | (go_at_call 222;with_reducible refine (zic _ _).mono ?_) | (go_at_call 226;with_reducible refine (zo5 _ _ _).mono ?_));rintro e w' ⟨rfl,rfl⟩) | fail)
 refine wp_region_lit ?_
 refine zbz rfl 25 (.tmp 4) rfl _ (regV ({ c with s2:=(bits .and .u64 v 546) }:Reg)) rfl (zbs _ _ ({ c with s2:=(bits .and .u64 v 546) }:Reg) (zby W _ _)) ?_
 refine zbA rfl 25 (.tmp 8) (.tmp 28) rfl _ (regV ({ c with s2:=(bits .and .u64 v 546) }:Reg)) rfl rfl (store_at _ _ _ ({ c with s2:=(bits .and .u64 v 546) }:Reg) (zaQ W _ _) rfl) ?_
 go_wp2
 refine bodyPost_ret (v:=.tuple #[.agg #[.int .u64 c.s0,.int .u64 c.s1,.int .u64 (bits .and .u64 v 546),.int .u64 c.s3,.int .u64 c.s4,.int .u64 c.s5,.int .u64 c.s6,.int .u64 c.s7,.int .u64 c.s8,.int .u64 c.s9,.int .u64 c.s10,.int .u64 c.s11,.int .u64 c.s12,.int .u64 c.s13,.int .u64 c.s14,.int .u64 c.s15],.bool true]) (by rw [results_cell_tmp Tryz.results153];simp [asAddr,Result.andThen,zbw _ _ _ ({ c with s2:=(bits .and .u64 v 546) }:Reg) (zaQ W _ _)]) rfl ?_
 exact ⟨rfl,za9 W _ _ _⟩
theorem zo4 (c:Reg) (m v:Int) (hm:decide (zaz 772≤m)=true) (W:World):TB 153 #[regV c,.int .i64 m,.int .i64 772,.int .u64 v] W (.tuple #[.agg #[.int .u64 c.s0,.int .u64 c.s1,.int .u64 c.s2,.int .u64 (bits .and .u64 v 2730),.int .u64 c.s4,.int .u64 c.s5,.int .u64 c.s6,.int .u64 c.s7,.int .u64 c.s8,.int .u64 c.s9,.int .u64 c.s10,.int .u64 c.s11,.int .u64 c.s12,.int .u64 c.s13,.int .u64 c.s14,.int .u64 c.s15],.bool true]):=by
 go_enter Tryz.func153,Tryz.ntmps153
 go_upto_region 6 with (first | ((first | (go_at_call 225;with_reducible refine (zbK m 772 true hm (by decide) _).mono ?_) | (go_at_call 222;with_reducible refine (zhl _ _).mono ?_) | (go_at_call 226;with_reducible refine (zvk _ _ _).mono ?_));rintro e w' ⟨rfl,rfl⟩) | fail)
 refine wp_region_lit ?_
 refine zbz rfl 25 (.tmp 4) rfl _ (regV ({ c with s3:=(bits .and .u64 v 2730) }:Reg)) rfl (zbs _ _ ({ c with s3:=(bits .and .u64 v 2730) }:Reg) (zby W _ _)) ?_
 refine zbA rfl 25 (.tmp 8) (.tmp 28) rfl _ (regV ({ c with s3:=(bits .and .u64 v 2730) }:Reg)) rfl rfl (store_at _ _ _ ({ c with s3:=(bits .and .u64 v 2730) }:Reg) (zaQ W _ _) rfl) ?_
 go_wp2
 refine bodyPost_ret (v:=.tuple #[.agg #[.int .u64 c.s0,.int .u64 c.s1,.int .u64 c.s2,.int .u64 (bits .and .u64 v 2730),.int .u64 c.s4,.int .u64 c.s5,.int .u64 c.s6,.int .u64 c.s7,.int .u64 c.s8,.int .u64 c.s9,.int .u64 c.s10,.int .u64 c.s11,.int .u64 c.s12,.int .u64 c.s13,.int .u64 c.s14,.int .u64 c.s15],.bool true]) (by rw [results_cell_tmp Tryz.results153];simp [asAddr,Result.andThen,zbw _ _ _ ({ c with s3:=(bits .and .u64 v 2730) }:Reg) (zaQ W _ _)]) rfl ?_
 exact ⟨rfl,za9 W _ _ _⟩
theorem zuZ (c:Reg) (m v:Int) (hm:decide (zaz 773≤m)=true) (W:World):TB 153 #[regV c,.int .i64 m,.int .i64 773,.int .u64 v] W (.tuple #[.agg #[.int .u64 c.s0,.int .u64 c.s1,.int .u64 c.s2,.int .u64 c.s3,.int .u64 c.s4,.int .u64 (bits .and .u64 v 18446744073709551613),.int .u64 c.s6,.int .u64 c.s7,.int .u64 c.s8,.int .u64 c.s9,.int .u64 c.s10,.int .u64 c.s11,.int .u64 c.s12,.int .u64 c.s13,.int .u64 c.s14,.int .u64 c.s15],.bool true]):=by
 go_enter Tryz.func153,Tryz.ntmps153
 go_upto_region 6 with (first | ((first | (go_at_call 225;with_reducible refine (zbK m 773 true hm (by decide) _).mono ?_) | (go_at_call 222;with_reducible refine (zij _ _).mono ?_) | (go_at_call 226;with_reducible refine (zpp _ _ _).mono ?_));rintro e w' ⟨rfl,rfl⟩) | fail)
 refine wp_region_lit ?_
 refine zbz rfl 25 (.tmp 4) rfl _ (regV ({ c with s5:=(bits .and .u64 v 18446744073709551613) }:Reg)) rfl (zbs _ _ ({ c with s5:=(bits .and .u64 v 18446744073709551613) }:Reg) (zby W _ _)) ?_
 refine zbA rfl 25 (.tmp 8) (.tmp 28) rfl _ (regV ({ c with s5:=(bits .and .u64 v 18446744073709551613) }:Reg)) rfl rfl (store_at _ _ _ ({ c with s5:=(bits .and .u64 v 18446744073709551613) }:Reg) (zaQ W _ _) rfl) ?_
 go_wp2
 refine bodyPost_ret (v:=.tuple #[.agg #[.int .u64 c.s0,.int .u64 c.s1,.int .u64 c.s2,.int .u64 c.s3,.int .u64 c.s4,.int .u64 (bits .and .u64 v 18446744073709551613),.int .u64 c.s6,.int .u64 c.s7,.int .u64 c.s8,.int .u64 c.s9,.int .u64 c.s10,.int .u64 c.s11,.int .u64 c.s12,.int .u64 c.s13,.int .u64 c.s14,.int .u64 c.s15],.bool true]) (by rw [results_cell_tmp Tryz.results153];simp [asAddr,Result.andThen,zbw _ _ _ ({ c with s5:=(bits .and .u64 v 18446744073709551613) }:Reg) (zaQ W _ _)]) rfl ?_
 exact ⟨rfl,za9 W _ _ _⟩
theorem zu5 (c:Reg) (m v:Int) (hm:decide (zaz 832≤m)=true) (W:World):TB 153 #[regV c,.int .i64 m,.int .i64 832,.int .u64 v] W (.tuple #[.agg #[.int .u64 c.s0,.int .u64 c.s1,.int .u64 c.s2,.int .u64 c.s3,.int .u64 c.s4,.int .u64 c.s5,.int .u64 v,.int .u64 c.s7,.int .u64 c.s8,.int .u64 c.s9,.int .u64 c.s10,.int .u64 c.s11,.int .u64 c.s12,.int .u64 c.s13,.int .u64 c.s14,.int .u64 c.s15],.bool true]):=by
 go_enter Tryz.func153,Tryz.ntmps153
 go_upto_region 6 with (first | ((first | (go_at_call 225;with_reducible refine (zbK m 832 true hm (by decide) _).mono ?_) | (go_at_call 222;with_reducible refine (zjd _ _).mono ?_) | (go_at_call 226;with_reducible refine (zvQ _ _ _).mono ?_));rintro e w' ⟨rfl,rfl⟩) | fail)
 refine wp_region_lit ?_
 refine zbz rfl 25 (.tmp 4) rfl _ (regV ({ c with s6:=v }:Reg)) rfl (zbs _ _ ({ c with s6:=v }:Reg) (zby W _ _)) ?_
 refine zbA rfl 25 (.tmp 8) (.tmp 28) rfl _ (regV ({ c with s6:=v }:Reg)) rfl rfl (store_at _ _ _ ({ c with s6:=v }:Reg) (zaQ W _ _) rfl) ?_
 go_wp2
 refine bodyPost_ret (v:=.tuple #[.agg #[.int .u64 c.s0,.int .u64 c.s1,.int .u64 c.s2,.int .u64 c.s3,.int .u64 c.s4,.int .u64 c.s5,.int .u64 v,.int .u64 c.s7,.int .u64 c.s8,.int .u64 c.s9,.int .u64 c.s10,.int .u64 c.s11,.int .u64 c.s12,.int .u64 c.s13,.int .u64 c.s14,.int .u64 c.s15],.bool true]) (by rw [results_cell_tmp Tryz.results153];simp [asAddr,Result.andThen,zbw _ _ _ ({ c with s6:=v }:Reg) (zaQ W _ _)]) rfl ?_
 exact ⟨rfl,za9 W _ _ _⟩
theorem zn6 (c:Reg) (m v:Int) (hm:decide (zaz 833≤m)=true) (W:World):TB 153 #[regV c,.int .i64 m,.int .i64 833,.int .u64 v] W (.tuple #[.agg #[.int .u64 c.s0,.int .u64 c.s1,.int .u64 c.s2,.int .u64 c.s3,.int .u64 c.s4,.int .u64 c.s5,.int .u64 c.s6,.int .u64 (bits .and .u64 v 18446744073709551614),.int .u64 c.s8,.int .u64 c.s9,.int .u64 c.s10,.int .u64 c.s11,.int .u64 c.s12,.int .u64 c.s13,.int .u64 c.s14,.int .u64 c.s15],.bool true]):=by
 go_enter Tryz.func153,Tryz.ntmps153
 go_upto_region 6 with (first | ((first | (go_at_call 225;with_reducible refine (zbK m 833 true hm (by decide) _).mono ?_) | (go_at_call 222;with_reducible refine (zhu _ _).mono ?_) | (go_at_call 226;with_reducible refine (zsJ _ _ _).mono ?_));rintro e w' ⟨rfl,rfl⟩) | fail)
 refine wp_region_lit ?_
 refine zbz rfl 25 (.tmp 4) rfl _ (regV ({ c with s7:=(bits .and .u64 v 18446744073709551614) }:Reg)) rfl (zbs _ _ ({ c with s7:=(bits .and .u64 v 18446744073709551614) }:Reg) (zby W _ _)) ?_
 refine zbA rfl 25 (.tmp 8) (.tmp 28) rfl _ (regV ({ c with s7:=(bits .and .u64 v 18446744073709551614) }:Reg)) rfl rfl (store_at _ _ _ ({ c with s7:=(bits .and .u64 v 18446744073709551614) }:Reg) (zaQ W _ _) rfl) ?_
 go_wp2
 refine bodyPost_ret (v:=.tuple #[.agg #[.int .u64 c.s0,.int .u64 c.s1,.int .u64 c.s2,.int .u64 c.s3,.int .u64 c.s4,.int .u64 c.s5,.int .u64 c.s6,.int .u64 (bits .and .u64 v 18446744073709551614),.int .u64 c.s8,.int .u64 c.s9,.int .u64 c.s10,.int .u64 c.s11,.int .u64 c.s12,.int .u64 c.s13,.int .u64 c.s14,.int .u64 c.s15],.bool true]) (by rw [results_cell_tmp Tryz.results153];simp [asAddr,Result.andThen,zbw _ _ _ ({ c with s7:=(bits .and .u64 v 18446744073709551614) }:Reg) (zaQ W _ _)]) rfl ?_
 exact ⟨rfl,za9 W _ _ _⟩
theorem zvu (c:Reg) (m v:Int) (hm:decide (zaz 834≤m)=true) (W:World):TB 153 #[regV c,.int .i64 m,.int .i64 834,.int .u64 v] W (.tuple #[.agg #[.int .u64 c.s0,.int .u64 c.s1,.int .u64 c.s2,.int .u64 c.s3,.int .u64 c.s4,.int .u64 c.s5,.int .u64 c.s6,.int .u64 c.s7,.int .u64 v,.int .u64 c.s9,.int .u64 c.s10,.int .u64 c.s11,.int .u64 c.s12,.int .u64 c.s13,.int .u64 c.s14,.int .u64 c.s15],.bool true]):=by
 go_enter Tryz.func153,Tryz.ntmps153
 go_upto_region 6 with (first | ((first | (go_at_call 225;with_reducible refine (zbK m 834 true hm (by decide) _).mono ?_) | (go_at_call 222;with_reducible refine (zi6 _ _).mono ?_) | (go_at_call 226;with_reducible refine (zpw _ _ _).mono ?_));rintro e w' ⟨rfl,rfl⟩) | fail)
 refine wp_region_lit ?_
 refine zbz rfl 25 (.tmp 4) rfl _ (regV ({ c with s8:=v }:Reg)) rfl (zbs _ _ ({ c with s8:=v }:Reg) (zby W _ _)) ?_
 refine zbA rfl 25 (.tmp 8) (.tmp 28) rfl _ (regV ({ c with s8:=v }:Reg)) rfl rfl (store_at _ _ _ ({ c with s8:=v }:Reg) (zaQ W _ _) rfl) ?_
 go_wp2
 refine bodyPost_ret (v:=.tuple #[.agg #[.int .u64 c.s0,.int .u64 c.s1,.int .u64 c.s2,.int .u64 c.s3,.int .u64 c.s4,.int .u64 c.s5,.int .u64 c.s6,.int .u64 c.s7,.int .u64 v,.int .u64 c.s9,.int .u64 c.s10,.int .u64 c.s11,.int .u64 c.s12,.int .u64 c.s13,.int .u64 c.s14,.int .u64 c.s15],.bool true]) (by rw [results_cell_tmp Tryz.results153];simp [asAddr,Result.andThen,zbw _ _ _ ({ c with s8:=v }:Reg) (zaQ W _ _)]) rfl ?_
 exact ⟨rfl,za9 W _ _ _⟩
theorem zoR (c:Reg) (m v:Int) (hm:decide (zaz 835≤m)=true) (W:World):TB 153 #[regV c,.int .i64 m,.int .i64 835,.int .u64 v] W (.tuple #[.agg #[.int .u64 c.s0,.int .u64 c.s1,.int .u64 c.s2,.int .u64 c.s3,.int .u64 c.s4,.int .u64 c.s5,.int .u64 c.s6,.int .u64 c.s7,.int .u64 c.s8,.int .u64 v,.int .u64 c.s10,.int .u64 c.s11,.int .u64 c.s12,.int .u64 c.s13,.int .u64 c.s14,.int .u64 c.s15],.bool true]):=by
 go_enter Tryz.func153,Tryz.ntmps153
 go_upto_region 6 with (first | ((first | (go_at_call 225;with_reducible refine (zbK m 835 true hm (by decide) _).mono ?_) | (go_at_call 222;with_reducible refine (zjP _ _).mono ?_) | (go_at_call 226;with_reducible refine (zpr _ _ _).mono ?_));rintro e w' ⟨rfl,rfl⟩) | fail)
 refine wp_region_lit ?_
 refine zbz rfl 25 (.tmp 4) rfl _ (regV ({ c with s9:=v }:Reg)) rfl (zbs _ _ ({ c with s9:=v }:Reg) (zby W _ _)) ?_
 refine zbA rfl 25 (.tmp 8) (.tmp 28) rfl _ (regV ({ c with s9:=v }:Reg)) rfl rfl (store_at _ _ _ ({ c with s9:=v }:Reg) (zaQ W _ _) rfl) ?_
 go_wp2
 refine bodyPost_ret (v:=.tuple #[.agg #[.int .u64 c.s0,.int .u64 c.s1,.int .u64 c.s2,.int .u64 c.s3,.int .u64 c.s4,.int .u64 c.s5,.int .u64 c.s6,.int .u64 c.s7,.int .u64 c.s8,.int .u64 v,.int .u64 c.s10,.int .u64 c.s11,.int .u64 c.s12,.int .u64 c.s13,.int .u64 c.s14,.int .u64 c.s15],.bool true]) (by rw [results_cell_tmp Tryz.results153];simp [asAddr,Result.andThen,zbw _ _ _ ({ c with s9:=v }:Reg) (zaQ W _ _)]) rfl ?_
 exact ⟨rfl,za9 W _ _ _⟩
theorem zvT (c:Reg) (m v:Int) (hm:decide (zaz 836≤m)=true) (W:World):TB 153 #[regV c,.int .i64 m,.int .i64 836,.int .u64 v] W (.tuple #[.agg #[.int .u64 c.s0,.int .u64 c.s1,.int .u64 c.s2,.int .u64 c.s3,.int .u64 (bits .and .u64 v 546),.int .u64 c.s5,.int .u64 c.s6,.int .u64 c.s7,.int .u64 c.s8,.int .u64 c.s9,.int .u64 c.s10,.int .u64 c.s11,.int .u64 c.s12,.int .u64 c.s13,.int .u64 c.s14,.int .u64 c.s15],.bool true]):=by
 go_enter Tryz.func153,Tryz.ntmps153
 go_upto_region 20 with (first | ((first | (go_at_call 225;with_reducible refine (zbK m 836 true hm (by decide) _).mono ?_) | (go_at_call 222;with_reducible refine (ziP _ _).mono ?_));rintro e w' ⟨rfl,rfl⟩) | fail)
 refine wp_region_lit ?_
 refine zbz rfl 25 (.tmp 4) rfl _ (regV ({ c with s4:=(bits .and .u64 v 546) }:Reg)) rfl (zbs _ _ ({ c with s4:=(bits .and .u64 v 546) }:Reg) (zby W _ _)) ?_
 refine zbA rfl 25 (.tmp 8) (.tmp 66) rfl _ (regV ({ c with s4:=(bits .and .u64 v 546) }:Reg)) rfl rfl (store_at _ _ _ ({ c with s4:=(bits .and .u64 v 546) }:Reg) (zaQ W _ _) rfl) ?_
 go_wp2
 refine bodyPost_ret (v:=.tuple #[.agg #[.int .u64 c.s0,.int .u64 c.s1,.int .u64 c.s2,.int .u64 c.s3,.int .u64 (bits .and .u64 v 546),.int .u64 c.s5,.int .u64 c.s6,.int .u64 c.s7,.int .u64 c.s8,.int .u64 c.s9,.int .u64 c.s10,.int .u64 c.s11,.int .u64 c.s12,.int .u64 c.s13,.int .u64 c.s14,.int .u64 c.s15],.bool true]) (by rw [results_cell_tmp Tryz.results153];simp [asAddr,Result.andThen,zbw _ _ _ ({ c with s4:=(bits .and .u64 v 546) }:Reg) (zaQ W _ _)]) rfl ?_
 exact ⟨rfl,za9 W _ _ _⟩
theorem zs8 (c:Reg) (m v:Int) (hm:decide (zaz 2816≤m)=true) (W:World):TB 153 #[regV c,.int .i64 m,.int .i64 2816,.int .u64 v] W (.tuple #[.agg #[.int .u64 c.s0,.int .u64 c.s1,.int .u64 c.s2,.int .u64 c.s3,.int .u64 c.s4,.int .u64 c.s5,.int .u64 c.s6,.int .u64 c.s7,.int .u64 c.s8,.int .u64 c.s9,.int .u64 c.s10,.int .u64 c.s11,.int .u64 c.s12,.int .u64 c.s13,.int .u64 c.s14,.int .u64 c.s15],.bool true]):=by
 go_enter Tryz.func153,Tryz.ntmps153
 go_upto_region 20 with (first | ((first | (go_at_call 225;with_reducible refine (zbK m 2816 true hm (by decide) _).mono ?_) | (go_at_call 222;with_reducible refine (zjc _ _).mono ?_));rintro e w' ⟨rfl,rfl⟩) | fail)
 refine wp_region_lit ?_
 refine zbz rfl 25 (.tmp 4) rfl _ (regV c) rfl (zbs _ _ c (zby W _ _)) ?_
 refine zbA rfl 25 (.tmp 8) (.tmp 66) rfl _ (regV c) rfl rfl (store_at _ _ _ c (zaQ W _ _) rfl) ?_
 go_wp2
 refine bodyPost_ret (v:=.tuple #[.agg #[.int .u64 c.s0,.int .u64 c.s1,.int .u64 c.s2,.int .u64 c.s3,.int .u64 c.s4,.int .u64 c.s5,.int .u64 c.s6,.int .u64 c.s7,.int .u64 c.s8,.int .u64 c.s9,.int .u64 c.s10,.int .u64 c.s11,.int .u64 c.s12,.int .u64 c.s13,.int .u64 c.s14,.int .u64 c.s15],.bool true]) (by rw [results_cell_tmp Tryz.results153];simp [asAddr,Result.andThen,zbw _ _ _ c (zaQ W _ _)]) rfl ?_
 exact ⟨rfl,za9 W _ _ _⟩
theorem zk1 (c:Reg) (m v:Int) (hm:decide (zaz 2818≤m)=true) (W:World):TB 153 #[regV c,.int .i64 m,.int .i64 2818,.int .u64 v] W (.tuple #[.agg #[.int .u64 c.s0,.int .u64 c.s1,.int .u64 c.s2,.int .u64 c.s3,.int .u64 c.s4,.int .u64 c.s5,.int .u64 c.s6,.int .u64 c.s7,.int .u64 c.s8,.int .u64 c.s9,.int .u64 c.s10,.int .u64 c.s11,.int .u64 c.s12,.int .u64 c.s13,.int .u64 c.s14,.int .u64 c.s15],.bool true]):=by
 go_enter Tryz.func153,Tryz.ntmps153
 go_upto_region 20 with (first | ((first | (go_at_call 225;with_reducible refine (zbK m 2818 true hm (by decide) _).mono ?_) | (go_at_call 222;with_reducible refine (zjX _ _).mono ?_));rintro e w' ⟨rfl,rfl⟩) | fail)
 refine wp_region_lit ?_
 refine zbz rfl 25 (.tmp 4) rfl _ (regV c) rfl (zbs _ _ c (zby W _ _)) ?_
 refine zbA rfl 25 (.tmp 8) (.tmp 66) rfl _ (regV c) rfl rfl (store_at _ _ _ c (zaQ W _ _) rfl) ?_
 go_wp2
 refine bodyPost_ret (v:=.tuple #[.agg #[.int .u64 c.s0,.int .u64 c.s1,.int .u64 c.s2,.int .u64 c.s3,.int .u64 c.s4,.int .u64 c.s5,.int .u64 c.s6,.int .u64 c.s7,.int .u64 c.s8,.int .u64 c.s9,.int .u64 c.s10,.int .u64 c.s11,.int .u64 c.s12,.int .u64 c.s13,.int .u64 c.s14,.int .u64 c.s15],.bool true]) (by rw [results_cell_tmp Tryz.results153];simp [asAddr,Result.andThen,zbw _ _ _ c (zaQ W _ _)]) rfl ?_
 exact ⟨rfl,za9 W _ _ _⟩
theorem zuK (c:Reg) (m n v:Int) (hm:decide (zaz n≤m)=false) (W:World):TB 153 #[regV c,.int .i64 m,.int .i64 n,.int .u64 v] W (.tuple #[.agg #[.int .u64 c.s0,.int .u64 c.s1,.int .u64 c.s2,.int .u64 c.s3,.int .u64 c.s4,.int .u64 c.s5,.int .u64 c.s6,.int .u64 c.s7,.int .u64 c.s8,.int .u64 c.s9,.int .u64 c.s10,.int .u64 c.s11,.int .u64 c.s12,.int .u64 c.s13,.int .u64 c.s14,.int .u64 c.s15],.bool false]):=by
 go_enter Tryz.func153,Tryz.ntmps153
 go_upto_region 2 with (first | (go_at_call 225;(with_reducible refine (zlZ m n hm _).mono ?_);rintro e w' ⟨rfl,rfl⟩) | fail)
 refine wp_region_lit ?_
 refine zbz rfl 25 (.tmp 4) rfl _ (regV c) rfl (zbs _ _ c (zby W _ _)) ?_
 refine zbA rfl 25 (.tmp 8) (.tmp 15) rfl _ (regV c) rfl rfl (store_at _ _ _ c (zaQ W _ _) rfl) ?_
 go_wp2
 refine bodyPost_ret (v:=.tuple #[.agg #[.int .u64 c.s0,.int .u64 c.s1,.int .u64 c.s2,.int .u64 c.s3,.int .u64 c.s4,.int .u64 c.s5,.int .u64 c.s6,.int .u64 c.s7,.int .u64 c.s8,.int .u64 c.s9,.int .u64 c.s10,.int .u64 c.s11,.int .u64 c.s12,.int .u64 c.s13,.int .u64 c.s14,.int .u64 c.s15],.bool false]) (by rw [results_cell_tmp Tryz.results153];simp [asAddr,Result.andThen,zbw _ _ _ c (zaQ W _ _)]) rfl ?_
 exact ⟨rfl,za9 W _ _ _⟩
theorem zpu (c:Reg) (m n v:Int) (hm:decide (zaz n≤m)=true) (ho:(zf7 n != 3)=false) (W:World):TB 153 #[regV c,.int .i64 m,.int .i64 n,.int .u64 v] W (.tuple #[.agg #[.int .u64 c.s0,.int .u64 c.s1,.int .u64 c.s2,.int .u64 c.s3,.int .u64 c.s4,.int .u64 c.s5,.int .u64 c.s6,.int .u64 c.s7,.int .u64 c.s8,.int .u64 c.s9,.int .u64 c.s10,.int .u64 c.s11,.int .u64 c.s12,.int .u64 c.s13,.int .u64 c.s14,.int .u64 c.s15],.bool false]):=by
 go_enter Tryz.func153,Tryz.ntmps153
 go_upto_region 2 with (first | (go_at_call 225;(with_reducible refine (zbK m n false hm ho _).mono ?_);rintro e w' ⟨rfl,rfl⟩) | fail)
 refine wp_region_lit ?_
 refine zbz rfl 25 (.tmp 4) rfl _ (regV c) rfl (zbs _ _ c (zby W _ _)) ?_
 refine zbA rfl 25 (.tmp 8) (.tmp 15) rfl _ (regV c) rfl rfl (store_at _ _ _ c (zaQ W _ _) rfl) ?_
 go_wp2
 refine bodyPost_ret (v:=.tuple #[.agg #[.int .u64 c.s0,.int .u64 c.s1,.int .u64 c.s2,.int .u64 c.s3,.int .u64 c.s4,.int .u64 c.s5,.int .u64 c.s6,.int .u64 c.s7,.int .u64 c.s8,.int .u64 c.s9,.int .u64 c.s10,.int .u64 c.s11,.int .u64 c.s12,.int .u64 c.s13,.int .u64 c.s14,.int .u64 c.s15],.bool false]) (by rw [results_cell_tmp Tryz.results153];simp [asAddr,Result.andThen,zbw _ _ _ c (zaQ W _ _)]) rfl ?_
 exact ⟨rfl,za9 W _ _ _⟩
theorem zwj (c:Reg) (m n v:Int) (hm:decide (zaz n≤m)=true) (ho:(zf7 n != 3)=true) (h100:(n==256)=false) (h104:(n==260)=false) (h105:(n==261)=false) (h140:(n==320)=false) (h141:(n==321)=false) (h142:(n==322)=false) (h143:(n==323)=false) (h144:(n==324)=false) (h180:(n==384)=false) (h300:(n==768)=false) (h301:(n==769)=false) (h302:(n==770)=false) (h303:(n==771)=false) (h304:(n==772)=false) (h305:(n==773)=false) (h340:(n==832)=false) (h341:(n==833)=false) (h342:(n==834)=false) (h343:(n==835)=false) (h344:(n==836)=false) (hb00:(n==2816)=false) (hb02:(n==2818)=false) (W:World):TB 153 #[regV c,.int .i64 m,.int .i64 n,.int .u64 v] W (.tuple #[.agg #[.int .u64 c.s0,.int .u64 c.s1,.int .u64 c.s2,.int .u64 c.s3,.int .u64 c.s4,.int .u64 c.s5,.int .u64 c.s6,.int .u64 c.s7,.int .u64 c.s8,.int .u64 c.s9,.int .u64 c.s10,.int .u64 c.s11,.int .u64 c.s12,.int .u64 c.s13,.int .u64 c.s14,.int .u64 c.s15],.bool false]):=by
 go_enter Tryz.func153,Tryz.ntmps153
 go_upto_region 8 with (first | ((first | (go_at_call 225;with_reducible refine (zbK m n true hm ho _).mono ?_) | (go_at_call 222;with_reducible refine (zcp _ n h300 h302 h303 h304 h305 h340 h341 h342 h343 h105 h140 h141 h142 h143 h180 _).mono ?_));rintro e w' ⟨rfl,rfl⟩) | fail)
 refine wp_region_lit ?_
 refine zbz rfl 25 (.tmp 4) rfl _ (regV c) rfl (zbs _ _ c (zby W _ _)) ?_
 refine zbA rfl 25 (.tmp 8) (.tmp 30) rfl _ (regV c) rfl rfl (store_at _ _ _ c (zaQ W _ _) rfl) ?_
 go_wp2
 refine bodyPost_ret (v:=.tuple #[.agg #[.int .u64 c.s0,.int .u64 c.s1,.int .u64 c.s2,.int .u64 c.s3,.int .u64 c.s4,.int .u64 c.s5,.int .u64 c.s6,.int .u64 c.s7,.int .u64 c.s8,.int .u64 c.s9,.int .u64 c.s10,.int .u64 c.s11,.int .u64 c.s12,.int .u64 c.s13,.int .u64 c.s14,.int .u64 c.s15],.bool false]) (by rw [results_cell_tmp Tryz.results153];simp [asAddr,Result.andThen,zbw _ _ _ c (zaQ W _ _)]) rfl ?_
 exact ⟨rfl,za9 W _ _ _⟩
end Go.Proofs.YtmjjpgaeboaamaaGreatDoor.Cs
