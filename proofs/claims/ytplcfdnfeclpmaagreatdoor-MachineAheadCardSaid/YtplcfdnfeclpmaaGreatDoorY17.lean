/- MachineAhead,part 17. -/
import Derived.Test.YtplcfdnfeclpmaaGreatDoorY16
set_option maxHeartbeats 4000000
set_option maxRecDepth 100000
open Go.Lib (hid)
namespace Go.Proofs.YtplcfdnfeclpmaaGreatDoor.Cs
open Go.RowKit Go.Deep Go.Joins
set_option maxRecDepth 100000
theorem zrw (c:Reg) (m v:Int) (hm:decide (zay 256≤m)=true) (W:World):TB 110 #[regV c,.int .i64 m,.int .i64 256,.int .u64 v] W (.tuple #[.agg #[.int .u64 (mxV c.s0 v 786722),.int .u64 c.s1,.int .u64 c.s2,.int .u64 c.s3,.int .u64 c.s4,.int .u64 c.s5,.int .u64 c.s6,.int .u64 c.s7,.int .u64 c.s8,.int .u64 c.s9,.int .u64 c.s10,.int .u64 c.s11,.int .u64 c.s12,.int .u64 c.s13,.int .u64 c.s14,.int .u64 c.s15],.bool true]):=by
 go_enter Tryz.func110,Tryz.ntmps110
 go_upto_region 20 with (first | ((first | (go_at_call 152;with_reducible refine (zbE m 256 true hm (by decide) _).mono ?_) | (go_at_call 149;with_reducible refine (ziL _ _).mono ?_) | (go_at_call 154;with_reducible refine (zgC _ _ _ _).mono ?_));rintro e w' ⟨rfl,rfl⟩) | fail)
 refine wp_region_lit ?_
 refine zbw rfl 25 (.tmp 4) rfl _ (regV ({ c with s0:=(mxV c.s0 v 786722) }:Reg)) rfl (zby _ _ ({ c with s0:=(mxV c.s0 v 786722) }:Reg) (zbt W _ _)) ?_
 refine zbu rfl 25 (.tmp 8) (.tmp 66) rfl _ (regV ({ c with s0:=(mxV c.s0 v 786722) }:Reg)) rfl rfl (store_at _ _ _ ({ c with s0:=(mxV c.s0 v 786722) }:Reg) (zaQ W _ _) rfl) ?_
 go_wp2
 refine bodyPost_ret (v:=.tuple #[.agg #[.int .u64 (mxV c.s0 v 786722),.int .u64 c.s1,.int .u64 c.s2,.int .u64 c.s3,.int .u64 c.s4,.int .u64 c.s5,.int .u64 c.s6,.int .u64 c.s7,.int .u64 c.s8,.int .u64 c.s9,.int .u64 c.s10,.int .u64 c.s11,.int .u64 c.s12,.int .u64 c.s13,.int .u64 c.s14,.int .u64 c.s15],.bool true]) (by rw [results_cell_tmp Tryz.results110];simp [asAddr,Result.andThen,zbv _ _ _ ({ c with s0:=(mxV c.s0 v 786722) }:Reg) (zaQ W _ _)]) rfl ?_
 exact ⟨rfl,zbe W _ _ _⟩
theorem zqd (c:Reg) (m v:Int) (hm:decide (zay 260≤m)=true) (W:World):TB 110 #[regV c,.int .i64 m,.int .i64 260,.int .u64 v] W (.tuple #[.agg #[.int .u64 c.s0,.int .u64 c.s1,.int .u64 c.s2,.int .u64 (mxV c.s3 v c.s2),.int .u64 c.s4,.int .u64 c.s5,.int .u64 c.s6,.int .u64 c.s7,.int .u64 c.s8,.int .u64 c.s9,.int .u64 c.s10,.int .u64 c.s11,.int .u64 c.s12,.int .u64 c.s13,.int .u64 c.s14,.int .u64 c.s15],.bool true]):=by
 go_enter Tryz.func110,Tryz.ntmps110
 go_upto_region 20 with (first | ((first | (go_at_call 152;with_reducible refine (zbE m 260 true hm (by decide) _).mono ?_) | (go_at_call 149;with_reducible refine (zh1 _ _).mono ?_) | (go_at_call 154;with_reducible refine (zgC _ _ _ _).mono ?_));rintro e w' ⟨rfl,rfl⟩) | fail)
 refine wp_region_lit ?_
 refine zbw rfl 25 (.tmp 4) rfl _ (regV ({ c with s3:=(mxV c.s3 v c.s2) }:Reg)) rfl (zby _ _ ({ c with s3:=(mxV c.s3 v c.s2) }:Reg) (zbt W _ _)) ?_
 refine zbu rfl 25 (.tmp 8) (.tmp 66) rfl _ (regV ({ c with s3:=(mxV c.s3 v c.s2) }:Reg)) rfl rfl (store_at _ _ _ ({ c with s3:=(mxV c.s3 v c.s2) }:Reg) (zaQ W _ _) rfl) ?_
 go_wp2
 refine bodyPost_ret (v:=.tuple #[.agg #[.int .u64 c.s0,.int .u64 c.s1,.int .u64 c.s2,.int .u64 (mxV c.s3 v c.s2),.int .u64 c.s4,.int .u64 c.s5,.int .u64 c.s6,.int .u64 c.s7,.int .u64 c.s8,.int .u64 c.s9,.int .u64 c.s10,.int .u64 c.s11,.int .u64 c.s12,.int .u64 c.s13,.int .u64 c.s14,.int .u64 c.s15],.bool true]) (by rw [results_cell_tmp Tryz.results110];simp [asAddr,Result.andThen,zbv _ _ _ ({ c with s3:=(mxV c.s3 v c.s2) }:Reg) (zaQ W _ _)]) rfl ?_
 exact ⟨rfl,zbe W _ _ _⟩
theorem ztZ (c:Reg) (m v:Int) (hm:decide (zay 261≤m)=true) (W:World):TB 110 #[regV c,.int .i64 m,.int .i64 261,.int .u64 v] W (.tuple #[.agg #[.int .u64 c.s0,.int .u64 c.s1,.int .u64 c.s2,.int .u64 c.s3,.int .u64 c.s4,.int .u64 c.s5,.int .u64 c.s6,.int .u64 c.s7,.int .u64 c.s8,.int .u64 c.s9,.int .u64 (bits .and .u64 v 18446744073709551613),.int .u64 c.s11,.int .u64 c.s12,.int .u64 c.s13,.int .u64 c.s14,.int .u64 c.s15],.bool true]):=by
 go_enter Tryz.func110,Tryz.ntmps110
 go_upto_region 6 with (first | ((first | (go_at_call 152;with_reducible refine (zbE m 261 true hm (by decide) _).mono ?_) | (go_at_call 149;with_reducible refine (zhX _ _).mono ?_) | (go_at_call 153;with_reducible refine (zkL _ _ _).mono ?_));rintro e w' ⟨rfl,rfl⟩) | fail)
 refine wp_region_lit ?_
 refine zbw rfl 25 (.tmp 4) rfl _ (regV ({ c with s10:=(bits .and .u64 v 18446744073709551613) }:Reg)) rfl (zby _ _ ({ c with s10:=(bits .and .u64 v 18446744073709551613) }:Reg) (zbt W _ _)) ?_
 refine zbu rfl 25 (.tmp 8) (.tmp 28) rfl _ (regV ({ c with s10:=(bits .and .u64 v 18446744073709551613) }:Reg)) rfl rfl (store_at _ _ _ ({ c with s10:=(bits .and .u64 v 18446744073709551613) }:Reg) (zaQ W _ _) rfl) ?_
 go_wp2
 refine bodyPost_ret (v:=.tuple #[.agg #[.int .u64 c.s0,.int .u64 c.s1,.int .u64 c.s2,.int .u64 c.s3,.int .u64 c.s4,.int .u64 c.s5,.int .u64 c.s6,.int .u64 c.s7,.int .u64 c.s8,.int .u64 c.s9,.int .u64 (bits .and .u64 v 18446744073709551613),.int .u64 c.s11,.int .u64 c.s12,.int .u64 c.s13,.int .u64 c.s14,.int .u64 c.s15],.bool true]) (by rw [results_cell_tmp Tryz.results110];simp [asAddr,Result.andThen,zbv _ _ _ ({ c with s10:=(bits .and .u64 v 18446744073709551613) }:Reg) (zaQ W _ _)]) rfl ?_
 exact ⟨rfl,zbe W _ _ _⟩
theorem zmq (c:Reg) (m v:Int) (hm:decide (zay 320≤m)=true) (W:World):TB 110 #[regV c,.int .i64 m,.int .i64 320,.int .u64 v] W (.tuple #[.agg #[.int .u64 c.s0,.int .u64 c.s1,.int .u64 c.s2,.int .u64 c.s3,.int .u64 c.s4,.int .u64 c.s5,.int .u64 c.s6,.int .u64 c.s7,.int .u64 c.s8,.int .u64 c.s9,.int .u64 c.s10,.int .u64 v,.int .u64 c.s12,.int .u64 c.s13,.int .u64 c.s14,.int .u64 c.s15],.bool true]):=by
 go_enter Tryz.func110,Tryz.ntmps110
 go_upto_region 6 with (first | ((first | (go_at_call 152;with_reducible refine (zbE m 320 true hm (by decide) _).mono ?_) | (go_at_call 149;with_reducible refine (zin _ _).mono ?_) | (go_at_call 153;with_reducible refine (zut _ _ _).mono ?_));rintro e w' ⟨rfl,rfl⟩) | fail)
 refine wp_region_lit ?_
 refine zbw rfl 25 (.tmp 4) rfl _ (regV ({ c with s11:=v }:Reg)) rfl (zby _ _ ({ c with s11:=v }:Reg) (zbt W _ _)) ?_
 refine zbu rfl 25 (.tmp 8) (.tmp 28) rfl _ (regV ({ c with s11:=v }:Reg)) rfl rfl (store_at _ _ _ ({ c with s11:=v }:Reg) (zaQ W _ _) rfl) ?_
 go_wp2
 refine bodyPost_ret (v:=.tuple #[.agg #[.int .u64 c.s0,.int .u64 c.s1,.int .u64 c.s2,.int .u64 c.s3,.int .u64 c.s4,.int .u64 c.s5,.int .u64 c.s6,.int .u64 c.s7,.int .u64 c.s8,.int .u64 c.s9,.int .u64 c.s10,.int .u64 v,.int .u64 c.s12,.int .u64 c.s13,.int .u64 c.s14,.int .u64 c.s15],.bool true]) (by rw [results_cell_tmp Tryz.results110];simp [asAddr,Result.andThen,zbv _ _ _ ({ c with s11:=v }:Reg) (zaQ W _ _)]) rfl ?_
 exact ⟨rfl,zbe W _ _ _⟩
theorem zwi (c:Reg) (m v:Int) (hm:decide (zay 321≤m)=true) (W:World):TB 110 #[regV c,.int .i64 m,.int .i64 321,.int .u64 v] W (.tuple #[.agg #[.int .u64 c.s0,.int .u64 c.s1,.int .u64 c.s2,.int .u64 c.s3,.int .u64 c.s4,.int .u64 c.s5,.int .u64 c.s6,.int .u64 c.s7,.int .u64 c.s8,.int .u64 c.s9,.int .u64 c.s10,.int .u64 c.s11,.int .u64 (bits .and .u64 v 18446744073709551614),.int .u64 c.s13,.int .u64 c.s14,.int .u64 c.s15],.bool true]):=by
 go_enter Tryz.func110,Tryz.ntmps110
 go_upto_region 6 with (first | ((first | (go_at_call 152;with_reducible refine (zbE m 321 true hm (by decide) _).mono ?_) | (go_at_call 149;with_reducible refine (zji _ _).mono ?_) | (go_at_call 153;with_reducible refine (zqg _ _ _).mono ?_));rintro e w' ⟨rfl,rfl⟩) | fail)
 refine wp_region_lit ?_
 refine zbw rfl 25 (.tmp 4) rfl _ (regV ({ c with s12:=(bits .and .u64 v 18446744073709551614) }:Reg)) rfl (zby _ _ ({ c with s12:=(bits .and .u64 v 18446744073709551614) }:Reg) (zbt W _ _)) ?_
 refine zbu rfl 25 (.tmp 8) (.tmp 28) rfl _ (regV ({ c with s12:=(bits .and .u64 v 18446744073709551614) }:Reg)) rfl rfl (store_at _ _ _ ({ c with s12:=(bits .and .u64 v 18446744073709551614) }:Reg) (zaQ W _ _) rfl) ?_
 go_wp2
 refine bodyPost_ret (v:=.tuple #[.agg #[.int .u64 c.s0,.int .u64 c.s1,.int .u64 c.s2,.int .u64 c.s3,.int .u64 c.s4,.int .u64 c.s5,.int .u64 c.s6,.int .u64 c.s7,.int .u64 c.s8,.int .u64 c.s9,.int .u64 c.s10,.int .u64 c.s11,.int .u64 (bits .and .u64 v 18446744073709551614),.int .u64 c.s13,.int .u64 c.s14,.int .u64 c.s15],.bool true]) (by rw [results_cell_tmp Tryz.results110];simp [asAddr,Result.andThen,zbv _ _ _ ({ c with s12:=(bits .and .u64 v 18446744073709551614) }:Reg) (zaQ W _ _)]) rfl ?_
 exact ⟨rfl,zbe W _ _ _⟩
theorem ztv (c:Reg) (m v:Int) (hm:decide (zay 322≤m)=true) (W:World):TB 110 #[regV c,.int .i64 m,.int .i64 322,.int .u64 v] W (.tuple #[.agg #[.int .u64 c.s0,.int .u64 c.s1,.int .u64 c.s2,.int .u64 c.s3,.int .u64 c.s4,.int .u64 c.s5,.int .u64 c.s6,.int .u64 c.s7,.int .u64 c.s8,.int .u64 c.s9,.int .u64 c.s10,.int .u64 c.s11,.int .u64 c.s12,.int .u64 v,.int .u64 c.s14,.int .u64 c.s15],.bool true]):=by
 go_enter Tryz.func110,Tryz.ntmps110
 go_upto_region 6 with (first | ((first | (go_at_call 152;with_reducible refine (zbE m 322 true hm (by decide) _).mono ?_) | (go_at_call 149;with_reducible refine (zjQ _ _).mono ?_) | (go_at_call 153;with_reducible refine (zwy _ _ _).mono ?_));rintro e w' ⟨rfl,rfl⟩) | fail)
 refine wp_region_lit ?_
 refine zbw rfl 25 (.tmp 4) rfl _ (regV ({ c with s13:=v }:Reg)) rfl (zby _ _ ({ c with s13:=v }:Reg) (zbt W _ _)) ?_
 refine zbu rfl 25 (.tmp 8) (.tmp 28) rfl _ (regV ({ c with s13:=v }:Reg)) rfl rfl (store_at _ _ _ ({ c with s13:=v }:Reg) (zaQ W _ _) rfl) ?_
 go_wp2
 refine bodyPost_ret (v:=.tuple #[.agg #[.int .u64 c.s0,.int .u64 c.s1,.int .u64 c.s2,.int .u64 c.s3,.int .u64 c.s4,.int .u64 c.s5,.int .u64 c.s6,.int .u64 c.s7,.int .u64 c.s8,.int .u64 c.s9,.int .u64 c.s10,.int .u64 c.s11,.int .u64 c.s12,.int .u64 v,.int .u64 c.s14,.int .u64 c.s15],.bool true]) (by rw [results_cell_tmp Tryz.results110];simp [asAddr,Result.andThen,zbv _ _ _ ({ c with s13:=v }:Reg) (zaQ W _ _)]) rfl ?_
 exact ⟨rfl,zbe W _ _ _⟩
theorem zl6 (c:Reg) (m v:Int) (hm:decide (zay 323≤m)=true) (W:World):TB 110 #[regV c,.int .i64 m,.int .i64 323,.int .u64 v] W (.tuple #[.agg #[.int .u64 c.s0,.int .u64 c.s1,.int .u64 c.s2,.int .u64 c.s3,.int .u64 c.s4,.int .u64 c.s5,.int .u64 c.s6,.int .u64 c.s7,.int .u64 c.s8,.int .u64 c.s9,.int .u64 c.s10,.int .u64 c.s11,.int .u64 c.s12,.int .u64 c.s13,.int .u64 v,.int .u64 c.s15],.bool true]):=by
 go_enter Tryz.func110,Tryz.ntmps110
 go_upto_region 6 with (first | ((first | (go_at_call 152;with_reducible refine (zbE m 323 true hm (by decide) _).mono ?_) | (go_at_call 149;with_reducible refine (ziz _ _).mono ?_) | (go_at_call 153;with_reducible refine (zta _ _ _).mono ?_));rintro e w' ⟨rfl,rfl⟩) | fail)
 refine wp_region_lit ?_
 refine zbw rfl 25 (.tmp 4) rfl _ (regV ({ c with s14:=v }:Reg)) rfl (zby _ _ ({ c with s14:=v }:Reg) (zbt W _ _)) ?_
 refine zbu rfl 25 (.tmp 8) (.tmp 28) rfl _ (regV ({ c with s14:=v }:Reg)) rfl rfl (store_at _ _ _ ({ c with s14:=v }:Reg) (zaQ W _ _) rfl) ?_
 go_wp2
 refine bodyPost_ret (v:=.tuple #[.agg #[.int .u64 c.s0,.int .u64 c.s1,.int .u64 c.s2,.int .u64 c.s3,.int .u64 c.s4,.int .u64 c.s5,.int .u64 c.s6,.int .u64 c.s7,.int .u64 c.s8,.int .u64 c.s9,.int .u64 c.s10,.int .u64 c.s11,.int .u64 c.s12,.int .u64 c.s13,.int .u64 v,.int .u64 c.s15],.bool true]) (by rw [results_cell_tmp Tryz.results110];simp [asAddr,Result.andThen,zbv _ _ _ ({ c with s14:=v }:Reg) (zaQ W _ _)]) rfl ?_
 exact ⟨rfl,zbe W _ _ _⟩
theorem zlV (c:Reg) (m v:Int) (hm:decide (zay 324≤m)=true) (W:World):TB 110 #[regV c,.int .i64 m,.int .i64 324,.int .u64 v] W (.tuple #[.agg #[.int .u64 c.s0,.int .u64 c.s1,.int .u64 c.s2,.int .u64 c.s3,.int .u64 (mxV c.s4 v (bits .and .u64 c.s2 2)),.int .u64 c.s5,.int .u64 c.s6,.int .u64 c.s7,.int .u64 c.s8,.int .u64 c.s9,.int .u64 c.s10,.int .u64 c.s11,.int .u64 c.s12,.int .u64 c.s13,.int .u64 c.s14,.int .u64 c.s15],.bool true]):=by
 go_enter Tryz.func110,Tryz.ntmps110
 go_upto_region 20 with (first | ((first | (go_at_call 152;with_reducible refine (zbE m 324 true hm (by decide) _).mono ?_) | (go_at_call 149;with_reducible refine (zjr _ _).mono ?_) | (go_at_call 154;with_reducible refine (zgC _ _ _ _).mono ?_));rintro e w' ⟨rfl,rfl⟩) | fail)
 refine wp_region_lit ?_
 refine zbw rfl 25 (.tmp 4) rfl _ (regV ({ c with s4:=(mxV c.s4 v (bits .and .u64 c.s2 2)) }:Reg)) rfl (zby _ _ ({ c with s4:=(mxV c.s4 v (bits .and .u64 c.s2 2)) }:Reg) (zbt W _ _)) ?_
 refine zbu rfl 25 (.tmp 8) (.tmp 66) rfl _ (regV ({ c with s4:=(mxV c.s4 v (bits .and .u64 c.s2 2)) }:Reg)) rfl rfl (store_at _ _ _ ({ c with s4:=(mxV c.s4 v (bits .and .u64 c.s2 2)) }:Reg) (zaQ W _ _) rfl) ?_
 go_wp2
 refine bodyPost_ret (v:=.tuple #[.agg #[.int .u64 c.s0,.int .u64 c.s1,.int .u64 c.s2,.int .u64 c.s3,.int .u64 (mxV c.s4 v (bits .and .u64 c.s2 2)),.int .u64 c.s5,.int .u64 c.s6,.int .u64 c.s7,.int .u64 c.s8,.int .u64 c.s9,.int .u64 c.s10,.int .u64 c.s11,.int .u64 c.s12,.int .u64 c.s13,.int .u64 c.s14,.int .u64 c.s15],.bool true]) (by rw [results_cell_tmp Tryz.results110];simp [asAddr,Result.andThen,zbv _ _ _ ({ c with s4:=(mxV c.s4 v (bits .and .u64 c.s2 2)) }:Reg) (zaQ W _ _)]) rfl ?_
 exact ⟨rfl,zbe W _ _ _⟩
theorem zrE (c:Reg) (m v:Int) (hm:decide (zay 384≤m)=true) (W:World):TB 110 #[regV c,.int .i64 m,.int .i64 384,.int .u64 v] W (.tuple #[.agg #[.int .u64 c.s0,.int .u64 c.s1,.int .u64 c.s2,.int .u64 c.s3,.int .u64 c.s4,.int .u64 c.s5,.int .u64 c.s6,.int .u64 c.s7,.int .u64 c.s8,.int .u64 c.s9,.int .u64 c.s10,.int .u64 c.s11,.int .u64 c.s12,.int .u64 c.s13,.int .u64 c.s14,.int .u64 (spV c.s15 v)],.bool true]):=by
 go_enter Tryz.func110,Tryz.ntmps110
 go_upto_region 6 with (first | ((first | (go_at_call 152;with_reducible refine (zbE m 384 true hm (by decide) _).mono ?_) | (go_at_call 149;with_reducible refine (zhT _ _).mono ?_) | (go_at_call 153;with_reducible refine (zwX _ _ _).mono ?_));rintro e w' ⟨rfl,rfl⟩) | fail)
 refine wp_region_lit ?_
 refine zbw rfl 25 (.tmp 4) rfl _ (regV ({ c with s15:=(spV c.s15 v) }:Reg)) rfl (zby _ _ ({ c with s15:=(spV c.s15 v) }:Reg) (zbt W _ _)) ?_
 refine zbu rfl 25 (.tmp 8) (.tmp 28) rfl _ (regV ({ c with s15:=(spV c.s15 v) }:Reg)) rfl rfl (store_at _ _ _ ({ c with s15:=(spV c.s15 v) }:Reg) (zaQ W _ _) rfl) ?_
 go_wp2
 refine bodyPost_ret (v:=.tuple #[.agg #[.int .u64 c.s0,.int .u64 c.s1,.int .u64 c.s2,.int .u64 c.s3,.int .u64 c.s4,.int .u64 c.s5,.int .u64 c.s6,.int .u64 c.s7,.int .u64 c.s8,.int .u64 c.s9,.int .u64 c.s10,.int .u64 c.s11,.int .u64 c.s12,.int .u64 c.s13,.int .u64 c.s14,.int .u64 (spV c.s15 v)],.bool true]) (by rw [results_cell_tmp Tryz.results110];simp [asAddr,Result.andThen,zbv _ _ _ ({ c with s15:=(spV c.s15 v) }:Reg) (zaQ W _ _)]) rfl ?_
 exact ⟨rfl,zbe W _ _ _⟩
theorem zvr (c:Reg) (m v:Int) (hm:decide (zay 768≤m)=true) (W:World):TB 110 #[regV c,.int .i64 m,.int .i64 768,.int .u64 v] W (.tuple #[.agg #[.int .u64 (stV v),.int .u64 c.s1,.int .u64 c.s2,.int .u64 c.s3,.int .u64 c.s4,.int .u64 c.s5,.int .u64 c.s6,.int .u64 c.s7,.int .u64 c.s8,.int .u64 c.s9,.int .u64 c.s10,.int .u64 c.s11,.int .u64 c.s12,.int .u64 c.s13,.int .u64 c.s14,.int .u64 c.s15],.bool true]):=by
 go_enter Tryz.func110,Tryz.ntmps110
 go_upto_region 6 with (first | ((first | (go_at_call 152;with_reducible refine (zbE m 768 true hm (by decide) _).mono ?_) | (go_at_call 149;with_reducible refine (zhI _ _).mono ?_) | (go_at_call 153;with_reducible refine (zqX _ _ _).mono ?_));rintro e w' ⟨rfl,rfl⟩) | fail)
 refine wp_region_lit ?_
 refine zbw rfl 25 (.tmp 4) rfl _ (regV ({ c with s0:=(stV v) }:Reg)) rfl (zby _ _ ({ c with s0:=(stV v) }:Reg) (zbt W _ _)) ?_
 refine zbu rfl 25 (.tmp 8) (.tmp 28) rfl _ (regV ({ c with s0:=(stV v) }:Reg)) rfl rfl (store_at _ _ _ ({ c with s0:=(stV v) }:Reg) (zaQ W _ _) rfl) ?_
 go_wp2
 refine bodyPost_ret (v:=.tuple #[.agg #[.int .u64 (stV v),.int .u64 c.s1,.int .u64 c.s2,.int .u64 c.s3,.int .u64 c.s4,.int .u64 c.s5,.int .u64 c.s6,.int .u64 c.s7,.int .u64 c.s8,.int .u64 c.s9,.int .u64 c.s10,.int .u64 c.s11,.int .u64 c.s12,.int .u64 c.s13,.int .u64 c.s14,.int .u64 c.s15],.bool true]) (by rw [results_cell_tmp Tryz.results110];simp [asAddr,Result.andThen,zbv _ _ _ ({ c with s0:=(stV v) }:Reg) (zaQ W _ _)]) rfl ?_
 exact ⟨rfl,zbe W _ _ _⟩
theorem zyj (c:Reg) (m v:Int) (hm:decide (zay 769≤m)=true) (W:World):TB 110 #[regV c,.int .i64 m,.int .i64 769,.int .u64 v] W (.tuple #[.agg #[.int .u64 c.s0,.int .u64 c.s1,.int .u64 c.s2,.int .u64 c.s3,.int .u64 c.s4,.int .u64 c.s5,.int .u64 c.s6,.int .u64 c.s7,.int .u64 c.s8,.int .u64 c.s9,.int .u64 c.s10,.int .u64 c.s11,.int .u64 c.s12,.int .u64 c.s13,.int .u64 c.s14,.int .u64 c.s15],.bool true]):=by
 go_enter Tryz.func110,Tryz.ntmps110
 go_upto_region 20 with (first | ((first | (go_at_call 152;with_reducible refine (zbE m 769 true hm (by decide) _).mono ?_) | (go_at_call 149;with_reducible refine (zka _ _).mono ?_));rintro e w' ⟨rfl,rfl⟩) | fail)
 refine wp_region_lit ?_
 refine zbw rfl 25 (.tmp 4) rfl _ (regV c) rfl (zby _ _ c (zbt W _ _)) ?_
 refine zbu rfl 25 (.tmp 8) (.tmp 66) rfl _ (regV c) rfl rfl (store_at _ _ _ c (zaQ W _ _) rfl) ?_
 go_wp2
 refine bodyPost_ret (v:=.tuple #[.agg #[.int .u64 c.s0,.int .u64 c.s1,.int .u64 c.s2,.int .u64 c.s3,.int .u64 c.s4,.int .u64 c.s5,.int .u64 c.s6,.int .u64 c.s7,.int .u64 c.s8,.int .u64 c.s9,.int .u64 c.s10,.int .u64 c.s11,.int .u64 c.s12,.int .u64 c.s13,.int .u64 c.s14,.int .u64 c.s15],.bool true]) (by rw [results_cell_tmp Tryz.results110];simp [asAddr,Result.andThen,zbv _ _ _ c (zaQ W _ _)]) rfl ?_
 exact ⟨rfl,zbe W _ _ _⟩
theorem zsS (c:Reg) (m v:Int) (hm:decide (zay 770≤m)=true) (W:World):TB 110 #[regV c,.int .i64 m,.int .i64 770,.int .u64 v] W (.tuple #[.agg #[.int .u64 c.s0,.int .u64 (bits .and .u64 v 46079),.int .u64 c.s2,.int .u64 c.s3,.int .u64 c.s4,.int .u64 c.s5,.int .u64 c.s6,.int .u64 c.s7,.int .u64 c.s8,.int .u64 c.s9,.int .u64 c.s10,.int .u64 c.s11,.int .u64 c.s12,.int .u64 c.s13,.int .u64 c.s14,.int .u64 c.s15],.bool true]):=by
 go_enter Tryz.func110,Tryz.ntmps110
 go_upto_region 6 with (first | ((first | (go_at_call 152;with_reducible refine (zbE m 770 true hm (by decide) _).mono ?_) | (go_at_call 149;with_reducible refine (zjB _ _).mono ?_) | (go_at_call 153;with_reducible refine (zwn _ _ _).mono ?_));rintro e w' ⟨rfl,rfl⟩) | fail)
 refine wp_region_lit ?_
 refine zbw rfl 25 (.tmp 4) rfl _ (regV ({ c with s1:=(bits .and .u64 v 46079) }:Reg)) rfl (zby _ _ ({ c with s1:=(bits .and .u64 v 46079) }:Reg) (zbt W _ _)) ?_
 refine zbu rfl 25 (.tmp 8) (.tmp 28) rfl _ (regV ({ c with s1:=(bits .and .u64 v 46079) }:Reg)) rfl rfl (store_at _ _ _ ({ c with s1:=(bits .and .u64 v 46079) }:Reg) (zaQ W _ _) rfl) ?_
 go_wp2
 refine bodyPost_ret (v:=.tuple #[.agg #[.int .u64 c.s0,.int .u64 (bits .and .u64 v 46079),.int .u64 c.s2,.int .u64 c.s3,.int .u64 c.s4,.int .u64 c.s5,.int .u64 c.s6,.int .u64 c.s7,.int .u64 c.s8,.int .u64 c.s9,.int .u64 c.s10,.int .u64 c.s11,.int .u64 c.s12,.int .u64 c.s13,.int .u64 c.s14,.int .u64 c.s15],.bool true]) (by rw [results_cell_tmp Tryz.results110];simp [asAddr,Result.andThen,zbv _ _ _ ({ c with s1:=(bits .and .u64 v 46079) }:Reg) (zaQ W _ _)]) rfl ?_
 exact ⟨rfl,zbe W _ _ _⟩
theorem zvT (c:Reg) (m v:Int) (hm:decide (zay 771≤m)=true) (W:World):TB 110 #[regV c,.int .i64 m,.int .i64 771,.int .u64 v] W (.tuple #[.agg #[.int .u64 c.s0,.int .u64 c.s1,.int .u64 (bits .and .u64 v 546),.int .u64 c.s3,.int .u64 c.s4,.int .u64 c.s5,.int .u64 c.s6,.int .u64 c.s7,.int .u64 c.s8,.int .u64 c.s9,.int .u64 c.s10,.int .u64 c.s11,.int .u64 c.s12,.int .u64 c.s13,.int .u64 c.s14,.int .u64 c.s15],.bool true]):=by
 go_enter Tryz.func110,Tryz.ntmps110
 go_upto_region 6 with (first | ((first | (go_at_call 152;with_reducible refine (zbE m 771 true hm (by decide) _).mono ?_) | (go_at_call 149;with_reducible refine (zhD _ _).mono ?_) | (go_at_call 153;with_reducible refine (zrJ _ _ _).mono ?_));rintro e w' ⟨rfl,rfl⟩) | fail)
 refine wp_region_lit ?_
 refine zbw rfl 25 (.tmp 4) rfl _ (regV ({ c with s2:=(bits .and .u64 v 546) }:Reg)) rfl (zby _ _ ({ c with s2:=(bits .and .u64 v 546) }:Reg) (zbt W _ _)) ?_
 refine zbu rfl 25 (.tmp 8) (.tmp 28) rfl _ (regV ({ c with s2:=(bits .and .u64 v 546) }:Reg)) rfl rfl (store_at _ _ _ ({ c with s2:=(bits .and .u64 v 546) }:Reg) (zaQ W _ _) rfl) ?_
 go_wp2
 refine bodyPost_ret (v:=.tuple #[.agg #[.int .u64 c.s0,.int .u64 c.s1,.int .u64 (bits .and .u64 v 546),.int .u64 c.s3,.int .u64 c.s4,.int .u64 c.s5,.int .u64 c.s6,.int .u64 c.s7,.int .u64 c.s8,.int .u64 c.s9,.int .u64 c.s10,.int .u64 c.s11,.int .u64 c.s12,.int .u64 c.s13,.int .u64 c.s14,.int .u64 c.s15],.bool true]) (by rw [results_cell_tmp Tryz.results110];simp [asAddr,Result.andThen,zbv _ _ _ ({ c with s2:=(bits .and .u64 v 546) }:Reg) (zaQ W _ _)]) rfl ?_
 exact ⟨rfl,zbe W _ _ _⟩
theorem zqv (c:Reg) (m v:Int) (hm:decide (zay 772≤m)=true) (W:World):TB 110 #[regV c,.int .i64 m,.int .i64 772,.int .u64 v] W (.tuple #[.agg #[.int .u64 c.s0,.int .u64 c.s1,.int .u64 c.s2,.int .u64 (bits .and .u64 v 2730),.int .u64 c.s4,.int .u64 c.s5,.int .u64 c.s6,.int .u64 c.s7,.int .u64 c.s8,.int .u64 c.s9,.int .u64 c.s10,.int .u64 c.s11,.int .u64 c.s12,.int .u64 c.s13,.int .u64 c.s14,.int .u64 c.s15],.bool true]):=by
 go_enter Tryz.func110,Tryz.ntmps110
 go_upto_region 6 with (first | ((first | (go_at_call 152;with_reducible refine (zbE m 772 true hm (by decide) _).mono ?_) | (go_at_call 149;with_reducible refine (zi9 _ _).mono ?_) | (go_at_call 153;with_reducible refine (zmM _ _ _).mono ?_));rintro e w' ⟨rfl,rfl⟩) | fail)
 refine wp_region_lit ?_
 refine zbw rfl 25 (.tmp 4) rfl _ (regV ({ c with s3:=(bits .and .u64 v 2730) }:Reg)) rfl (zby _ _ ({ c with s3:=(bits .and .u64 v 2730) }:Reg) (zbt W _ _)) ?_
 refine zbu rfl 25 (.tmp 8) (.tmp 28) rfl _ (regV ({ c with s3:=(bits .and .u64 v 2730) }:Reg)) rfl rfl (store_at _ _ _ ({ c with s3:=(bits .and .u64 v 2730) }:Reg) (zaQ W _ _) rfl) ?_
 go_wp2
 refine bodyPost_ret (v:=.tuple #[.agg #[.int .u64 c.s0,.int .u64 c.s1,.int .u64 c.s2,.int .u64 (bits .and .u64 v 2730),.int .u64 c.s4,.int .u64 c.s5,.int .u64 c.s6,.int .u64 c.s7,.int .u64 c.s8,.int .u64 c.s9,.int .u64 c.s10,.int .u64 c.s11,.int .u64 c.s12,.int .u64 c.s13,.int .u64 c.s14,.int .u64 c.s15],.bool true]) (by rw [results_cell_tmp Tryz.results110];simp [asAddr,Result.andThen,zbv _ _ _ ({ c with s3:=(bits .and .u64 v 2730) }:Reg) (zaQ W _ _)]) rfl ?_
 exact ⟨rfl,zbe W _ _ _⟩
theorem zuz (c:Reg) (m v:Int) (hm:decide (zay 773≤m)=true) (W:World):TB 110 #[regV c,.int .i64 m,.int .i64 773,.int .u64 v] W (.tuple #[.agg #[.int .u64 c.s0,.int .u64 c.s1,.int .u64 c.s2,.int .u64 c.s3,.int .u64 c.s4,.int .u64 (bits .and .u64 v 18446744073709551613),.int .u64 c.s6,.int .u64 c.s7,.int .u64 c.s8,.int .u64 c.s9,.int .u64 c.s10,.int .u64 c.s11,.int .u64 c.s12,.int .u64 c.s13,.int .u64 c.s14,.int .u64 c.s15],.bool true]):=by
 go_enter Tryz.func110,Tryz.ntmps110
 go_upto_region 6 with (first | ((first | (go_at_call 152;with_reducible refine (zbE m 773 true hm (by decide) _).mono ?_) | (go_at_call 149;with_reducible refine (zhA _ _).mono ?_) | (go_at_call 153;with_reducible refine (zkH _ _ _).mono ?_));rintro e w' ⟨rfl,rfl⟩) | fail)
 refine wp_region_lit ?_
 refine zbw rfl 25 (.tmp 4) rfl _ (regV ({ c with s5:=(bits .and .u64 v 18446744073709551613) }:Reg)) rfl (zby _ _ ({ c with s5:=(bits .and .u64 v 18446744073709551613) }:Reg) (zbt W _ _)) ?_
 refine zbu rfl 25 (.tmp 8) (.tmp 28) rfl _ (regV ({ c with s5:=(bits .and .u64 v 18446744073709551613) }:Reg)) rfl rfl (store_at _ _ _ ({ c with s5:=(bits .and .u64 v 18446744073709551613) }:Reg) (zaQ W _ _) rfl) ?_
 go_wp2
 refine bodyPost_ret (v:=.tuple #[.agg #[.int .u64 c.s0,.int .u64 c.s1,.int .u64 c.s2,.int .u64 c.s3,.int .u64 c.s4,.int .u64 (bits .and .u64 v 18446744073709551613),.int .u64 c.s6,.int .u64 c.s7,.int .u64 c.s8,.int .u64 c.s9,.int .u64 c.s10,.int .u64 c.s11,.int .u64 c.s12,.int .u64 c.s13,.int .u64 c.s14,.int .u64 c.s15],.bool true]) (by rw [results_cell_tmp Tryz.results110];simp [asAddr,Result.andThen,zbv _ _ _ ({ c with s5:=(bits .and .u64 v 18446744073709551613) }:Reg) (zaQ W _ _)]) rfl ?_
 exact ⟨rfl,zbe W _ _ _⟩
theorem zu6 (c:Reg) (m v:Int) (hm:decide (zay 832≤m)=true) (W:World):TB 110 #[regV c,.int .i64 m,.int .i64 832,.int .u64 v] W (.tuple #[.agg #[.int .u64 c.s0,.int .u64 c.s1,.int .u64 c.s2,.int .u64 c.s3,.int .u64 c.s4,.int .u64 c.s5,.int .u64 v,.int .u64 c.s7,.int .u64 c.s8,.int .u64 c.s9,.int .u64 c.s10,.int .u64 c.s11,.int .u64 c.s12,.int .u64 c.s13,.int .u64 c.s14,.int .u64 c.s15],.bool true]):=by
 go_enter Tryz.func110,Tryz.ntmps110
 go_upto_region 6 with (first | ((first | (go_at_call 152;with_reducible refine (zbE m 832 true hm (by decide) _).mono ?_) | (go_at_call 149;with_reducible refine (zjv _ _).mono ?_) | (go_at_call 153;with_reducible refine (zvX _ _ _).mono ?_));rintro e w' ⟨rfl,rfl⟩) | fail)
 refine wp_region_lit ?_
 refine zbw rfl 25 (.tmp 4) rfl _ (regV ({ c with s6:=v }:Reg)) rfl (zby _ _ ({ c with s6:=v }:Reg) (zbt W _ _)) ?_
 refine zbu rfl 25 (.tmp 8) (.tmp 28) rfl _ (regV ({ c with s6:=v }:Reg)) rfl rfl (store_at _ _ _ ({ c with s6:=v }:Reg) (zaQ W _ _) rfl) ?_
 go_wp2
 refine bodyPost_ret (v:=.tuple #[.agg #[.int .u64 c.s0,.int .u64 c.s1,.int .u64 c.s2,.int .u64 c.s3,.int .u64 c.s4,.int .u64 c.s5,.int .u64 v,.int .u64 c.s7,.int .u64 c.s8,.int .u64 c.s9,.int .u64 c.s10,.int .u64 c.s11,.int .u64 c.s12,.int .u64 c.s13,.int .u64 c.s14,.int .u64 c.s15],.bool true]) (by rw [results_cell_tmp Tryz.results110];simp [asAddr,Result.andThen,zbv _ _ _ ({ c with s6:=v }:Reg) (zaQ W _ _)]) rfl ?_
 exact ⟨rfl,zbe W _ _ _⟩
theorem zk9 (c:Reg) (m v:Int) (hm:decide (zay 833≤m)=true) (W:World):TB 110 #[regV c,.int .i64 m,.int .i64 833,.int .u64 v] W (.tuple #[.agg #[.int .u64 c.s0,.int .u64 c.s1,.int .u64 c.s2,.int .u64 c.s3,.int .u64 c.s4,.int .u64 c.s5,.int .u64 c.s6,.int .u64 (bits .and .u64 v 18446744073709551614),.int .u64 c.s8,.int .u64 c.s9,.int .u64 c.s10,.int .u64 c.s11,.int .u64 c.s12,.int .u64 c.s13,.int .u64 c.s14,.int .u64 c.s15],.bool true]):=by
 go_enter Tryz.func110,Tryz.ntmps110
 go_upto_region 6 with (first | ((first | (go_at_call 152;with_reducible refine (zbE m 833 true hm (by decide) _).mono ?_) | (go_at_call 149;with_reducible refine (zjl _ _).mono ?_) | (go_at_call 153;with_reducible refine (zr2 _ _ _).mono ?_));rintro e w' ⟨rfl,rfl⟩) | fail)
 refine wp_region_lit ?_
 refine zbw rfl 25 (.tmp 4) rfl _ (regV ({ c with s7:=(bits .and .u64 v 18446744073709551614) }:Reg)) rfl (zby _ _ ({ c with s7:=(bits .and .u64 v 18446744073709551614) }:Reg) (zbt W _ _)) ?_
 refine zbu rfl 25 (.tmp 8) (.tmp 28) rfl _ (regV ({ c with s7:=(bits .and .u64 v 18446744073709551614) }:Reg)) rfl rfl (store_at _ _ _ ({ c with s7:=(bits .and .u64 v 18446744073709551614) }:Reg) (zaQ W _ _) rfl) ?_
 go_wp2
 refine bodyPost_ret (v:=.tuple #[.agg #[.int .u64 c.s0,.int .u64 c.s1,.int .u64 c.s2,.int .u64 c.s3,.int .u64 c.s4,.int .u64 c.s5,.int .u64 c.s6,.int .u64 (bits .and .u64 v 18446744073709551614),.int .u64 c.s8,.int .u64 c.s9,.int .u64 c.s10,.int .u64 c.s11,.int .u64 c.s12,.int .u64 c.s13,.int .u64 c.s14,.int .u64 c.s15],.bool true]) (by rw [results_cell_tmp Tryz.results110];simp [asAddr,Result.andThen,zbv _ _ _ ({ c with s7:=(bits .and .u64 v 18446744073709551614) }:Reg) (zaQ W _ _)]) rfl ?_
 exact ⟨rfl,zbe W _ _ _⟩
theorem zrn (c:Reg) (m v:Int) (hm:decide (zay 834≤m)=true) (W:World):TB 110 #[regV c,.int .i64 m,.int .i64 834,.int .u64 v] W (.tuple #[.agg #[.int .u64 c.s0,.int .u64 c.s1,.int .u64 c.s2,.int .u64 c.s3,.int .u64 c.s4,.int .u64 c.s5,.int .u64 c.s6,.int .u64 c.s7,.int .u64 v,.int .u64 c.s9,.int .u64 c.s10,.int .u64 c.s11,.int .u64 c.s12,.int .u64 c.s13,.int .u64 c.s14,.int .u64 c.s15],.bool true]):=by
 go_enter Tryz.func110,Tryz.ntmps110
 go_upto_region 6 with (first | ((first | (go_at_call 152;with_reducible refine (zbE m 834 true hm (by decide) _).mono ?_) | (go_at_call 149;with_reducible refine (zi8 _ _).mono ?_) | (go_at_call 153;with_reducible refine (zwu _ _ _).mono ?_));rintro e w' ⟨rfl,rfl⟩) | fail)
 refine wp_region_lit ?_
 refine zbw rfl 25 (.tmp 4) rfl _ (regV ({ c with s8:=v }:Reg)) rfl (zby _ _ ({ c with s8:=v }:Reg) (zbt W _ _)) ?_
 refine zbu rfl 25 (.tmp 8) (.tmp 28) rfl _ (regV ({ c with s8:=v }:Reg)) rfl rfl (store_at _ _ _ ({ c with s8:=v }:Reg) (zaQ W _ _) rfl) ?_
 go_wp2
 refine bodyPost_ret (v:=.tuple #[.agg #[.int .u64 c.s0,.int .u64 c.s1,.int .u64 c.s2,.int .u64 c.s3,.int .u64 c.s4,.int .u64 c.s5,.int .u64 c.s6,.int .u64 c.s7,.int .u64 v,.int .u64 c.s9,.int .u64 c.s10,.int .u64 c.s11,.int .u64 c.s12,.int .u64 c.s13,.int .u64 c.s14,.int .u64 c.s15],.bool true]) (by rw [results_cell_tmp Tryz.results110];simp [asAddr,Result.andThen,zbv _ _ _ ({ c with s8:=v }:Reg) (zaQ W _ _)]) rfl ?_
 exact ⟨rfl,zbe W _ _ _⟩
theorem zvj (c:Reg) (m v:Int) (hm:decide (zay 835≤m)=true) (W:World):TB 110 #[regV c,.int .i64 m,.int .i64 835,.int .u64 v] W (.tuple #[.agg #[.int .u64 c.s0,.int .u64 c.s1,.int .u64 c.s2,.int .u64 c.s3,.int .u64 c.s4,.int .u64 c.s5,.int .u64 c.s6,.int .u64 c.s7,.int .u64 c.s8,.int .u64 v,.int .u64 c.s10,.int .u64 c.s11,.int .u64 c.s12,.int .u64 c.s13,.int .u64 c.s14,.int .u64 c.s15],.bool true]):=by
 go_enter Tryz.func110,Tryz.ntmps110
 go_upto_region 6 with (first | ((first | (go_at_call 152;with_reducible refine (zbE m 835 true hm (by decide) _).mono ?_) | (go_at_call 149;with_reducible refine (zid _ _).mono ?_) | (go_at_call 153;with_reducible refine (zps _ _ _).mono ?_));rintro e w' ⟨rfl,rfl⟩) | fail)
 refine wp_region_lit ?_
 refine zbw rfl 25 (.tmp 4) rfl _ (regV ({ c with s9:=v }:Reg)) rfl (zby _ _ ({ c with s9:=v }:Reg) (zbt W _ _)) ?_
 refine zbu rfl 25 (.tmp 8) (.tmp 28) rfl _ (regV ({ c with s9:=v }:Reg)) rfl rfl (store_at _ _ _ ({ c with s9:=v }:Reg) (zaQ W _ _) rfl) ?_
 go_wp2
 refine bodyPost_ret (v:=.tuple #[.agg #[.int .u64 c.s0,.int .u64 c.s1,.int .u64 c.s2,.int .u64 c.s3,.int .u64 c.s4,.int .u64 c.s5,.int .u64 c.s6,.int .u64 c.s7,.int .u64 c.s8,.int .u64 v,.int .u64 c.s10,.int .u64 c.s11,.int .u64 c.s12,.int .u64 c.s13,.int .u64 c.s14,.int .u64 c.s15],.bool true]) (by rw [results_cell_tmp Tryz.results110];simp [asAddr,Result.andThen,zbv _ _ _ ({ c with s9:=v }:Reg) (zaQ W _ _)]) rfl ?_
 exact ⟨rfl,zbe W _ _ _⟩
theorem zxX (c:Reg) (m v:Int) (hm:decide (zay 836≤m)=true) (W:World):TB 110 #[regV c,.int .i64 m,.int .i64 836,.int .u64 v] W (.tuple #[.agg #[.int .u64 c.s0,.int .u64 c.s1,.int .u64 c.s2,.int .u64 c.s3,.int .u64 (bits .and .u64 v 546),.int .u64 c.s5,.int .u64 c.s6,.int .u64 c.s7,.int .u64 c.s8,.int .u64 c.s9,.int .u64 c.s10,.int .u64 c.s11,.int .u64 c.s12,.int .u64 c.s13,.int .u64 c.s14,.int .u64 c.s15],.bool true]):=by
 go_enter Tryz.func110,Tryz.ntmps110
 go_upto_region 20 with (first | ((first | (go_at_call 152;with_reducible refine (zbE m 836 true hm (by decide) _).mono ?_) | (go_at_call 149;with_reducible refine (zio _ _).mono ?_));rintro e w' ⟨rfl,rfl⟩) | fail)
 refine wp_region_lit ?_
 refine zbw rfl 25 (.tmp 4) rfl _ (regV ({ c with s4:=(bits .and .u64 v 546) }:Reg)) rfl (zby _ _ ({ c with s4:=(bits .and .u64 v 546) }:Reg) (zbt W _ _)) ?_
 refine zbu rfl 25 (.tmp 8) (.tmp 66) rfl _ (regV ({ c with s4:=(bits .and .u64 v 546) }:Reg)) rfl rfl (store_at _ _ _ ({ c with s4:=(bits .and .u64 v 546) }:Reg) (zaQ W _ _) rfl) ?_
 go_wp2
 refine bodyPost_ret (v:=.tuple #[.agg #[.int .u64 c.s0,.int .u64 c.s1,.int .u64 c.s2,.int .u64 c.s3,.int .u64 (bits .and .u64 v 546),.int .u64 c.s5,.int .u64 c.s6,.int .u64 c.s7,.int .u64 c.s8,.int .u64 c.s9,.int .u64 c.s10,.int .u64 c.s11,.int .u64 c.s12,.int .u64 c.s13,.int .u64 c.s14,.int .u64 c.s15],.bool true]) (by rw [results_cell_tmp Tryz.results110];simp [asAddr,Result.andThen,zbv _ _ _ ({ c with s4:=(bits .and .u64 v 546) }:Reg) (zaQ W _ _)]) rfl ?_
 exact ⟨rfl,zbe W _ _ _⟩
theorem zxT (c:Reg) (m v:Int) (hm:decide (zay 2816≤m)=true) (W:World):TB 110 #[regV c,.int .i64 m,.int .i64 2816,.int .u64 v] W (.tuple #[.agg #[.int .u64 c.s0,.int .u64 c.s1,.int .u64 c.s2,.int .u64 c.s3,.int .u64 c.s4,.int .u64 c.s5,.int .u64 c.s6,.int .u64 c.s7,.int .u64 c.s8,.int .u64 c.s9,.int .u64 c.s10,.int .u64 c.s11,.int .u64 c.s12,.int .u64 c.s13,.int .u64 c.s14,.int .u64 c.s15],.bool true]):=by
 go_enter Tryz.func110,Tryz.ntmps110
 go_upto_region 20 with (first | ((first | (go_at_call 152;with_reducible refine (zbE m 2816 true hm (by decide) _).mono ?_) | (go_at_call 149;with_reducible refine (ziq _ _).mono ?_));rintro e w' ⟨rfl,rfl⟩) | fail)
 refine wp_region_lit ?_
 refine zbw rfl 25 (.tmp 4) rfl _ (regV c) rfl (zby _ _ c (zbt W _ _)) ?_
 refine zbu rfl 25 (.tmp 8) (.tmp 66) rfl _ (regV c) rfl rfl (store_at _ _ _ c (zaQ W _ _) rfl) ?_
 go_wp2
 refine bodyPost_ret (v:=.tuple #[.agg #[.int .u64 c.s0,.int .u64 c.s1,.int .u64 c.s2,.int .u64 c.s3,.int .u64 c.s4,.int .u64 c.s5,.int .u64 c.s6,.int .u64 c.s7,.int .u64 c.s8,.int .u64 c.s9,.int .u64 c.s10,.int .u64 c.s11,.int .u64 c.s12,.int .u64 c.s13,.int .u64 c.s14,.int .u64 c.s15],.bool true]) (by rw [results_cell_tmp Tryz.results110];simp [asAddr,Result.andThen,zbv _ _ _ c (zaQ W _ _)]) rfl ?_
 exact ⟨rfl,zbe W _ _ _⟩
theorem zlL (c:Reg) (m v:Int) (hm:decide (zay 2818≤m)=true) (W:World):TB 110 #[regV c,.int .i64 m,.int .i64 2818,.int .u64 v] W (.tuple #[.agg #[.int .u64 c.s0,.int .u64 c.s1,.int .u64 c.s2,.int .u64 c.s3,.int .u64 c.s4,.int .u64 c.s5,.int .u64 c.s6,.int .u64 c.s7,.int .u64 c.s8,.int .u64 c.s9,.int .u64 c.s10,.int .u64 c.s11,.int .u64 c.s12,.int .u64 c.s13,.int .u64 c.s14,.int .u64 c.s15],.bool true]):=by
 go_enter Tryz.func110,Tryz.ntmps110
 go_upto_region 20 with (first | ((first | (go_at_call 152;with_reducible refine (zbE m 2818 true hm (by decide) _).mono ?_) | (go_at_call 149;with_reducible refine (zhH _ _).mono ?_));rintro e w' ⟨rfl,rfl⟩) | fail)
 refine wp_region_lit ?_
 refine zbw rfl 25 (.tmp 4) rfl _ (regV c) rfl (zby _ _ c (zbt W _ _)) ?_
 refine zbu rfl 25 (.tmp 8) (.tmp 66) rfl _ (regV c) rfl rfl (store_at _ _ _ c (zaQ W _ _) rfl) ?_
 go_wp2
 refine bodyPost_ret (v:=.tuple #[.agg #[.int .u64 c.s0,.int .u64 c.s1,.int .u64 c.s2,.int .u64 c.s3,.int .u64 c.s4,.int .u64 c.s5,.int .u64 c.s6,.int .u64 c.s7,.int .u64 c.s8,.int .u64 c.s9,.int .u64 c.s10,.int .u64 c.s11,.int .u64 c.s12,.int .u64 c.s13,.int .u64 c.s14,.int .u64 c.s15],.bool true]) (by rw [results_cell_tmp Tryz.results110];simp [asAddr,Result.andThen,zbv _ _ _ c (zaQ W _ _)]) rfl ?_
 exact ⟨rfl,zbe W _ _ _⟩
theorem zp2 (c:Reg) (m n v:Int) (hm:decide (zay n≤m)=false) (W:World):TB 110 #[regV c,.int .i64 m,.int .i64 n,.int .u64 v] W (.tuple #[.agg #[.int .u64 c.s0,.int .u64 c.s1,.int .u64 c.s2,.int .u64 c.s3,.int .u64 c.s4,.int .u64 c.s5,.int .u64 c.s6,.int .u64 c.s7,.int .u64 c.s8,.int .u64 c.s9,.int .u64 c.s10,.int .u64 c.s11,.int .u64 c.s12,.int .u64 c.s13,.int .u64 c.s14,.int .u64 c.s15],.bool false]):=by
 go_enter Tryz.func110,Tryz.ntmps110
 go_upto_region 2 with (first | (go_at_call 152;(with_reducible refine (znI m n hm _).mono ?_);rintro e w' ⟨rfl,rfl⟩) | fail)
 refine wp_region_lit ?_
 refine zbw rfl 25 (.tmp 4) rfl _ (regV c) rfl (zby _ _ c (zbt W _ _)) ?_
 refine zbu rfl 25 (.tmp 8) (.tmp 15) rfl _ (regV c) rfl rfl (store_at _ _ _ c (zaQ W _ _) rfl) ?_
 go_wp2
 refine bodyPost_ret (v:=.tuple #[.agg #[.int .u64 c.s0,.int .u64 c.s1,.int .u64 c.s2,.int .u64 c.s3,.int .u64 c.s4,.int .u64 c.s5,.int .u64 c.s6,.int .u64 c.s7,.int .u64 c.s8,.int .u64 c.s9,.int .u64 c.s10,.int .u64 c.s11,.int .u64 c.s12,.int .u64 c.s13,.int .u64 c.s14,.int .u64 c.s15],.bool false]) (by rw [results_cell_tmp Tryz.results110];simp [asAddr,Result.andThen,zbv _ _ _ c (zaQ W _ _)]) rfl ?_
 exact ⟨rfl,zbe W _ _ _⟩
theorem ztT (c:Reg) (m n v:Int) (hm:decide (zay n≤m)=true) (ho:(zgo n != 3)=false) (W:World):TB 110 #[regV c,.int .i64 m,.int .i64 n,.int .u64 v] W (.tuple #[.agg #[.int .u64 c.s0,.int .u64 c.s1,.int .u64 c.s2,.int .u64 c.s3,.int .u64 c.s4,.int .u64 c.s5,.int .u64 c.s6,.int .u64 c.s7,.int .u64 c.s8,.int .u64 c.s9,.int .u64 c.s10,.int .u64 c.s11,.int .u64 c.s12,.int .u64 c.s13,.int .u64 c.s14,.int .u64 c.s15],.bool false]):=by
 go_enter Tryz.func110,Tryz.ntmps110
 go_upto_region 2 with (first | (go_at_call 152;(with_reducible refine (zbE m n false hm ho _).mono ?_);rintro e w' ⟨rfl,rfl⟩) | fail)
 refine wp_region_lit ?_
 refine zbw rfl 25 (.tmp 4) rfl _ (regV c) rfl (zby _ _ c (zbt W _ _)) ?_
 refine zbu rfl 25 (.tmp 8) (.tmp 15) rfl _ (regV c) rfl rfl (store_at _ _ _ c (zaQ W _ _) rfl) ?_
 go_wp2
 refine bodyPost_ret (v:=.tuple #[.agg #[.int .u64 c.s0,.int .u64 c.s1,.int .u64 c.s2,.int .u64 c.s3,.int .u64 c.s4,.int .u64 c.s5,.int .u64 c.s6,.int .u64 c.s7,.int .u64 c.s8,.int .u64 c.s9,.int .u64 c.s10,.int .u64 c.s11,.int .u64 c.s12,.int .u64 c.s13,.int .u64 c.s14,.int .u64 c.s15],.bool false]) (by rw [results_cell_tmp Tryz.results110];simp [asAddr,Result.andThen,zbv _ _ _ c (zaQ W _ _)]) rfl ?_
 exact ⟨rfl,zbe W _ _ _⟩
theorem zrf (c:Reg) (m n v:Int) (hm:decide (zay n≤m)=true) (ho:(zgo n != 3)=true) (h100:(n==256)=false) (h104:(n==260)=false) (h105:(n==261)=false) (h140:(n==320)=false) (h141:(n==321)=false) (h142:(n==322)=false) (h143:(n==323)=false) (h144:(n==324)=false) (h180:(n==384)=false) (h300:(n==768)=false) (h301:(n==769)=false) (h302:(n==770)=false) (h303:(n==771)=false) (h304:(n==772)=false) (h305:(n==773)=false) (h340:(n==832)=false) (h341:(n==833)=false) (h342:(n==834)=false) (h343:(n==835)=false) (h344:(n==836)=false) (hb00:(n==2816)=false) (hb02:(n==2818)=false) (W:World):TB 110 #[regV c,.int .i64 m,.int .i64 n,.int .u64 v] W (.tuple #[.agg #[.int .u64 c.s0,.int .u64 c.s1,.int .u64 c.s2,.int .u64 c.s3,.int .u64 c.s4,.int .u64 c.s5,.int .u64 c.s6,.int .u64 c.s7,.int .u64 c.s8,.int .u64 c.s9,.int .u64 c.s10,.int .u64 c.s11,.int .u64 c.s12,.int .u64 c.s13,.int .u64 c.s14,.int .u64 c.s15],.bool false]):=by
 go_enter Tryz.func110,Tryz.ntmps110
 go_upto_region 8 with (first | ((first | (go_at_call 152;with_reducible refine (zbE m n true hm ho _).mono ?_) | (go_at_call 149;with_reducible refine (zcn _ n h300 h302 h303 h304 h305 h340 h341 h342 h343 h105 h140 h141 h142 h143 h180 _).mono ?_));rintro e w' ⟨rfl,rfl⟩) | fail)
 refine wp_region_lit ?_
 refine zbw rfl 25 (.tmp 4) rfl _ (regV c) rfl (zby _ _ c (zbt W _ _)) ?_
 refine zbu rfl 25 (.tmp 8) (.tmp 30) rfl _ (regV c) rfl rfl (store_at _ _ _ c (zaQ W _ _) rfl) ?_
 go_wp2
 refine bodyPost_ret (v:=.tuple #[.agg #[.int .u64 c.s0,.int .u64 c.s1,.int .u64 c.s2,.int .u64 c.s3,.int .u64 c.s4,.int .u64 c.s5,.int .u64 c.s6,.int .u64 c.s7,.int .u64 c.s8,.int .u64 c.s9,.int .u64 c.s10,.int .u64 c.s11,.int .u64 c.s12,.int .u64 c.s13,.int .u64 c.s14,.int .u64 c.s15],.bool false]) (by rw [results_cell_tmp Tryz.results110];simp [asAddr,Result.andThen,zbv _ _ _ c (zaQ W _ _)]) rfl ?_
 exact ⟨rfl,zbe W _ _ _⟩
end Go.Proofs.YtplcfdnfeclpmaaGreatDoor.Cs
