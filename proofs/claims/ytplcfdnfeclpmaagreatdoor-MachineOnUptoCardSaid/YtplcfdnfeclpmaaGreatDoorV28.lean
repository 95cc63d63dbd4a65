/- MachineOn, part 28. -/
import Derived.Test.YtplcfdnfeclpmaaGreatDoorV04
import Derived.Test.YtplcfdnfeclpmaaGreatDoorV07
import Derived.Test.YtplcfdnfeclpmaaGreatDoorV22
set_option maxHeartbeats 4000000
set_option maxRecDepth 100000
open Go.Lib (hid)
open Go Go.RowKit Go.Deep Go.Joins Go.Proofs.Tryz
namespace Go.Proofs.YtplcfdnfeclpmaaGreatDoor.Pc
theorem load_p1 (h:Pl) (s:Int) (W:World):TB 197 #[plV h,.int .u32 s,.int .u64 201326596,.int .i64 4] W (.tuple #[plV (ldF h s 201326596 4).1,.int .u64 (ldF h s 201326596 4).2.1,.bool (ldF h s 201326596 4).2.2]):=by
 rw [zz3];go_enter func197,ntmps197;go_upto_region 1 with (fail);have X:=hid (Own.new W h);generalize (W.alloc (plO h)).alloc zaj=w0 at *;go_wp2_with (first | (with_reducible refine zaa rfl rfl (Own.load_p1 X.out) rfl ?_) | (go_at_call 219;with_reducible refine (zkr _).tq ?_) | (with_reducible refine zaa rfl rfl (Own.load X.out) rfl ?_) | (with_reducible refine zay rfl rfl (Own.tell X.out rfl _) rfl rfl ?_;intro wy hy;have X:=hid hy;clear hy));exact bodyPost_ret (v:=.tuple #[plV (h),.int .u64 (IntKind.u64.wrap h.p1),.bool true]) (za7 results197 _ _ (W.heap.size+1) _ _ _ rfl X.out.result rfl rfl) rfl ⟨rfl,X.out.below⟩
theorem load_p2 (h:Pl) (s:Int) (W:World):TB 197 #[plV h,.int .u32 s,.int .u64 201326600,.int .i64 4] W (.tuple #[plV (ldF h s 201326600 4).1,.int .u64 (ldF h s 201326600 4).2.1,.bool (ldF h s 201326600 4).2.2]):=by
 rw [znw];go_enter func197,ntmps197;go_upto_region 1 with (fail);have X:=hid (Own.new W h);generalize (W.alloc (plO h)).alloc zaj=w0 at *;go_wp2_with (first | (with_reducible refine zaa rfl rfl (Own.load_p2 X.out) rfl ?_) | (go_at_call 219;with_reducible refine (zjZ _).tq ?_) | (with_reducible refine zaa rfl rfl (Own.load X.out) rfl ?_) | (with_reducible refine zay rfl rfl (Own.tell X.out rfl _) rfl rfl ?_;intro wy hy;have X:=hid hy;clear hy));exact bodyPost_ret (v:=.tuple #[plV (h),.int .u64 (IntKind.u64.wrap h.p2),.bool true]) (za7 results197 _ _ (W.heap.size+1) _ _ _ rfl X.out.result rfl rfl) rfl ⟨rfl,X.out.below⟩
theorem load_p3 (h:Pl) (s:Int) (W:World):TB 197 #[plV h,.int .u32 s,.int .u64 201326604,.int .i64 4] W (.tuple #[plV (ldF h s 201326604 4).1,.int .u64 (ldF h s 201326604 4).2.1,.bool (ldF h s 201326604 4).2.2]):=by
 rw [zxz];go_enter func197,ntmps197;go_upto_region 1 with (fail);have X:=hid (Own.new W h);generalize (W.alloc (plO h)).alloc zaj=w0 at *;go_wp2_with (first | (with_reducible refine zaa rfl rfl (Own.load_p3 X.out) rfl ?_) | (go_at_call 219;with_reducible refine (zlp _).tq ?_) | (with_reducible refine zaa rfl rfl (Own.load X.out) rfl ?_) | (with_reducible refine zay rfl rfl (Own.tell X.out rfl _) rfl rfl ?_;intro wy hy;have X:=hid hy;clear hy));exact bodyPost_ret (v:=.tuple #[plV (h),.int .u64 (IntKind.u64.wrap h.p3),.bool true]) (za7 results197 _ _ (W.heap.size+1) _ _ _ rfl X.out.result rfl rfl) rfl ⟨rfl,X.out.below⟩
theorem zmv (h:Pl) (s:Int) (W:World):TB 197 #[plV h,.int .u32 s,.int .u64 201330688,.int .i64 4] W (.tuple #[plV (ldF h s 201330688 4).1,.int .u64 (ldF h s 201330688 4).2.1,.bool (ldF h s 201330688 4).2.2]):=by
 rw [zqI];go_enter func197,ntmps197;go_upto_region 1 with (fail);have X:=hid (Own.new W h);generalize (W.alloc (plO h)).alloc zaj=w0 at *;go_wp2_with (first | (go_at_call 219;with_reducible refine (zkg _).tq ?_) | (go_at_call 92;(with_reducible refine (zhS h s _).mono ?_);rintro e w2 ⟨rfl,k2⟩;have X:=hid (X.out.next k2)) | (with_reducible refine zaa rfl rfl (Own.load X.out) rfl ?_) | (with_reducible refine zay rfl rfl (Own.tell X.out rfl _) rfl rfl ?_;intro wy hy;have X:=hid hy;clear hy));exact bodyPost_ret (v:=.tuple #[plV (h),.int .u64 (IntKind.u64.wrap (zbH s h.c)),.bool true]) (za7 results197 _ _ (W.heap.size+1) _ _ _ rfl X.out.result rfl rfl) rfl ⟨rfl,X.out.below⟩
theorem load_e0 (h:Pl) (s:Int) (W:World):TB 197 #[plV h,.int .u32 s,.int .u64 201334784,.int .i64 4] W (.tuple #[plV (ldF h s 201334784 4).1,.int .u64 (ldF h s 201334784 4).2.1,.bool (ldF h s 201334784 4).2.2]):=by
 rw [zqs];go_enter func197,ntmps197;go_upto_region 1 with (fail);have X:=hid (Own.new W h);generalize (W.alloc (plO h)).alloc zaj=w0 at *;go_wp2_with (first | (with_reducible refine zaa rfl rfl (Own.load_e0 X.out) rfl ?_) | (go_at_call 219;with_reducible refine (zlv _).tq ?_) | (with_reducible refine zaa rfl rfl (Own.load X.out) rfl ?_) | (with_reducible refine zay rfl rfl (Own.tell X.out rfl _) rfl rfl ?_;intro wy hy;have X:=hid hy;clear hy));exact bodyPost_ret (v:=.tuple #[plV (h),.int .u64 (IntKind.u64.wrap h.e0),.bool true]) (za7 results197 _ _ (W.heap.size+1) _ _ _ rfl X.out.result rfl rfl) rfl ⟨rfl,X.out.below⟩
theorem load_e1 (h:Pl) (s:Int) (W:World):TB 197 #[plV h,.int .u32 s,.int .u64 201334912,.int .i64 4] W (.tuple #[plV (ldF h s 201334912 4).1,.int .u64 (ldF h s 201334912 4).2.1,.bool (ldF h s 201334912 4).2.2]):=by
 rw [zn4];go_enter func197,ntmps197;go_upto_region 1 with (fail);have X:=hid (Own.new W h);generalize (W.alloc (plO h)).alloc zaj=w0 at *;go_wp2_with (first | (with_reducible refine zaa rfl rfl (Own.load_e1 X.out) rfl ?_) | (go_at_call 219;with_reducible refine (zjg _).tq ?_) | (with_reducible refine zaa rfl rfl (Own.load X.out) rfl ?_) | (with_reducible refine zay rfl rfl (Own.tell X.out rfl _) rfl rfl ?_;intro wy hy;have X:=hid hy;clear hy));exact bodyPost_ret (v:=.tuple #[plV (h),.int .u64 (IntKind.u64.wrap h.e1),.bool true]) (za7 results197 _ _ (W.heap.size+1) _ _ _ rfl X.out.result rfl rfl) rfl ⟨rfl,X.out.below⟩
theorem load_l0 (h:Pl) (s:Int) (W:World):TB 197 #[plV h,.int .u32 s,.int .u64 203423744,.int .i64 4] W (.tuple #[plV (ldF h s 203423744 4).1,.int .u64 (ldF h s 203423744 4).2.1,.bool (ldF h s 203423744 4).2.2]):=by
 rw [zpU];go_enter func197,ntmps197;go_upto_region 1 with (fail);have X:=hid (Own.new W h);generalize (W.alloc (plO h)).alloc zaj=w0 at *;go_wp2_with (first | (with_reducible refine zaa rfl rfl (Own.load_l0 X.out) rfl ?_) | (go_at_call 219;with_reducible refine (zjr _).tq ?_) | (with_reducible refine zaa rfl rfl (Own.load X.out) rfl ?_) | (with_reducible refine zay rfl rfl (Own.tell X.out rfl _) rfl rfl ?_;intro wy hy;have X:=hid hy;clear hy));exact bodyPost_ret (v:=.tuple #[plV (h),.int .u64 (IntKind.u64.wrap h.l0),.bool true]) (za7 results197 _ _ (W.heap.size+1) _ _ _ rfl X.out.result rfl rfl) rfl ⟨rfl,X.out.below⟩
theorem load_l1 (h:Pl) (s:Int) (W:World):TB 197 #[plV h,.int .u32 s,.int .u64 203427840,.int .i64 4] W (.tuple #[plV (ldF h s 203427840 4).1,.int .u64 (ldF h s 203427840 4).2.1,.bool (ldF h s 203427840 4).2.2]):=by
 rw [zqT];go_enter func197,ntmps197;go_upto_region 1 with (fail);have X:=hid (Own.new W h);generalize (W.alloc (plO h)).alloc zaj=w0 at *;go_wp2_with (first | (with_reducible refine zaa rfl rfl (Own.load_l1 X.out) rfl ?_) | (go_at_call 219;with_reducible refine (ziG _).tq ?_) | (with_reducible refine zaa rfl rfl (Own.load X.out) rfl ?_) | (with_reducible refine zay rfl rfl (Own.tell X.out rfl _) rfl rfl ?_;intro wy hy;have X:=hid hy;clear hy));exact bodyPost_ret (v:=.tuple #[plV (h),.int .u64 (IntKind.u64.wrap h.l1),.bool true]) (za7 results197 _ _ (W.heap.size+1) _ _ _ rfl X.out.result rfl rfl) rfl ⟨rfl,X.out.below⟩
theorem zvZ (h:Pl) (s:Int) (hb:zaO h s 0=0) (W:World):TB 197 #[plV h,.int .u32 s,.int .u64 203423748,.int .i64 4] W (.tuple #[plV (ldF h s 203423748 4).1,.int .u64 (ldF h s 203423748 4).2.1,.bool (ldF h s 203423748 4).2.2]):=by
 have q:=zcL h s 0;rw [zgx,hb];rw [hb] at q;have Q8:=hid q;clear q hb;go_enter func197,ntmps197;go_upto_region 1 with (fail);have X:=hid (Own.new W h);generalize (W.alloc (plO h)).alloc zaj=w0 at *;go_upto_region 17 with (first | (with_reducible refine zaa rfl rfl (Own.load X.out) rfl ?_) | (go_at_call 219;with_reducible refine (zef _).tq ?_) | (go_at_call 65;(with_reducible refine (Q8.out _).mono ?_);rintro e w2 ⟨rfl,k2⟩;have X:=hid (X.out.next k2)));refine wp_region_still_tail 6 (by kernel_rfl) (by kernel_rfl) ?_
 simp only [List.take_succ_cons,List.take_zero,List.drop_succ_cons,List.drop_zero];have X:Hid (Own W { w2 with drawn:=w2.drawn+1 } h zeroC):=hid X.out.drew;generalize ({ w2 with drawn:=w2.drawn+1 }:World)=w3 at *
 repeat (first | (with_reducible refine zaM rfl rfl (Own.load_c X.out) rfl ?_) | still_step)
 still_call ((zfp _).mono fun _ _ h=>⟨h.1,h.2.symm⟩)
 repeat (first | (with_reducible refine zaM rfl rfl (Own.load_c X.out) rfl ?_) | still_step)
 refine wpStill_nil ?_
 go_wp2_with (first | (with_reducible refine zay rfl rfl (Own.store_c X.out _) rfl rfl ?_;intro wy hy;have X:=hid hy;clear hy) | (with_reducible refine zaa rfl rfl (Own.load X.out) rfl ?_) | (with_reducible refine zay rfl rfl (Own.tell X.out rfl _) rfl rfl ?_;intro wy hy;have X:=hid hy;clear hy));exact bodyPost_ret (v:=.tuple #[plV ({ h with c:=bits .or .u32 h.c (wt 0) }),.int .u64 (0),.bool true]) (za7 results197 _ _ (W.heap.size+1) _ _ _ rfl X.out.result rfl rfl) rfl ⟨rfl,X.out.below⟩
theorem zz8 (h:Pl) (s:Int) (hb:zaO h s 0=1) (W:World):TB 197 #[plV h,.int .u32 s,.int .u64 203423748,.int .i64 4] W (.tuple #[plV (ldF h s 203423748 4).1,.int .u64 (ldF h s 203423748 4).2.1,.bool (ldF h s 203423748 4).2.2]):=by
 have q:=zcL h s 0;rw [zgx,hb];rw [hb] at q;have Q8:=hid q;clear q hb;go_enter func197,ntmps197;go_upto_region 1 with (fail);have X:=hid (Own.new W h);generalize (W.alloc (plO h)).alloc zaj=w0 at *;go_upto_region 17 with (first | (with_reducible refine zaa rfl rfl (Own.load X.out) rfl ?_) | (go_at_call 219;with_reducible refine (zef _).tq ?_) | (go_at_call 65;(with_reducible refine (Q8.out _).mono ?_);rintro e w2 ⟨rfl,k2⟩;have X:=hid (X.out.next k2)));refine wp_region_still_tail 6 (by kernel_rfl) (by kernel_rfl) ?_
 simp only [List.take_succ_cons,List.take_zero,List.drop_succ_cons,List.drop_zero];have X:Hid (Own W { w2 with drawn:=w2.drawn+1 } h zeroC):=hid X.out.drew;generalize ({ w2 with drawn:=w2.drawn+1 }:World)=w3 at *
 repeat (first | (with_reducible refine zaM rfl rfl (Own.load_c X.out) rfl ?_) | still_step)
 still_call ((zdR _).mono fun _ _ h=>⟨h.1,h.2.symm⟩)
 repeat (first | (with_reducible refine zaM rfl rfl (Own.load_c X.out) rfl ?_) | still_step)
 refine wpStill_nil ?_
 go_wp2_with (first | (with_reducible refine zay rfl rfl (Own.store_c X.out _) rfl rfl ?_;intro wy hy;have X:=hid hy;clear hy) | (with_reducible refine zaa rfl rfl (Own.load X.out) rfl ?_) | (with_reducible refine zay rfl rfl (Own.tell X.out rfl _) rfl rfl ?_;intro wy hy;have X:=hid hy;clear hy));exact bodyPost_ret (v:=.tuple #[plV ({ h with c:=bits .or .u32 h.c (wt 1) }),.int .u64 (1),.bool true]) (za7 results197 _ _ (W.heap.size+1) _ _ _ rfl X.out.result rfl rfl) rfl ⟨rfl,X.out.below⟩
theorem zyL (h:Pl) (s:Int) (hb:zaO h s 0=2) (W:World):TB 197 #[plV h,.int .u32 s,.int .u64 203423748,.int .i64 4] W (.tuple #[plV (ldF h s 203423748 4).1,.int .u64 (ldF h s 203423748 4).2.1,.bool (ldF h s 203423748 4).2.2]):=by
 have q:=zcL h s 0;rw [zgx,hb];rw [hb] at q;have Q8:=hid q;clear q hb;go_enter func197,ntmps197;go_upto_region 1 with (fail);have X:=hid (Own.new W h);generalize (W.alloc (plO h)).alloc zaj=w0 at *;go_upto_region 17 with (first | (with_reducible refine zaa rfl rfl (Own.load X.out) rfl ?_) | (go_at_call 219;with_reducible refine (zef _).tq ?_) | (go_at_call 65;(with_reducible refine (Q8.out _).mono ?_);rintro e w2 ⟨rfl,k2⟩;have X:=hid (X.out.next k2)));refine wp_region_still_tail 6 (by kernel_rfl) (by kernel_rfl) ?_
 simp only [List.take_succ_cons,List.take_zero,List.drop_succ_cons,List.drop_zero];have X:Hid (Own W { w2 with drawn:=w2.drawn+1 } h zeroC):=hid X.out.drew;generalize ({ w2 with drawn:=w2.drawn+1 }:World)=w3 at *
 repeat (first | (with_reducible refine zaM rfl rfl (Own.load_c X.out) rfl ?_) | still_step)
 still_call ((zdJ _).mono fun _ _ h=>⟨h.1,h.2.symm⟩)
 repeat (first | (with_reducible refine zaM rfl rfl (Own.load_c X.out) rfl ?_) | still_step)
 refine wpStill_nil ?_
 go_wp2_with (first | (with_reducible refine zay rfl rfl (Own.store_c X.out _) rfl rfl ?_;intro wy hy;have X:=hid hy;clear hy) | (with_reducible refine zaa rfl rfl (Own.load X.out) rfl ?_) | (with_reducible refine zay rfl rfl (Own.tell X.out rfl _) rfl rfl ?_;intro wy hy;have X:=hid hy;clear hy));exact bodyPost_ret (v:=.tuple #[plV ({ h with c:=bits .or .u32 h.c (wt 2) }),.int .u64 (2),.bool true]) (za7 results197 _ _ (W.heap.size+1) _ _ _ rfl X.out.result rfl rfl) rfl ⟨rfl,X.out.below⟩
theorem zy8 (h:Pl) (s:Int) (hb:zaO h s 0=3) (W:World):TB 197 #[plV h,.int .u32 s,.int .u64 203423748,.int .i64 4] W (.tuple #[plV (ldF h s 203423748 4).1,.int .u64 (ldF h s 203423748 4).2.1,.bool (ldF h s 203423748 4).2.2]):=by
 have q:=zcL h s 0;rw [zgx,hb];rw [hb] at q;have Q8:=hid q;clear q hb;go_enter func197,ntmps197;go_upto_region 1 with (fail);have X:=hid (Own.new W h);generalize (W.alloc (plO h)).alloc zaj=w0 at *;go_upto_region 17 with (first | (with_reducible refine zaa rfl rfl (Own.load X.out) rfl ?_) | (go_at_call 219;with_reducible refine (zef _).tq ?_) | (go_at_call 65;(with_reducible refine (Q8.out _).mono ?_);rintro e w2 ⟨rfl,k2⟩;have X:=hid (X.out.next k2)));refine wp_region_still_tail 6 (by kernel_rfl) (by kernel_rfl) ?_
 simp only [List.take_succ_cons,List.take_zero,List.drop_succ_cons,List.drop_zero];have X:Hid (Own W { w2 with drawn:=w2.drawn+1 } h zeroC):=hid X.out.drew;generalize ({ w2 with drawn:=w2.drawn+1 }:World)=w3 at *
 repeat (first | (with_reducible refine zaM rfl rfl (Own.load_c X.out) rfl ?_) | still_step)
 still_call ((zdO _).mono fun _ _ h=>⟨h.1,h.2.symm⟩)
 repeat (first | (with_reducible refine zaM rfl rfl (Own.load_c X.out) rfl ?_) | still_step)
 refine wpStill_nil ?_
 go_wp2_with (first | (with_reducible refine zay rfl rfl (Own.store_c X.out _) rfl rfl ?_;intro wy hy;have X:=hid hy;clear hy) | (with_reducible refine zaa rfl rfl (Own.load X.out) rfl ?_) | (with_reducible refine zay rfl rfl (Own.tell X.out rfl _) rfl rfl ?_;intro wy hy;have X:=hid hy;clear hy));exact bodyPost_ret (v:=.tuple #[plV ({ h with c:=bits .or .u32 h.c (wt 3) }),.int .u64 (3),.bool true]) (za7 results197 _ _ (W.heap.size+1) _ _ _ rfl X.out.result rfl rfl) rfl ⟨rfl,X.out.below⟩
theorem zpg (h:Pl) (s:Int) (W:World):TB 197 #[plV h,.int .u32 s,.int .u64 203423748,.int .i64 4] W (.tuple #[plV (ldF h s 203423748 4).1,.int .u64 (ldF h s 203423748 4).2.1,.bool (ldF h s 203423748 4).2.2]):=by
 have r:=zgp h s 0;rcases (show zaO h s 0=0∨zaO h s 0=1∨zaO h s 0=2∨zaO h s 0=3 by omega) with e | e | e | e
 ·exact zvZ h s e W
 ·exact zz8 h s e W
 ·exact zyL h s e W
 ·exact zy8 h s e W
theorem zsP (h:Pl) (s:Int) (hb:zaO h s 1=0) (W:World):TB 197 #[plV h,.int .u32 s,.int .u64 203427844,.int .i64 4] W (.tuple #[plV (ldF h s 203427844 4).1,.int .u64 (ldF h s 203427844 4).2.1,.bool (ldF h s 203427844 4).2.2]):=by
 have q:=zcL h s 1;rw [zgQ,hb];rw [hb] at q;have Q8:=hid q;clear q hb;go_enter func197,ntmps197;go_upto_region 1 with (fail);have X:=hid (Own.new W h);generalize (W.alloc (plO h)).alloc zaj=w0 at *;go_upto_region 17 with (first | (with_reducible refine zaa rfl rfl (Own.load X.out) rfl ?_) | (go_at_call 219;with_reducible refine (zd5 _).tq ?_) | (go_at_call 65;(with_reducible refine (Q8.out _).mono ?_);rintro e w2 ⟨rfl,k2⟩;have X:=hid (X.out.next k2)));refine wp_region_still_tail 6 (by kernel_rfl) (by kernel_rfl) ?_
 simp only [List.take_succ_cons,List.take_zero,List.drop_succ_cons,List.drop_zero];have X:Hid (Own W { w2 with drawn:=w2.drawn+1 } h zeroC):=hid X.out.drew;generalize ({ w2 with drawn:=w2.drawn+1 }:World)=w3 at *
 repeat (first | (with_reducible refine zaM rfl rfl (Own.load_c X.out) rfl ?_) | still_step)
 still_call ((zfp _).mono fun _ _ h=>⟨h.1,h.2.symm⟩)
 repeat (first | (with_reducible refine zaM rfl rfl (Own.load_c X.out) rfl ?_) | still_step)
 refine wpStill_nil ?_
 go_wp2_with (first | (with_reducible refine zay rfl rfl (Own.store_c X.out _) rfl rfl ?_;intro wy hy;have X:=hid hy;clear hy) | (with_reducible refine zaa rfl rfl (Own.load X.out) rfl ?_) | (with_reducible refine zay rfl rfl (Own.tell X.out rfl _) rfl rfl ?_;intro wy hy;have X:=hid hy;clear hy));exact bodyPost_ret (v:=.tuple #[plV ({ h with c:=bits .or .u32 h.c (wt 0) }),.int .u64 (0),.bool true]) (za7 results197 _ _ (W.heap.size+1) _ _ _ rfl X.out.result rfl rfl) rfl ⟨rfl,X.out.below⟩
theorem zyj (h:Pl) (s:Int) (hb:zaO h s 1=1) (W:World):TB 197 #[plV h,.int .u32 s,.int .u64 203427844,.int .i64 4] W (.tuple #[plV (ldF h s 203427844 4).1,.int .u64 (ldF h s 203427844 4).2.1,.bool (ldF h s 203427844 4).2.2]):=by
 have q:=zcL h s 1;rw [zgQ,hb];rw [hb] at q;have Q8:=hid q;clear q hb;go_enter func197,ntmps197;go_upto_region 1 with (fail);have X:=hid (Own.new W h);generalize (W.alloc (plO h)).alloc zaj=w0 at *;go_upto_region 17 with (first | (with_reducible refine zaa rfl rfl (Own.load X.out) rfl ?_) | (go_at_call 219;with_reducible refine (zd5 _).tq ?_) | (go_at_call 65;(with_reducible refine (Q8.out _).mono ?_);rintro e w2 ⟨rfl,k2⟩;have X:=hid (X.out.next k2)));refine wp_region_still_tail 6 (by kernel_rfl) (by kernel_rfl) ?_
 simp only [List.take_succ_cons,List.take_zero,List.drop_succ_cons,List.drop_zero];have X:Hid (Own W { w2 with drawn:=w2.drawn+1 } h zeroC):=hid X.out.drew;generalize ({ w2 with drawn:=w2.drawn+1 }:World)=w3 at *
 repeat (first | (with_reducible refine zaM rfl rfl (Own.load_c X.out) rfl ?_) | still_step)
 still_call ((zdR _).mono fun _ _ h=>⟨h.1,h.2.symm⟩)
 repeat (first | (with_reducible refine zaM rfl rfl (Own.load_c X.out) rfl ?_) | still_step)
 refine wpStill_nil ?_
 go_wp2_with (first | (with_reducible refine zay rfl rfl (Own.store_c X.out _) rfl rfl ?_;intro wy hy;have X:=hid hy;clear hy) | (with_reducible refine zaa rfl rfl (Own.load X.out) rfl ?_) | (with_reducible refine zay rfl rfl (Own.tell X.out rfl _) rfl rfl ?_;intro wy hy;have X:=hid hy;clear hy));exact bodyPost_ret (v:=.tuple #[plV ({ h with c:=bits .or .u32 h.c (wt 1) }),.int .u64 (1),.bool true]) (za7 results197 _ _ (W.heap.size+1) _ _ _ rfl X.out.result rfl rfl) rfl ⟨rfl,X.out.below⟩
theorem zn3 (h:Pl) (s:Int) (hb:zaO h s 1=2) (W:World):TB 197 #[plV h,.int .u32 s,.int .u64 203427844,.int .i64 4] W (.tuple #[plV (ldF h s 203427844 4).1,.int .u64 (ldF h s 203427844 4).2.1,.bool (ldF h s 203427844 4).2.2]):=by
 have q:=zcL h s 1;rw [zgQ,hb];rw [hb] at q;have Q8:=hid q;clear q hb;go_enter func197,ntmps197;go_upto_region 1 with (fail);have X:=hid (Own.new W h);generalize (W.alloc (plO h)).alloc zaj=w0 at *;go_upto_region 17 with (first | (with_reducible refine zaa rfl rfl (Own.load X.out) rfl ?_) | (go_at_call 219;with_reducible refine (zd5 _).tq ?_) | (go_at_call 65;(with_reducible refine (Q8.out _).mono ?_);rintro e w2 ⟨rfl,k2⟩;have X:=hid (X.out.next k2)));refine wp_region_still_tail 6 (by kernel_rfl) (by kernel_rfl) ?_
 simp only [List.take_succ_cons,List.take_zero,List.drop_succ_cons,List.drop_zero];have X:Hid (Own W { w2 with drawn:=w2.drawn+1 } h zeroC):=hid X.out.drew;generalize ({ w2 with drawn:=w2.drawn+1 }:World)=w3 at *
 repeat (first | (with_reducible refine zaM rfl rfl (Own.load_c X.out) rfl ?_) | still_step)
 still_call ((zdJ _).mono fun _ _ h=>⟨h.1,h.2.symm⟩)
 repeat (first | (with_reducible refine zaM rfl rfl (Own.load_c X.out) rfl ?_) | still_step)
 refine wpStill_nil ?_
 go_wp2_with (first | (with_reducible refine zay rfl rfl (Own.store_c X.out _) rfl rfl ?_;intro wy hy;have X:=hid hy;clear hy) | (with_reducible refine zaa rfl rfl (Own.load X.out) rfl ?_) | (with_reducible refine zay rfl rfl (Own.tell X.out rfl _) rfl rfl ?_;intro wy hy;have X:=hid hy;clear hy));exact bodyPost_ret (v:=.tuple #[plV ({ h with c:=bits .or .u32 h.c (wt 2) }),.int .u64 (2),.bool true]) (za7 results197 _ _ (W.heap.size+1) _ _ _ rfl X.out.result rfl rfl) rfl ⟨rfl,X.out.below⟩
theorem zsB (h:Pl) (s:Int) (hb:zaO h s 1=3) (W:World):TB 197 #[plV h,.int .u32 s,.int .u64 203427844,.int .i64 4] W (.tuple #[plV (ldF h s 203427844 4).1,.int .u64 (ldF h s 203427844 4).2.1,.bool (ldF h s 203427844 4).2.2]):=by
 have q:=zcL h s 1;rw [zgQ,hb];rw [hb] at q;have Q8:=hid q;clear q hb;go_enter func197,ntmps197;go_upto_region 1 with (fail);have X:=hid (Own.new W h);generalize (W.alloc (plO h)).alloc zaj=w0 at *;go_upto_region 17 with (first | (with_reducible refine zaa rfl rfl (Own.load X.out) rfl ?_) | (go_at_call 219;with_reducible refine (zd5 _).tq ?_) | (go_at_call 65;(with_reducible refine (Q8.out _).mono ?_);rintro e w2 ⟨rfl,k2⟩;have X:=hid (X.out.next k2)));refine wp_region_still_tail 6 (by kernel_rfl) (by kernel_rfl) ?_
 simp only [List.take_succ_cons,List.take_zero,List.drop_succ_cons,List.drop_zero];have X:Hid (Own W { w2 with drawn:=w2.drawn+1 } h zeroC):=hid X.out.drew;generalize ({ w2 with drawn:=w2.drawn+1 }:World)=w3 at *
 repeat (first | (with_reducible refine zaM rfl rfl (Own.load_c X.out) rfl ?_) | still_step)
 still_call ((zdO _).mono fun _ _ h=>⟨h.1,h.2.symm⟩)
 repeat (first | (with_reducible refine zaM rfl rfl (Own.load_c X.out) rfl ?_) | still_step)
 refine wpStill_nil ?_
 go_wp2_with (first | (with_reducible refine zay rfl rfl (Own.store_c X.out _) rfl rfl ?_;intro wy hy;have X:=hid hy;clear hy) | (with_reducible refine zaa rfl rfl (Own.load X.out) rfl ?_) | (with_reducible refine zay rfl rfl (Own.tell X.out rfl _) rfl rfl ?_;intro wy hy;have X:=hid hy;clear hy));exact bodyPost_ret (v:=.tuple #[plV ({ h with c:=bits .or .u32 h.c (wt 3) }),.int .u64 (3),.bool true]) (za7 results197 _ _ (W.heap.size+1) _ _ _ rfl X.out.result rfl rfl) rfl ⟨rfl,X.out.below⟩
theorem zlO (h:Pl) (s:Int) (W:World):TB 197 #[plV h,.int .u32 s,.int .u64 203427844,.int .i64 4] W (.tuple #[plV (ldF h s 203427844 4).1,.int .u64 (ldF h s 203427844 4).2.1,.bool (ldF h s 203427844 4).2.2]):=by
 have r:=zgp h s 1;rcases (show zaO h s 1=0∨zaO h s 1=1∨zaO h s 1=2∨zaO h s 1=3 by omega) with e | e | e | e
 ·exact zsP h s e W
 ·exact zyj h s e W
 ·exact zn3 h s e W
 ·exact zsB h s e W
theorem zcB (h:Pl) (s t z:Int) (hz:(z != 4)=true) (W:World):TB 197 #[plV h,.int .u32 s,.int .u64 t,.int .i64 z] W (.tuple #[plV (ldF h s t z).1,.int .u64 (ldF h s t z).2.1,.bool (ldF h s t z).2.2]):=by
 rw [zb2 h s t z (.inl (by simpa using hz))];go_enter func197,ntmps197;go_upto_region 1 with (fail);have X:=hid (Own.new W h);generalize (W.alloc (plO h)).alloc zaj=w0 at *;go_wp2_with (with_reducible refine zay rfl rfl (Own.zero X.out rfl) rfl rfl ?_;intro wy hy;have X:=hid hy;clear hy);exact bodyPost_ret (v:=.tuple #[plV (zdm),.int .u64 (0),.bool false]) (za7 results197 _ _ (W.heap.size+1) _ _ _ rfl X.out.result rfl rfl) rfl ⟨rfl,X.out.below⟩
theorem zlQ (h:Pl) (s t:Int) (hn:zdv t) (W:World):TB 197 #[plV h,.int .u32 s,.int .u64 t,.int .i64 4] W (.tuple #[plV (ldF h s t 4).1,.int .u64 (ldF h s t 4).2.1,.bool (ldF h s t 4).2.2]):=by
 rw [zb2 h s t 4 (.inr hn)];go_enter func197,ntmps197;go_upto_region 1 with (fail);have X:=hid (Own.new W h);generalize (W.alloc (plO h)).alloc zaj=w0 at *;go_wp2_with (first | (go_at_call 219;with_reducible refine (zlw t hn _).tq ?_) | (with_reducible refine zay rfl rfl (Own.zero X.out rfl) rfl rfl ?_;intro wy hy;have X:=hid hy;clear hy));exact bodyPost_ret (v:=.tuple #[plV (zdm),.int .u64 (0),.bool false]) (za7 results197 _ _ (W.heap.size+1) _ _ _ rfl X.out.result rfl rfl) rfl ⟨rfl,X.out.below⟩
theorem zhW (h:Pl) (s t z:Int) (W:World):TB 197 #[plV h,.int .u32 s,.int .u64 t,.int .i64 z] W (.tuple #[plV (ldF h s t z).1,.int .u64 (ldF h s t z).2.1,.bool (ldF h s t z).2.2]):=by
 by_cases hz:z=4
 ·subst hz
  by_cases h_p1:t=201326596
  ·subst h_p1;exact load_p1 h s W
  by_cases h_p2:t=201326600
  ·subst h_p2;exact load_p2 h s W
  by_cases h_p3:t=201326604
  ·subst h_p3;exact load_p3 h s W
  by_cases h_wait:t=201330688
  ·subst h_wait;exact zmv h s W
  by_cases h_e0:t=201334784
  ·subst h_e0;exact load_e0 h s W
  by_cases h_e1:t=201334912
  ·subst h_e1;exact load_e1 h s W
  by_cases h_l0:t=203423744
  ·subst h_l0;exact load_l0 h s W
  by_cases h_l1:t=203427840
  ·subst h_l1;exact load_l1 h s W
  by_cases h_b0:t=203423748
  ·subst h_b0;exact zpg h s W
  by_cases h_b1:t=203427844
  ·subst h_b1;exact zlO h s W
  exact zlQ h s t ⟨h_p1,h_p2,h_p3,h_wait,h_e0,h_e1,h_l0,h_l1,h_b0,h_b1⟩ W
 ·exact zcB h s t z (by simpa using hz) W
end Go.Proofs.YtplcfdnfeclpmaaGreatDoor.Pc
namespace Go.Proofs.YtplcfdnfeclpmaaGreatDoor
def ofB (t:Int):Bool:=decide (201326592≤t) && decide (t<205520896)
theorem zjn (t:Int) (W:World):TW 139 #[.int .u64 t] W (.bool (ofB t)):=by
 unfold ofB
 by_cases h:201326592≤t
 ·have h1:decide ((201326592:Int)≤t)=true:=decide_eq_true h
  rw [h1]
  by_cases h2:t<205520896
  ·have h3:decide (t<(205520896:Int))=true:=decide_eq_true h2
   rw [h3];go_enter func139,ntmps139;go_wp2_with fail;go_ret;exact ⟨rfl,rfl⟩
  ·have h3:decide (t<(205520896:Int))=false:=decide_eq_false h2
   rw [h3];go_enter func139,ntmps139;go_wp2_with fail;go_ret;exact ⟨rfl,rfl⟩
 ·have h1:decide ((201326592:Int)≤t)=false:=decide_eq_false h
  rw [h1];go_enter func139,ntmps139;go_wp2_with fail;go_ret;exact ⟨rfl,rfl⟩
def okB (s:Int):Bool:=s==1 || s==2 || s==4 || s==8
theorem zrC (s:Int) (W:World):TW 142 #[.int .i64 s] W (.bool (okB s)):=by
 unfold okB
 by_cases h1:s=1
 ·subst h1
  go_enter func142,ntmps142;go_wp2_with fail;go_ret;exact ⟨rfl,rfl⟩
 by_cases h2:s=2
 ·subst h2
  go_enter func142,ntmps142;go_wp2_with fail;go_ret;exact ⟨rfl,rfl⟩
 by_cases h4:s=4
 ·subst h4
  go_enter func142,ntmps142;go_wp2_with fail;go_ret;exact ⟨rfl,rfl⟩
 have e1:(s==1)=false:=beq_eq_false_iff_ne.2 h1;have e2:(s==2)=false:=beq_eq_false_iff_ne.2 h2;have e4:(s==4)=false:=beq_eq_false_iff_ne.2 h4;obtain ⟨q,hq⟩:∃ q,(s==8)=q:=⟨_,rfl⟩;rw [e1,e2,e4,hq];have HQ:=hq;clear h1 h2 h4;go_enter func142,ntmps142;go_wp2_with fail;go_ret;exact ⟨rfl,rfl⟩
def Chg (W W':World) (z:Nat) (m:Mc):Prop:=∃ wx,Below W.heap.size W wx∧W'=wx.setRow z (mcC m)
theorem Chg.box {W W':World} {z:Nat} {m m':Mc} (k:MBox W z m) (h:Chg W W' z m'):MBox W' z m':=by
 obtain ⟨wx,hb,hw⟩:=h;exact (k.next hb).put hw
theorem Chg.touch {W W':World} {z:Nat} {m':Mc} (h:Chg W W' z m'):zau W W' (fun k=>k=z):=by
 obtain ⟨wx,hb,rfl⟩:=h;exact (zcr hb (fun k=>k=z)).setRow (.inl rfl) _
theorem Chg.none {W W':World} {z:Nat} {m:Mc} (k:MBox W z m) (hb:Below W.heap.size W W'):Chg W W' z m:=⟨W',hb,(setRow_self W' z _ 42 (0,0) (k.next hb)).symm⟩
abbrev plZ:Array Value:=#[.int .u32 0,.int .u32 0,.int .u32 0,.int .u32 0,.int .u32 0,.int .u32 0,.int .u32 0,.int .u32 0,.int .u32 0]
abbrev plZO:Obj:=.cells plZ 33
theorem Mem.newP {W w:World} {l:List (Nat × Array Value × Nat)} {r:List (Nat × Value × Nat × List Value)} (h:Mem W w l r):Mem W (w.alloc plZO) ((w.heap.size,plZ,33) :: l) r:=h.new _ 33 (by decide)
theorem zgM {w:World} {g:Nat} {old:Array Value} (p:Pl) (h:w.heap[g]?=some (.cells old 33 (0,0))) (ho:old.size=9):(Instr.storeAt 33 (.pointer (some ⟨g,0,none⟩)) (.agg (plC p))).run Tryz.prog w=.ok () (w.setRow g (plC p)):=Pc.zaY w g old p h ho
theorem ziT {w:World} {g:Nat} {p:Pl} (h:w.heap[g]?=some (.cells (plC p) 33 (0,0))):(Instr.loadAt 33 (.pointer (some ⟨g,0,none⟩))).run Tryz.prog w=.ok (.agg (plC p)) w:=Pc.Box.load h
theorem zhP {f:FuncId} {args:Array Value} {w:World} {p:Pl} {n:Int} {ok:Bool} (h:TB f args w (.tuple #[.agg (plC p),.int .u64 n,.bool ok])):Calls Tryz.prog f args w fun e w'=>∃ u,e=.returned u∧(u=.tuple #[.agg (plC p),.int .u64 n,.bool ok]∧Below w.heap.size w w'):=h.mono fun _ _ h=>⟨_,h.1,rfl,h.2⟩
theorem ziL (h:Pl) (s t z:Int) (hf:(Pc.ldF h s t z).2.2=false):(Pc.ldF h s t z).2.1=0:=by
 unfold Pc.ldF at hf ⊢
 repeat' split
 all_goals first | rfl | simp_all
theorem zmp (z:Nat) (m:Mc) (F:List ByteArray) (t s:Int) (W:World) (K:MBox W z m) (hl:m.b.fn=F.length):Calls Tryz.prog 140 #[.pointer (some ⟨z,52,none⟩),.int .u64 t,.int .i64 s] W fun e W' =>
  e=.returned (.tuple #[.int .u64 (Pc.ldF m.b.pl (zbB m.b F) t s).2.1,.bool (Pc.ldF m.b.pl (zbB m.b F) t s).2.2])∧Chg W W' z (if (Pc.ldF m.b.pl (zbB m.b F) t s).2.2=true then { m with b:={ m.b with pl:=(Pc.ldF m.b.pl (zbB m.b F) t s).1 } } else m):=by
 have C1:=hid (fun W=>zlz m.b F W hl);have C2:=hid (fun W=>Pc.zhW m.b.pl (zbB m.b F) t s W);have HN:=hid (ziL m.b.pl (zbB m.b F) t s);clear hl;generalize Pc.ldF m.b.pl (zbB m.b F) t s=R at C2 HN ⊢;generalize zbB m.b F=sv at C1 C2;obtain ⟨q,n,ok⟩:=R;dsimp only at C2 HN ⊢
 replace K:=hid K
 go_enter func140,ntmps140;have X:=hid (Mem.start W);go_upto_region 1 with (fail)
 go_cut [8,9,10] (fun s8 s9 s10 wx=>∃ g,s8=.pointer (some ⟨g,0,none⟩)∧s9=.int .u64 n∧s10=.bool ok∧Hid (Mem W wx [(g,plC q,33)] []))
 case first =>
  refine dr (fun w=>MBox w z m) fun wz hzz=>?_
  replace X:=hid (X.out.next hzz)
  clear hzz;have hS:=K.out.next X.out.below;refine tk 0 hS ?_
  refine tk 1 hS ?_
  refine tk 2 hS ?_
  refine tl 3 hS (fun w hw=>MBox.load_pl hw) ?_
  refine tk 4 hS ?_
  refine tk 5 hS ?_
  refine tl 6 hS (fun w hw=>MBox.load_b hw) ?_
  refine tk 8 hS ?_
  refine tk 9 hS ?_
  refine two 7 15 (cc 7 (zbL (C1.out _)) ?_ ?_)
  ·rintro v' wb ⟨rfl,kk⟩
   have X:=hid (X.out.next kk);refine ⟨K.out.next X.out.below,fun hS=>?_⟩
   clear kk;simp only [puts];refine two 10 15 (cc 10 (zhP (C2.out _)) ?_ ?_)
   ·rintro v' wb ⟨rfl,kk⟩
    have X:=hid (X.out.next kk);refine ⟨K.out.next X.out.below,fun hS=>?_⟩
    clear kk;simp only [puts];refine tk 11 hS ?_
    refine tk 12 hS ?_
    refine tk 13 hS ?_
    refine tk 14 hS ?_
    refine ho 15 (K.out.next X.out.newP.below) ?_
    have X:=hid X.out.newP;generalize wb.heap.size=g at X ⊢;generalize wb.alloc plZO=wn at X ⊢;have hS:=K.out.next X.out.below;refine hs 16 (zgM q X.out.g0 rfl) fun wy hw=>?_
    have X:=hid (X.out.p0 hw);refine ⟨K.out.next X.out.below,fun hS=>?_⟩
    clear hw;refine tk 17 hS ?_
    refine tk 18 hS ?_
    refine wpAnyH_done (by kernel_rfl) ?_ _
    go_wp2_with fail
    go_meet
    exact ⟨_,rfl,rfl,rfl,X⟩
   ·refine al 15 (K.out.next X.out.newP.below) ?_ AllReadyH.nil
    have X:=hid X.out.newP;generalize wb.heap.size=g at X ⊢;generalize wb.alloc plZO=wn at X ⊢;have hS:=K.out.next X.out.below;refine hc 10 (zhP (C2.out _)) ?_
    rintro v' wb ⟨rfl,kk⟩
    have X:=hid (X.out.next kk);refine ⟨K.out.next X.out.below,fun hS=>?_⟩
    clear kk;simp only [puts];refine tk 11 hS ?_
    refine tk 12 hS ?_
    refine tk 13 hS ?_
    refine tk 14 hS ?_
    refine hs 16 (zgM q X.out.g0 rfl) fun wy hw=>?_
    have X:=hid (X.out.p0 hw);refine ⟨K.out.next X.out.below,fun hS=>?_⟩
    clear hw;refine tk 17 hS ?_
    refine tk 18 hS ?_
    refine wpAnyH_done (by kernel_rfl) ?_ _
    go_wp2_with fail
    go_meet
    exact ⟨_,rfl,rfl,rfl,X⟩
  ·refine al 15 (K.out.next X.out.newP.below) ?_ AllReadyH.nil
   have X:=hid X.out.newP;generalize wz.heap.size=g at X ⊢;generalize wz.alloc plZO=wn at X ⊢;have hS:=K.out.next X.out.below;refine hc 7 (zbL (C1.out _)) ?_
   rintro v' wb ⟨rfl,kk⟩
   have X:=hid (X.out.next kk);refine ⟨K.out.next X.out.below,fun hS=>?_⟩
   clear kk;simp only [puts];refine hc 10 (zhP (C2.out _)) ?_
   rintro v' wb ⟨rfl,kk⟩
   have X:=hid (X.out.next kk);refine ⟨K.out.next X.out.below,fun hS=>?_⟩
   clear kk;simp only [puts];refine tk 11 hS ?_
   refine tk 12 hS ?_
   refine tk 13 hS ?_
   refine tk 14 hS ?_
   refine hs 16 (zgM q X.out.g0 rfl) fun wy hw=>?_
   have X:=hid (X.out.p0 hw);refine ⟨K.out.next X.out.below,fun hS=>?_⟩
   clear hw;refine tk 17 hS ?_
   refine tk 18 hS ?_
   refine wpAnyH_done (by kernel_rfl) ?_ _
   go_wp2_with fail
   go_meet
   exact ⟨_,rfl,rfl,rfl,X⟩
 case rest =>
  obtain ⟨g,rfl,rfl,rfl,X⟩:=hcut;cases ok
  ·obtain rfl:n=0:=HN.out rfl
   go_wp2_with fail;go_ret2;exact ⟨rfl,Chg.none K.out X.out.below⟩
  ·have hS:=K.out.next X.out.below
   go_wp2_with (with_reducible first | refine zaa rfl rfl (ziT X.out.g0) rfl ?_ | refine zan rfl rfl (MBox.store_pl hS q) rfl rfl ?_);go_ret2;exact ⟨rfl,_,X.out.below,rfl⟩
theorem zwF (z:Nat) (m:Mc) (t s v:Int) (W:World) (K:MBox W z m) (hc:Pc.U32 m.b.pl.c):Calls Tryz.prog 145 #[.pointer (some ⟨z,52,none⟩),.int .u64 t,.int .i64 s,.int .u64 v] W fun e W' =>
  e=.returned (.bool (Pc.stF m.b.pl t s v).2)∧Chg W W' z (if (Pc.stF m.b.pl t s v).2=true then { m with b:={ m.b with pl:=(Pc.stF m.b.pl t s v).1 } } else m):=by
 have C2:=hid (fun W=>Pc.zhM m.b.pl t s v hc W);clear hc;generalize Pc.stF m.b.pl t s v=R at C2 ⊢;obtain ⟨q,ok⟩:=R;dsimp only at C2 ⊢
 replace K:=hid K
 go_enter func145,ntmps145;have X:=hid (Mem.start W);go_upto_region 2 with (first | (with_reducible refine zaa rfl rfl (MBox.load_pl (K.out.next X.out.below)) rfl ?_) | (go_at_call 199;(with_reducible refine (C2.out _).mono ?_);rintro e wb ⟨rfl,kk⟩;have X:=hid (X.out.next kk);clear kk) | (with_reducible refine zan rfl rfl (zgM q X.out.newP.g0 rfl) rfl rfl ?_));have X:=hid (X.out.newP.p0 (cs':=plC q) rfl);generalize wb.heap.size=g at X ⊢;generalize (wb.alloc plZO).setRow g (plC q)=wy at X ⊢;have hS:=K.out.next X.out.below;cases ok
 ·go_wp2_with fail
  go_ret;exact ⟨rfl,Chg.none K.out X.out.below⟩
 ·go_wp2_with (with_reducible first | refine zaa rfl rfl (ziT X.out.g0) rfl ?_ | refine zan rfl rfl (MBox.store_pl hS q) rfl rfl ?_)
  go_ret;exact ⟨rfl,_,X.out.below,rfl⟩
end Go.Proofs.YtplcfdnfeclpmaaGreatDoor
