/- MachineAhead,part 20. -/
import Derived.Test.YtplcfdnfeclpmaaGreatDoorY03
set_option maxHeartbeats 4000000
set_option maxRecDepth 100000
open Go.Lib (hid)
namespace Go.Proofs.YtplcfdnfeclpmaaGreatDoor
open Go.RowKit Go.Deep Go.Joins
theorem zq0 (b:Bd) (F:List ByteArray) (n:Int) (W:World) (hf:FAt W (.slice b.fp b.fn b.fc) F) (hF:F.length≤8796093022208):Calls Tryz.prog 141 #[bdV b,.int .u64 33570816,.int .i64 8,.int .u64 n] W (Told W (ldF b F 33570816 8 n).1 (ldF b F 33570816 8 n).2.1 (fun v=>.tuple #[v,.int .u64 (ldF b F 33570816 8 n).2.2.1,.bool (ldF b F 33570816 8 n).2.2.2])):=by
 have hr:ldF b F 33570816 8 n=(b,F,b.cmp,true):=rfl
 rw [hr]
 clear hr
 have HFR:=hid hf
 have HFL:=hid hF
 clear hf hF
 go_enter Tryz.func141,Tryz.ntmps141
 go_upto_region 1 with (fail)
 have X:=hid (KA.new W b)
 generalize (W.alloc (bdO b)).alloc zah=wx at X ⊢
 go_wp2_with (first | (go_at_call 198;(with_reducible refine (zfE _).mono ?_);rintro e w' ⟨rfl,rfl⟩) | (with_reducible refine zaa rfl rfl (Box.load X.out.own) rfl ?_) | (go_at_call 57;(with_reducible refine (zaS b F _ (HFR.out.next X.out.below) HFL.out).mono ?_);rintro e w2 ⟨p,cap,rfl,ho,k2⟩;have HO:=hid (ho.base X.out.below.size);have X:=hid (X.out.next k2);clear ho k2) | (with_reducible refine zaa rfl rfl (Box.load_cmp X.out.own) rfl ?_) | (with_reducible refine zas X.out.own rfl rfl rfl rfl ?_;intro wy hwy;have HO:=hid (HO.out.put X.out.own hwy);have X:=hid (X.out.put hwy);clear hwy) | (with_reducible refine zas X.out.res rfl rfl rfl rfl ?_;intro wy hwy;have HO:=hid (HO.out.put X.out.res hwy);have X:=hid (X.out.tell hwy);clear hwy) | fail)
 exact bodyPost_ret (v:=.tuple #[bdV (b.at p F.length cap),.int .u64 (b.cmp),.bool true]) (za2 Tryz.results141 _ _ (W.heap.size+1) _ _ _ rfl X.out.res rfl rfl) rfl ⟨p,cap,rfl,HO.out,X.out.below⟩
theorem zkW (b:Bd) (F:List ByteArray) (n:Int) (W:World) (hf:FAt W (.slice b.fp b.fn b.fc) F) (hF:F.length≤8796093022208):Calls Tryz.prog 141 #[bdV b,.int .u64 268439552,.int .i64 8,.int .u64 n] W (Told W (ldF b F 268439552 8 n).1 (ldF b F 268439552 8 n).2.1 (fun v=>.tuple #[v,.int .u64 (ldF b F 268439552 8 n).2.2.1,.bool (ldF b F 268439552 8 n).2.2.2])):=by
 have hr:ldF b F 268439552 8 n=(b,F,b.sector,true):=rfl
 rw [hr]
 clear hr
 have HFR:=hid hf
 have HFL:=hid hF
 clear hf hF
 go_enter Tryz.func141,Tryz.ntmps141
 go_upto_region 1 with (fail)
 have X:=hid (KA.new W b)
 generalize (W.alloc (bdO b)).alloc zah=wx at X ⊢
 go_wp2_with (first | (go_at_call 198;(with_reducible refine (zgv _).mono ?_);rintro e w' ⟨rfl,rfl⟩) | (with_reducible refine zaa rfl rfl (Box.load X.out.own) rfl ?_) | (go_at_call 57;(with_reducible refine (zaS b F _ (HFR.out.next X.out.below) HFL.out).mono ?_);rintro e w2 ⟨p,cap,rfl,ho,k2⟩;have HO:=hid (ho.base X.out.below.size);have X:=hid (X.out.next k2);clear ho k2) | (with_reducible refine zaa rfl rfl (Box.load_sector X.out.own) rfl ?_) | (with_reducible refine zas X.out.own rfl rfl rfl rfl ?_;intro wy hwy;have HO:=hid (HO.out.put X.out.own hwy);have X:=hid (X.out.put hwy);clear hwy) | (with_reducible refine zas X.out.res rfl rfl rfl rfl ?_;intro wy hwy;have HO:=hid (HO.out.put X.out.res hwy);have X:=hid (X.out.tell hwy);clear hwy) | fail)
 exact bodyPost_ret (v:=.tuple #[bdV (b.at p F.length cap),.int .u64 (b.sector),.bool true]) (za2 Tryz.results141 _ _ (W.heap.size+1) _ _ _ rfl X.out.res rfl rfl) rfl ⟨p,cap,rfl,HO.out,X.out.below⟩
theorem zxx (b:Bd) (F:List ByteArray) (n:Int) (W:World) (hf:FAt W (.slice b.fp b.fn b.fc) F) (hF:F.length≤8796093022208):Calls Tryz.prog 141 #[bdV b,.int .u64 268439560,.int .i64 8,.int .u64 n] W (Told W (ldF b F 268439560 8 n).1 (ldF b F 268439560 8 n).2.1 (fun v=>.tuple #[v,.int .u64 (ldF b F 268439560 8 n).2.2.1,.bool (ldF b F 268439560 8 n).2.2.2])):=by
 have hr:ldF b F 268439560 8 n=(b,F,b.addr,true):=rfl
 rw [hr]
 clear hr
 have HFR:=hid hf
 have HFL:=hid hF
 clear hf hF
 go_enter Tryz.func141,Tryz.ntmps141
 go_upto_region 1 with (fail)
 have X:=hid (KA.new W b)
 generalize (W.alloc (bdO b)).alloc zah=wx at X ⊢
 go_wp2_with (first | (go_at_call 198;(with_reducible refine (zgi _).mono ?_);rintro e w' ⟨rfl,rfl⟩) | (with_reducible refine zaa rfl rfl (Box.load X.out.own) rfl ?_) | (go_at_call 57;(with_reducible refine (zaS b F _ (HFR.out.next X.out.below) HFL.out).mono ?_);rintro e w2 ⟨p,cap,rfl,ho,k2⟩;have HO:=hid (ho.base X.out.below.size);have X:=hid (X.out.next k2);clear ho k2) | (with_reducible refine zaa rfl rfl (Box.load_addr X.out.own) rfl ?_) | (with_reducible refine zas X.out.own rfl rfl rfl rfl ?_;intro wy hwy;have HO:=hid (HO.out.put X.out.own hwy);have X:=hid (X.out.put hwy);clear hwy) | (with_reducible refine zas X.out.res rfl rfl rfl rfl ?_;intro wy hwy;have HO:=hid (HO.out.put X.out.res hwy);have X:=hid (X.out.tell hwy);clear hwy) | fail)
 exact bodyPost_ret (v:=.tuple #[bdV (b.at p F.length cap),.int .u64 (b.addr),.bool true]) (za2 Tryz.results141 _ _ (W.heap.size+1) _ _ _ rfl X.out.res rfl rfl) rfl ⟨p,cap,rfl,HO.out,X.out.below⟩
theorem zoX (b:Bd) (F:List ByteArray) (n:Int) (W:World) (hf:FAt W (.slice b.fp b.fn b.fc) F) (hF:F.length≤8796093022208):Calls Tryz.prog 141 #[bdV b,.int .u64 268443656,.int .i64 8,.int .u64 n] W (Told W (ldF b F 268443656 8 n).1 (ldF b F 268443656 8 n).2.1 (fun v=>.tuple #[v,.int .u64 (ldF b F 268443656 8 n).2.2.1,.bool (ldF b F 268443656 8 n).2.2.2])):=by
 have hr:ldF b F 268443656 8 n=(b,F,b.nicA,true):=rfl
 rw [hr]
 clear hr
 have HFR:=hid hf
 have HFL:=hid hF
 clear hf hF
 go_enter Tryz.func141,Tryz.ntmps141
 go_upto_region 1 with (fail)
 have X:=hid (KA.new W b)
 generalize (W.alloc (bdO b)).alloc zah=wx at X ⊢
 go_wp2_with (first | (go_at_call 198;(with_reducible refine (zge _).mono ?_);rintro e w' ⟨rfl,rfl⟩) | (with_reducible refine zaa rfl rfl (Box.load X.out.own) rfl ?_) | (go_at_call 57;(with_reducible refine (zaS b F _ (HFR.out.next X.out.below) HFL.out).mono ?_);rintro e w2 ⟨p,cap,rfl,ho,k2⟩;have HO:=hid (ho.base X.out.below.size);have X:=hid (X.out.next k2);clear ho k2) | (with_reducible refine zaa rfl rfl (Box.load_nicA X.out.own) rfl ?_) | (with_reducible refine zas X.out.own rfl rfl rfl rfl ?_;intro wy hwy;have HO:=hid (HO.out.put X.out.own hwy);have X:=hid (X.out.put hwy);clear hwy) | (with_reducible refine zas X.out.res rfl rfl rfl rfl ?_;intro wy hwy;have HO:=hid (HO.out.put X.out.res hwy);have X:=hid (X.out.tell hwy);clear hwy) | fail)
 exact bodyPost_ret (v:=.tuple #[bdV (b.at p F.length cap),.int .u64 (b.nicA),.bool true]) (za2 Tryz.results141 _ _ (W.heap.size+1) _ _ _ rfl X.out.res rfl rfl) rfl ⟨p,cap,rfl,HO.out,X.out.below⟩
theorem zk3 (b:Bd) (F:List ByteArray) (n:Int) (W:World) (hf:FAt W (.slice b.fp b.fn b.fc) F) (hF:F.length≤8796093022208):Calls Tryz.prog 141 #[bdV b,.int .u64 268443672,.int .i64 8,.int .u64 n] W (Told W (ldF b F 268443672 8 n).1 (ldF b F 268443672 8 n).2.1 (fun v=>.tuple #[v,.int .u64 (ldF b F 268443672 8 n).2.2.1,.bool (ldF b F 268443672 8 n).2.2.2])):=by
 have hr:ldF b F 268443672 8 n=(b,F,b.nicL,true):=rfl
 rw [hr]
 clear hr
 have HFR:=hid hf
 have HFL:=hid hF
 clear hf hF
 go_enter Tryz.func141,Tryz.ntmps141
 go_upto_region 1 with (fail)
 have X:=hid (KA.new W b)
 generalize (W.alloc (bdO b)).alloc zah=wx at X ⊢
 go_wp2_with (first | (go_at_call 198;(with_reducible refine (zgl _).mono ?_);rintro e w' ⟨rfl,rfl⟩) | (with_reducible refine zaa rfl rfl (Box.load X.out.own) rfl ?_) | (go_at_call 57;(with_reducible refine (zaS b F _ (HFR.out.next X.out.below) HFL.out).mono ?_);rintro e w2 ⟨p,cap,rfl,ho,k2⟩;have HO:=hid (ho.base X.out.below.size);have X:=hid (X.out.next k2);clear ho k2) | (with_reducible refine zaa rfl rfl (Box.load_nicL X.out.own) rfl ?_) | (with_reducible refine zas X.out.own rfl rfl rfl rfl ?_;intro wy hwy;have HO:=hid (HO.out.put X.out.own hwy);have X:=hid (X.out.put hwy);clear hwy) | (with_reducible refine zas X.out.res rfl rfl rfl rfl ?_;intro wy hwy;have HO:=hid (HO.out.put X.out.res hwy);have X:=hid (X.out.tell hwy);clear hwy) | fail)
 exact bodyPost_ret (v:=.tuple #[bdV (b.at p F.length cap),.int .u64 (b.nicL),.bool true]) (za2 Tryz.results141 _ _ (W.heap.size+1) _ _ _ rfl X.out.res rfl rfl) rfl ⟨p,cap,rfl,HO.out,X.out.below⟩
theorem zlo (b:Bd) (F:List ByteArray) (n:Int) (W:World) (hf:FAt W (.slice b.fp b.fn b.fc) F) (hF:F.length≤8796093022208):Calls Tryz.prog 141 #[bdV b,.int .u64 33603576,.int .i64 8,.int .u64 n] W (Told W (ldF b F 33603576 8 n).1 (ldF b F 33603576 8 n).2.1 (fun v=>.tuple #[v,.int .u64 (ldF b F 33603576 8 n).2.2.1,.bool (ldF b F 33603576 8 n).2.2.2])):=by
 have hr:ldF b F 33603576 8 n=(b,F,n,true):=rfl
 rw [hr]
 clear hr
 have HFR:=hid hf
 have HFL:=hid hF
 clear hf hF
 go_enter Tryz.func141,Tryz.ntmps141
 go_upto_region 1 with (fail)
 have X:=hid (KA.new W b)
 generalize (W.alloc (bdO b)).alloc zah=wx at X ⊢
 go_wp2_with (first | (go_at_call 198;(with_reducible refine (zgu _).mono ?_);rintro e w' ⟨rfl,rfl⟩) | (with_reducible refine zaa rfl rfl (Box.load X.out.own) rfl ?_) | (go_at_call 57;(with_reducible refine (zaS b F _ (HFR.out.next X.out.below) HFL.out).mono ?_);rintro e w2 ⟨p,cap,rfl,ho,k2⟩;have HO:=hid (ho.base X.out.below.size);have X:=hid (X.out.next k2);clear ho k2) | (with_reducible refine zas X.out.own rfl rfl rfl rfl ?_;intro wy hwy;have HO:=hid (HO.out.put X.out.own hwy);have X:=hid (X.out.put hwy);clear hwy) | (with_reducible refine zas X.out.res rfl rfl rfl rfl ?_;intro wy hwy;have HO:=hid (HO.out.put X.out.res hwy);have X:=hid (X.out.tell hwy);clear hwy) | fail)
 exact bodyPost_ret (v:=.tuple #[bdV (b.at p F.length cap),.int .u64 (n),.bool true]) (za2 Tryz.results141 _ _ (W.heap.size+1) _ _ _ rfl X.out.res rfl rfl) rfl ⟨p,cap,rfl,HO.out,X.out.below⟩
theorem zmg (b:Bd) (F:List ByteArray) (n:Int) (W:World) (hf:FAt W (.slice b.fp b.fn b.fc) F) (hF:F.length≤8796093022208):Calls Tryz.prog 141 #[bdV b,.int .u64 33554432,.int .i64 4,.int .u64 n] W (Told W (ldF b F 33554432 4 n).1 (ldF b F 33554432 4 n).2.1 (fun v=>.tuple #[v,.int .u64 (ldF b F 33554432 4 n).2.2.1,.bool (ldF b F 33554432 4 n).2.2.2])):=by
 have hr:ldF b F 33554432 4 n=(b,F,bV b.msip 0,true):=rfl
 rw [hr]
 clear hr
 have HFR:=hid hf
 have HFL:=hid hF
 clear hf hF
 go_enter Tryz.func141,Tryz.ntmps141
 go_upto_region 1 with (fail)
 have X:=hid (KA.new W b)
 generalize (W.alloc (bdO b)).alloc zah=wx at X ⊢
 go_wp2_with (first | (go_at_call 198;(with_reducible refine (zgn _).mono ?_);rintro e w' ⟨rfl,rfl⟩) | (with_reducible refine zaa rfl rfl (Box.load X.out.own) rfl ?_) | (go_at_call 57;(with_reducible refine (zaS b F _ (HFR.out.next X.out.below) HFL.out).mono ?_);rintro e w2 ⟨p,cap,rfl,ho,k2⟩;have HO:=hid (ho.base X.out.below.size);have X:=hid (X.out.next k2);clear ho k2) | (with_reducible refine zaa rfl rfl (Box.load_msip X.out.own) rfl ?_) | (go_at_call 64;(with_reducible refine (zfG _ _).mono ?_);rintro e w' ⟨rfl,rfl⟩) | (with_reducible refine zas X.out.own rfl rfl rfl rfl ?_;intro wy hwy;have HO:=hid (HO.out.put X.out.own hwy);have X:=hid (X.out.put hwy);clear hwy) | (with_reducible refine zas X.out.res rfl rfl rfl rfl ?_;intro wy hwy;have HO:=hid (HO.out.put X.out.res hwy);have X:=hid (X.out.tell hwy);clear hwy) | fail)
 exact bodyPost_ret (v:=.tuple #[bdV (b.at p F.length cap),.int .u64 (bV b.msip 0),.bool true]) (za2 Tryz.results141 _ _ (W.heap.size+1) _ _ _ rfl X.out.res rfl rfl) rfl ⟨p,cap,rfl,HO.out,X.out.below⟩
theorem zxm (b:Bd) (F:List ByteArray) (n:Int) (W:World) (hf:FAt W (.slice b.fp b.fn b.fc) F) (hF:F.length≤8796093022208):Calls Tryz.prog 141 #[bdV b,.int .u64 268435457,.int .i64 1,.int .u64 n] W (Told W (ldF b F 268435457 1 n).1 (ldF b F 268435457 1 n).2.1 (fun v=>.tuple #[v,.int .u64 (ldF b F 268435457 1 n).2.2.1,.bool (ldF b F 268435457 1 n).2.2.2])):=by
 have hr:ldF b F 268435457 1 n=(b,F,bV b.ier 0,true):=rfl
 rw [hr]
 clear hr
 have HFR:=hid hf
 have HFL:=hid hF
 clear hf hF
 go_enter Tryz.func141,Tryz.ntmps141
 go_upto_region 1 with (fail)
 have X:=hid (KA.new W b)
 generalize (W.alloc (bdO b)).alloc zah=wx at X ⊢
 go_wp2_with (first | (go_at_call 198;(with_reducible refine (zfV _).mono ?_);rintro e w' ⟨rfl,rfl⟩) | (with_reducible refine zaa rfl rfl (Box.load X.out.own) rfl ?_) | (go_at_call 57;(with_reducible refine (zaS b F _ (HFR.out.next X.out.below) HFL.out).mono ?_);rintro e w2 ⟨p,cap,rfl,ho,k2⟩;have HO:=hid (ho.base X.out.below.size);have X:=hid (X.out.next k2);clear ho k2) | (with_reducible refine zaa rfl rfl (Box.load_ier X.out.own) rfl ?_) | (go_at_call 64;(with_reducible refine (zfG _ _).mono ?_);rintro e w' ⟨rfl,rfl⟩) | (with_reducible refine zas X.out.own rfl rfl rfl rfl ?_;intro wy hwy;have HO:=hid (HO.out.put X.out.own hwy);have X:=hid (X.out.put hwy);clear hwy) | (with_reducible refine zas X.out.res rfl rfl rfl rfl ?_;intro wy hwy;have HO:=hid (HO.out.put X.out.res hwy);have X:=hid (X.out.tell hwy);clear hwy) | fail)
 exact bodyPost_ret (v:=.tuple #[bdV (b.at p F.length cap),.int .u64 (bV b.ier 0),.bool true]) (za2 Tryz.results141 _ _ (W.heap.size+1) _ _ _ rfl X.out.res rfl rfl) rfl ⟨p,cap,rfl,HO.out,X.out.below⟩
theorem Box.load_inn_at {w:World} {g n c:Nat} {p:Option Addr} {b:Bd} (k:Box w g (b.at p n c)):(Instr.loadAt 9 (.pointer (some ⟨g,2,none⟩))).run Tryz.prog w=.ok (.string b.inn) w:=k.load_inn
theorem Box.load_fr_at {w:World} {g n c:Nat} {p:Option Addr} {b:Bd} (k:Box w g (b.at p n c)):(Instr.loadAt 28 (.pointer (some ⟨g,9,none⟩))).run Tryz.prog w=.ok (.slice p n c) w:=k.load_fr
theorem zpd (b:Bd) (F:List ByteArray) (n:Int) (W:World) (hf:FAt W (.slice b.fp b.fn b.fc) F) (hF:F.length≤8796093022208):Calls Tryz.prog 141 #[bdV b,.int .u64 268435461,.int .i64 1,.int .u64 n] W (Told W (ldF b F 268435461 1 n).1 (ldF b F 268435461 1 n).2.1 (fun v=>.tuple #[v,.int .u64 (ldF b F 268435461 1 n).2.2.1,.bool (ldF b F 268435461 1 n).2.2.2])):=by
 have hr:ldF b F 268435461 1 n=(b,F,bits .or .u64 (bV (decide (0<b.inn.size)) 0) 96,true):=rfl
 rw [hr]
 clear hr
 have HFR:=hid hf
 have HFL:=hid hF
 clear hf hF
 have HE:=hid (zeb b.inn)
 go_enter Tryz.func141,Tryz.ntmps141
 go_upto_region 1 with (fail)
 have X:=hid (KA.new W b)
 generalize (W.alloc (bdO b)).alloc zah=wx at X ⊢
 go_wp2_with (first | (go_at_call 198;(with_reducible refine (zgz _).mono ?_);rintro e w' ⟨rfl,rfl⟩) | (with_reducible refine zaa rfl rfl (Box.load X.out.own) rfl ?_) | (go_at_call 57;(with_reducible refine (zaS b F _ (HFR.out.next X.out.below) HFL.out).mono ?_);rintro e w2 ⟨p,cap,rfl,ho,k2⟩;have HO:=hid (ho.base X.out.below.size);have X:=hid (X.out.next k2);clear ho k2) | (with_reducible refine zaa rfl rfl (Box.load_inn_at X.out.own) rfl ?_) | (go_at_call 64;(with_reducible refine (zfG _ _).mono ?_);rintro e w' ⟨rfl,rfl⟩;rw [HE.out]) | (with_reducible refine zas X.out.own rfl rfl rfl rfl ?_;intro wy hwy;have HO:=hid (HO.out.put X.out.own hwy);have X:=hid (X.out.put hwy);clear hwy) | (with_reducible refine zas X.out.res rfl rfl rfl rfl ?_;intro wy hwy;have HO:=hid (HO.out.put X.out.res hwy);have X:=hid (X.out.tell hwy);clear hwy) | fail)
 exact bodyPost_ret (v:=.tuple #[bdV (b.at p F.length cap),.int .u64 (bits .or .u64 (bV (decide (0<b.inn.size)) 0) 96),.bool true]) (za2 Tryz.results141 _ _ (W.heap.size+1) _ _ _ rfl X.out.res rfl rfl) rfl ⟨p,cap,rfl,HO.out,X.out.below⟩
theorem zyd (b:Bd) (F:List ByteArray) (n:Int) (W:World) (hf:FAt W (.slice b.fp b.fn b.fc) F) (hF:F.length≤8796093022208) (h0:¬ 0<b.inn.size):Calls Tryz.prog 141 #[bdV b,.int .u64 268435456,.int .i64 1,.int .u64 n] W (Told W (ldF b F 268435456 1 n).1 (ldF b F 268435456 1 n).2.1 (fun v=>.tuple #[v,.int .u64 (ldF b F 268435456 1 n).2.2.1,.bool (ldF b F 268435456 1 n).2.2.2])):=by
 have hr:ldF b F 268435456 1 n=({ b with inn:=zd7 b.inn },F,zdZ b.inn,true):=rfl
 rw [hr]
 clear hr
 have HFR:=hid hf
 have HFL:=hid hF
 clear hf hF
 have e0:b.inn.toList.isEmpty=true:=by have h:=zeb b.inn;rw [decide_eq_false (by omega)] at h;simpa using h
 have HT:Hid (zdZ b.inn=0∧zd7 b.inn=b.inn):=hid ⟨dif_neg (by omega),if_neg (by omega)⟩
 rw [HT.out.1,HT.out.2]
 go_enter Tryz.func141,Tryz.ntmps141
 go_upto_region 1 with (fail)
 have X:=hid (KA.new W b)
 generalize (W.alloc (bdO b)).alloc zah=wx at X ⊢
 go_wp2_with (first | (go_at_call 198;(with_reducible refine (zfs _).mono ?_);rintro e w' ⟨rfl,rfl⟩) | (with_reducible refine zaa rfl rfl (Box.load X.out.own) rfl ?_) | (go_at_call 57;(with_reducible refine (zaS b F _ (HFR.out.next X.out.below) HFL.out).mono ?_);rintro e w2 ⟨p,cap,rfl,ho,k2⟩;have HO:=hid (ho.base X.out.below.size);have X:=hid (X.out.next k2);clear ho k2) | (with_reducible refine zaa rfl rfl (Box.load_inn_at X.out.own) rfl ?_) | (with_reducible refine zas X.out.own rfl rfl rfl rfl ?_;intro wy hwy;have HO:=hid (HO.out.put X.out.own hwy);have X:=hid (X.out.put hwy);clear hwy) | (with_reducible refine zas X.out.res rfl rfl rfl rfl ?_;intro wy hwy;have HO:=hid (HO.out.put X.out.res hwy);have X:=hid (X.out.tell hwy);clear hwy) | fail)
 exact bodyPost_ret (v:=.tuple #[bdV (b.at p F.length cap),.int .u64 (0),.bool true]) (za2 Tryz.results141 _ _ (W.heap.size+1) _ _ _ rfl X.out.res rfl rfl) rfl ⟨p,cap,rfl,HO.out,X.out.below⟩
theorem ztI (b:Bd) (F:List ByteArray) (n:Int) (W:World) (hf:FAt W (.slice b.fp b.fn b.fc) F) (hF:F.length≤8796093022208) (h0:0<b.inn.size):Calls Tryz.prog 141 #[bdV b,.int .u64 268435456,.int .i64 1,.int .u64 n] W (Told W (ldF b F 268435456 1 n).1 (ldF b F 268435456 1 n).2.1 (fun v=>.tuple #[v,.int .u64 (ldF b F 268435456 1 n).2.2.1,.bool (ldF b F 268435456 1 n).2.2.2])):=by
 have hr:ldF b F 268435456 1 n=({ b with inn:=zd7 b.inn },F,zdZ b.inn,true):=rfl
 rw [hr]
 clear hr
 have HFR:=hid hf
 have HFL:=hid hF
 clear hf hF
 have e0:b.inn.toList.isEmpty=false:=by have h:=zeb b.inn;rw [decide_eq_true h0] at h;simpa using h
 have HT:Hid (zdZ b.inn=IntKind.u64.wrap (b.inn[0].toNat:Int)∧zd7 b.inn=b.inn.extract 1 b.inn.size):=hid ⟨by unfold zdZ;rw [dif_pos h0,IntKind.wrap_u64];have:=b.inn[0].toNat_lt;omega,if_pos h0⟩
 rw [HT.out.1,HT.out.2]
 have e1:b.inn.toList≠[]:=by rw [List.isEmpty_eq_false_iff] at e0;exact e0
 have e2:(1:Int)≤b.inn.size:=by omega
 go_enter Tryz.func141,Tryz.ntmps141
 go_upto_region 1 with (fail)
 have X:=hid (KA.new W b)
 generalize (W.alloc (bdO b)).alloc zah=wx at X ⊢
 go_wp2_with (first | (go_at_call 198;(with_reducible refine (zfs _).mono ?_);rintro e w' ⟨rfl,rfl⟩) | (with_reducible refine zaa rfl rfl (Box.load X.out.own) rfl ?_) | (go_at_call 57;(with_reducible refine (zaS b F _ (HFR.out.next X.out.below) HFL.out).mono ?_);rintro e w2 ⟨p,cap,rfl,ho,k2⟩;have HO:=hid (ho.base X.out.below.size);have X:=hid (X.out.next k2);clear ho k2) | (with_reducible refine zaa rfl rfl (Box.load_inn_at X.out.own) rfl ?_) | (with_reducible refine Box.w_inn X.out.own rfl rfl rfl rfl ?_;intro wy hwy;have HO:=hid (HO.out.put X.out.own hwy);have X:=hid (X.out.put hwy);clear hwy) | (with_reducible refine zas X.out.own rfl rfl rfl rfl ?_;intro wy hwy;have HO:=hid (HO.out.put X.out.own hwy);have X:=hid (X.out.put hwy);clear hwy) | (with_reducible refine zas X.out.res rfl rfl rfl rfl ?_;intro wy hwy;have HO:=hid (HO.out.put X.out.res hwy);have X:=hid (X.out.tell hwy);clear hwy) | fail)
 exact bodyPost_ret (v:=.tuple #[bdV ({ (b.at p F.length cap) with inn:=b.inn.extract 1 b.inn.size }),.int .u64 (IntKind.u64.wrap (b.inn[0].toNat:Int)),.bool true]) (za2 Tryz.results141 _ _ (W.heap.size+1) _ _ _ rfl X.out.res rfl rfl) rfl ⟨p,cap,rfl,HO.out,X.out.below⟩
theorem Box.cell_done_at {w:World} {g n c:Nat} {p:Option Addr} {b:Bd} (k:Box w g (b.at p n c)):w.cell? ⟨g,7,none⟩=some (.bool b.done):=k.cell_done
theorem Box.cell_bad_at {w:World} {g n c:Nat} {p:Option Addr} {b:Bd} (k:Box w g (b.at p n c)):w.cell? ⟨g,8,none⟩=some (.bool b.bad):=k.cell_bad
theorem zsO (b:Bd) (F:List ByteArray) (n:Int) (W:World) (hf:FAt W (.slice b.fp b.fn b.fc) F) (hF:F.length≤8796093022208):Calls Tryz.prog 141 #[bdV b,.int .u64 268439576,.int .i64 8,.int .u64 n] W (Told W (ldF b F 268439576 8 n).1 (ldF b F 268439576 8 n).2.1 (fun v=>.tuple #[v,.int .u64 (ldF b F 268439576 8 n).2.2.1,.bool (ldF b F 268439576 8 n).2.2.2])):=by
 have hr:ldF b F 268439576 8 n=({ b with done:=false },F,bits .or .u64 (bV b.done 0) (bV b.bad 1),true):=rfl
 rw [hr]
 clear hr
 have HFR:=hid hf
 have HFL:=hid hF
 clear hf hF
 obtain ⟨x,Ex⟩:∃ x,bV (b.done) 0=x:=⟨_,rfl⟩
 have Cx:Hid (∀ W,Calls Tryz.prog 64 #[.bool (b.done),.int .i64 0] W fun e W'=>e=.returned (.int .u64 x)∧W'=W):=hid fun W=>(zfG _ W).mono fun _ _ h=>⟨by rw [← Ex];exact h.1,h.2.symm⟩
 replace Ex:=hid Ex
 obtain ⟨y,Ey⟩:∃ x,bV (b.bad) 1=x:=⟨_,rfl⟩
 have Cy:Hid (∀ W,Calls Tryz.prog 64 #[.bool (b.bad),.int .i64 1] W fun e W'=>e=.returned (.int .u64 y)∧W'=W):=hid fun W=>(zhe _ W).mono fun _ _ h=>⟨by rw [← Ey];exact h.1,h.2.symm⟩
 replace Ey:=hid Ey
 have HE:Hid (bits .or .u64 (bV b.done 0) (bV b.bad 1)=bits .or .u64 x y):=hid (by rw [Ex.out,Ey.out])
 rw [HE.out]
 go_enter Tryz.func141,Tryz.ntmps141
 go_upto_region 1 with (fail)
 have X:=hid (KA.new W b)
 generalize (W.alloc (bdO b)).alloc zah=wx at X ⊢
 go_upto_region 26 with (first | (go_at_call 198;(with_reducible refine (zgf _).mono ?_);rintro e w' ⟨rfl,rfl⟩) | (with_reducible refine zaa rfl rfl (Box.load X.out.own) rfl ?_) | (go_at_call 57;(with_reducible refine (zaS b F _ (HFR.out.next X.out.below) HFL.out).mono ?_);rintro e w2 ⟨p,cap,rfl,ho,k2⟩;have HO:=hid (ho.base X.out.below.size);have X:=hid (X.out.next k2);clear ho k2) | (with_reducible refine zas X.out.own rfl rfl rfl rfl ?_;intro wy hwy;have HO:=hid (HO.out.put X.out.own hwy);have X:=hid (X.out.put hwy);clear hwy) | (with_reducible refine zas X.out.res rfl rfl rfl rfl ?_;intro wy hwy;have HO:=hid (HO.out.put X.out.res hwy);have X:=hid (X.out.tell hwy);clear hwy) | fail)
 have m7:=X.out.own.cell_done_at
 have m8:=X.out.own.cell_bad_at
 go_quiet (first | (go_at_call 64;with_reducible exact Calls.quiet_of_same (Cx.out _)) | (go_at_call 64;with_reducible exact Calls.quiet_of_same (Cy.out _)))
 clear m7 m8
 replace X:=hid (X.out.drewN nq)
 replace HO:=hid (HO.out.drewN nq)
 go_wp2_with (first | (with_reducible refine Box.w_done X.out.own rfl rfl rfl rfl ?_;intro wy hwy;have HO:=hid (HO.out.put X.out.own hwy);have X:=hid (X.out.put hwy);clear hwy) | (with_reducible refine zaa rfl rfl (Box.load X.out.own) rfl ?_) | (with_reducible refine zas X.out.res rfl rfl rfl rfl ?_;intro wy hwy;have HO:=hid (HO.out.put X.out.res hwy);have X:=hid (X.out.tell hwy);clear hwy) | fail)
 exact bodyPost_ret (v:=.tuple #[bdV ({ (b.at p F.length cap) with done:=false }),.int .u64 (bits .or .u64 x y),.bool true]) (za2 Tryz.results141 _ _ (W.heap.size+1) _ _ _ rfl X.out.res rfl rfl) rfl ⟨p,cap,rfl,HO.out,X.out.below⟩
theorem zoI (b:Bd) (F:List ByteArray) (n:Int) (W:World) (hf:FAt W (.slice b.fp b.fn b.fc) F) (hF:F.length≤8796093022208) (h0:¬ 0<F.length):Calls Tryz.prog 141 #[bdV b,.int .u64 268443648,.int .i64 8,.int .u64 n] W (Told W (ldF b F 268443648 8 n).1 (ldF b F 268443648 8 n).2.1 (fun v=>.tuple #[v,.int .u64 (ldF b F 268443648 8 n).2.2.1,.bool (ldF b F 268443648 8 n).2.2.2])):=by
 have hr:ldF b F 268443648 8 n=(b,F,lenF F,true):=rfl
 rw [hr]
 clear hr
 have HFR:=hid hf
 have HFL:=hid hF
 clear hf hF
 have HT:Hid (lenF F=0):=hid (dif_neg h0)
 rw [HT.out]
 have g0:decide (0<F.length)=false:=decide_eq_false h0
 go_enter Tryz.func141,Tryz.ntmps141
 go_upto_region 1 with (fail)
 have X:=hid (KA.new W b)
 generalize (W.alloc (bdO b)).alloc zah=wx at X ⊢
 go_wp2_with (first | (go_at_call 198;(with_reducible refine (ze4 _).mono ?_);rintro e w' ⟨rfl,rfl⟩) | (with_reducible refine zaa rfl rfl (Box.load X.out.own) rfl ?_) | (go_at_call 57;(with_reducible refine (zaS b F _ (HFR.out.next X.out.below) HFL.out).mono ?_);rintro e w2 ⟨p,cap,rfl,ho,k2⟩;have HO:=hid (ho.base X.out.below.size);have X:=hid (X.out.next k2);clear ho k2) | (with_reducible refine zaa rfl rfl (Box.load_fr_at X.out.own) rfl ?_) | (with_reducible refine zas X.out.own rfl rfl rfl rfl ?_;intro wy hwy;have HO:=hid (HO.out.put X.out.own hwy);have X:=hid (X.out.put hwy);clear hwy) | (with_reducible refine zas X.out.res rfl rfl rfl rfl ?_;intro wy hwy;have HO:=hid (HO.out.put X.out.res hwy);have X:=hid (X.out.tell hwy);clear hwy) | fail)
 exact bodyPost_ret (v:=.tuple #[bdV (b.at p F.length cap),.int .u64 (0),.bool true]) (za2 Tryz.results141 _ _ (W.heap.size+1) _ _ _ rfl X.out.res rfl rfl) rfl ⟨p,cap,rfl,HO.out,X.out.below⟩
theorem zxI (b:Bd) (F:List ByteArray) (n:Int) (W:World) (hf:FAt W (.slice b.fp b.fn b.fc) F) (hF:F.length≤8796093022208) (h0:0<F.length):Calls Tryz.prog 141 #[bdV b,.int .u64 268443648,.int .i64 8,.int .u64 n] W (Told W (ldF b F 268443648 8 n).1 (ldF b F 268443648 8 n).2.1 (fun v=>.tuple #[v,.int .u64 (ldF b F 268443648 8 n).2.2.1,.bool (ldF b F 268443648 8 n).2.2.2])):=by
 have hr:ldF b F 268443648 8 n=(b,F,lenF F,true):=rfl
 rw [hr]
 clear hr
 have HFR:=hid hf
 have HFL:=hid hF
 clear hf hF
 have HT:Hid (lenF F=IntKind.u64.wrap (F[0].size:Int)):=hid (dif_pos h0)
 rw [HT.out]
 have g0:decide (0<F.length)=true:=decide_eq_true h0
 go_enter Tryz.func141,Tryz.ntmps141
 go_upto_region 1 with (fail)
 have X:=hid (KA.new W b)
 generalize (W.alloc (bdO b)).alloc zah=wx at X ⊢
 go_upto_region 29 with (first | (go_at_call 198;(with_reducible refine (ze4 _).mono ?_);rintro e w' ⟨rfl,rfl⟩) | (with_reducible refine zaa rfl rfl (Box.load X.out.own) rfl ?_) | (go_at_call 57;(with_reducible refine (zaS b F _ (HFR.out.next X.out.below) HFL.out).mono ?_);rintro e w2 ⟨p,cap,rfl,ho,k2⟩;have HO:=hid (ho.base X.out.below.size);have X:=hid (X.out.next k2);clear ho k2) | (with_reducible refine zaa rfl rfl (Box.load_fr_at X.out.own) rfl ?_) | (with_reducible refine zas X.out.own rfl rfl rfl rfl ?_;intro wy hwy;have HO:=hid (HO.out.put X.out.own hwy);have X:=hid (X.out.put hwy);clear hwy) | (with_reducible refine zas X.out.res rfl rfl rfl rfl ?_;intro wy hwy;have HO:=hid (HO.out.put X.out.res hwy);have X:=hid (X.out.tell hwy);clear hwy) | fail)
 obtain ⟨g,off,c2,e,_,_,hg,hc⟩:=HO.out.at.cell h0
 simp only [Value.slice.injEq] at e
 obtain ⟨rfl,_,rfl⟩:=e
 have c0:=hc 0 h0
 rw [Nat.add_zero] at c0
 clear hc
 go_wp2_with (first | (go_at_call 198;(with_reducible refine (ze4 _).mono ?_);rintro e w' ⟨rfl,rfl⟩) | (with_reducible refine zaa rfl rfl (Box.load X.out.own) rfl ?_) | (go_at_call 57;(with_reducible refine (zaS b F _ (HFR.out.next X.out.below) HFL.out).mono ?_);rintro e w2 ⟨p,cap,rfl,ho,k2⟩;have HO:=hid (ho.base X.out.below.size);have X:=hid (X.out.next k2);clear ho k2) | (with_reducible refine zaa rfl rfl (Box.load_fr_at X.out.own) rfl ?_) | (with_reducible refine zas X.out.own rfl rfl rfl rfl ?_;intro wy hwy;have HO:=hid (HO.out.put X.out.own hwy);have X:=hid (X.out.put hwy);clear hwy) | (with_reducible refine zas X.out.res rfl rfl rfl rfl ?_;intro wy hwy;have HO:=hid (HO.out.put X.out.res hwy);have X:=hid (X.out.tell hwy);clear hwy) | fail)
 exact bodyPost_ret (v:=.tuple #[bdV (b.at _ F.length _),.int .u64 (IntKind.u64.wrap (F[0].size:Int)),.bool true]) (za2 Tryz.results141 _ _ (W.heap.size+1) _ _ _ rfl X.out.res rfl rfl) rfl ⟨_,_,rfl,HO.out,X.out.below⟩
theorem zcj (b:Bd) (t s v n:Int) (W:World) (c:Hid (∀ W,TW 198 #[.int .u64 t] W (.int .i64 v))) (hs:(s != v)=true):Calls Tryz.prog 141 #[bdV b,.int .u64 t,.int .i64 s,.int .u64 n] W (Told W bdZ [] (fun v=>.tuple #[v,.int .u64 0,.bool false])):=by
 go_enter Tryz.func141,Tryz.ntmps141
 go_upto_region 1 with (fail)
 have X:=hid (KA.new W b)
 generalize (W.alloc (bdO b)).alloc zah=wx at X ⊢
 go_wp2_with (first | (go_at_call 198;(with_reducible refine (c.out _).mono ?_);rintro e w' ⟨rfl,rfl⟩) | ((with_reducible show wpList _ _ _ (⟨none,Op.store 35 (.tmp 8) (.tmp 16),_,_,_,_⟩ :: _) _ _);refine zas (b:=bdZ) X.out.res rfl rfl rfl (by rfl) ?_;intro wy hwy;have X:=hid (X.out.tell hwy);clear hwy) | fail)
 exact bodyPost_ret (v:=.tuple #[bdV bdZ,.int .u64 0,.bool false]) (za2 Tryz.results141 _ _ (W.heap.size+1) _ _ _ rfl X.out.res rfl rfl) rfl (zdr (fun v=>.tuple #[v,.int .u64 0,.bool false]) X.out.below)
theorem zxV (b:Bd) (F:List ByteArray) (n:Int) (W:World) (hf:FAt W (.slice b.fp b.fn b.fc) F) (hF:F.length≤8796093022208):Calls Tryz.prog 141 #[bdV b,.int .u64 268439568,.int .i64 8,.int .u64 n] W (Told W bdZ [] (fun v=>.tuple #[v,.int .u64 0,.bool false])):=by
 have HFR:=hid hf
 have HFL:=hid hF
 clear hf hF
 go_enter Tryz.func141,Tryz.ntmps141
 go_upto_region 1 with (fail)
 have X:=hid (KA.new W b)
 generalize (W.alloc (bdO b)).alloc zah=wx at X ⊢
 go_wp2_with (first | (go_at_call 198;(with_reducible refine (zfW _).mono ?_);rintro e w' ⟨rfl,rfl⟩) | (with_reducible refine zaa rfl rfl (Box.load X.out.own) rfl ?_) | (go_at_call 57;(with_reducible refine (zaS b F _ (HFR.out.next X.out.below) HFL.out).mono ?_);rintro e w2 ⟨p,cap,rfl,ho,k2⟩;have HO:=hid (ho.base X.out.below.size);have X:=hid (X.out.next k2);clear ho k2) | (with_reducible refine zas X.out.own rfl rfl rfl rfl ?_;intro wy hwy;have HO:=hid (HO.out.put X.out.own hwy);have X:=hid (X.out.put hwy);clear hwy) | ((with_reducible show wpList _ _ _ (⟨none,Op.store 35 (.tmp 8) (.tmp 20),_,_,_,_⟩ :: _) _ _);refine zas (b:=bdZ) X.out.res rfl rfl rfl (by rfl) ?_;intro wy hwy;have X:=hid (X.out.tell hwy);clear hwy) | fail)
 exact bodyPost_ret (v:=.tuple #[bdV bdZ,.int .u64 0,.bool false]) (za2 Tryz.results141 _ _ (W.heap.size+1) _ _ _ rfl X.out.res rfl rfl) rfl (zdr (fun v=>.tuple #[v,.int .u64 0,.bool false]) X.out.below)
theorem ztw (b:Bd) (F:List ByteArray) (n:Int) (W:World) (hf:FAt W (.slice b.fp b.fn b.fc) F) (hF:F.length≤8796093022208):Calls Tryz.prog 141 #[bdV b,.int .u64 268443664,.int .i64 8,.int .u64 n] W (Told W bdZ [] (fun v=>.tuple #[v,.int .u64 0,.bool false])):=by
 have HFR:=hid hf
 have HFL:=hid hF
 clear hf hF
 go_enter Tryz.func141,Tryz.ntmps141
 go_upto_region 1 with (fail)
 have X:=hid (KA.new W b)
 generalize (W.alloc (bdO b)).alloc zah=wx at X ⊢
 go_wp2_with (first | (go_at_call 198;(with_reducible refine (zf5 _).mono ?_);rintro e w' ⟨rfl,rfl⟩) | (with_reducible refine zaa rfl rfl (Box.load X.out.own) rfl ?_) | (go_at_call 57;(with_reducible refine (zaS b F _ (HFR.out.next X.out.below) HFL.out).mono ?_);rintro e w2 ⟨p,cap,rfl,ho,k2⟩;have HO:=hid (ho.base X.out.below.size);have X:=hid (X.out.next k2);clear ho k2) | (with_reducible refine zas X.out.own rfl rfl rfl rfl ?_;intro wy hwy;have HO:=hid (HO.out.put X.out.own hwy);have X:=hid (X.out.put hwy);clear hwy) | ((with_reducible show wpList _ _ _ (⟨none,Op.store 35 (.tmp 8) (.tmp 20),_,_,_,_⟩ :: _) _ _);refine zas (b:=bdZ) X.out.res rfl rfl rfl (by rfl) ?_;intro wy hwy;have X:=hid (X.out.tell hwy);clear hwy) | fail)
 exact bodyPost_ret (v:=.tuple #[bdV bdZ,.int .u64 0,.bool false]) (za2 Tryz.results141 _ _ (W.heap.size+1) _ _ _ rfl X.out.res rfl rfl) rfl (zdr (fun v=>.tuple #[v,.int .u64 0,.bool false]) X.out.below)
theorem zx1 (b:Bd) (F:List ByteArray) (t n:Int) (W:World) (hf:FAt W (.slice b.fp b.fn b.fc) F) (hF:F.length≤8796093022208) (h:zdk t):Calls Tryz.prog 141 #[bdV b,.int .u64 t,.int .i64 0,.int .u64 n] W (Told W bdZ [] (fun v=>.tuple #[v,.int .u64 0,.bool false])):=by
 have HFR:=hid hf
 have HFL:=hid hF
 clear hf hF
 have c0:=hid (zgx t h)
 obtain ⟨h0,h1,h2,h3,h4,h5,h6,h7,h8,h9,h10,h11,h12,h13⟩:=h
 go_enter Tryz.func141,Tryz.ntmps141
 go_upto_region 1 with (fail)
 have X:=hid (KA.new W b)
 generalize (W.alloc (bdO b)).alloc zah=wx at X ⊢
 go_wp2_with (first | (go_at_call 198;(with_reducible refine (c0.out _).mono ?_);rintro e w' ⟨rfl,rfl⟩) | (with_reducible refine zaa rfl rfl (Box.load X.out.own) rfl ?_) | (go_at_call 57;(with_reducible refine (zaS b F _ (HFR.out.next X.out.below) HFL.out).mono ?_);rintro e w2 ⟨p,cap,rfl,ho,k2⟩;have HO:=hid (ho.base X.out.below.size);have X:=hid (X.out.next k2);clear ho k2) | (with_reducible refine zas X.out.own rfl rfl rfl rfl ?_;intro wy hwy;have HO:=hid (HO.out.put X.out.own hwy);have X:=hid (X.out.put hwy);clear hwy) | ((with_reducible show wpList _ _ _ (⟨none,Op.store 35 (.tmp 8) (.tmp 20),_,_,_,_⟩ :: _) _ _);refine zas (b:=bdZ) X.out.res rfl rfl rfl (by rfl) ?_;intro wy hwy;have X:=hid (X.out.tell hwy);clear hwy) | fail)
 exact bodyPost_ret (v:=.tuple #[bdV bdZ,.int .u64 0,.bool false]) (za2 Tryz.results141 _ _ (W.heap.size+1) _ _ _ rfl X.out.res rfl rfl) rfl (zdr (fun v=>.tuple #[v,.int .u64 0,.bool false]) X.out.below)
theorem zq9 (b:Bd) (F:List ByteArray) (t s n:Int) (W:World) (hf:FAt W (.slice b.fp b.fn b.fc) F) (hF:F.length≤8796093022208):Calls Tryz.prog 141 #[bdV b,.int .u64 t,.int .i64 s,.int .u64 n] W (Told W (ldF b F t s n).1 (ldF b F t s n).2.1 (fun v=>.tuple #[v,.int .u64 (ldF b F t s n).2.2.1,.bool (ldF b F t s n).2.2.2])):=by
 by_cases h0:t=33554432
 ·subst h0
  by_cases hs:s=4
  ·subst hs
   exact zmg b F n W hf hF
  ·rw [zb6 _ _ _ _ _ (by omega)]
   exact zcj b _ s 4 n W (hid zgn) (by rw [bne_iff_ne];exact hs)
 by_cases h1:t=33570816
 ·subst h1
  by_cases hs:s=8
  ·subst hs
   exact zq0 b F n W hf hF
  ·rw [zb6 _ _ _ _ _ (by omega)]
   exact zcj b _ s 8 n W (hid zfE) (by rw [bne_iff_ne];exact hs)
 by_cases h2:t=33603576
 ·subst h2
  by_cases hs:s=8
  ·subst hs
   exact zlo b F n W hf hF
  ·rw [zb6 _ _ _ _ _ (by omega)]
   exact zcj b _ s 8 n W (hid zgu) (by rw [bne_iff_ne];exact hs)
 by_cases h3:t=268435456
 ·subst h3
  by_cases hs:s=1
  ·subst hs
   by_cases hq:0<b.inn.size
   ·exact ztI b F n W hf hF hq
   ·exact zyd b F n W hf hF hq
  ·rw [zb6 _ _ _ _ _ (by omega)]
   exact zcj b _ s 1 n W (hid zfs) (by rw [bne_iff_ne];exact hs)
 by_cases h4:t=268435457
 ·subst h4
  by_cases hs:s=1
  ·subst hs
   exact zxm b F n W hf hF
  ·rw [zb6 _ _ _ _ _ (by omega)]
   exact zcj b _ s 1 n W (hid zfV) (by rw [bne_iff_ne];exact hs)
 by_cases h5:t=268435461
 ·subst h5
  by_cases hs:s=1
  ·subst hs
   exact zpd b F n W hf hF
  ·rw [zb6 _ _ _ _ _ (by omega)]
   exact zcj b _ s 1 n W (hid zgz) (by rw [bne_iff_ne];exact hs)
 by_cases h6:t=268439552
 ·subst h6
  by_cases hs:s=8
  ·subst hs
   exact zkW b F n W hf hF
  ·rw [zb6 _ _ _ _ _ (by omega)]
   exact zcj b _ s 8 n W (hid zgv) (by rw [bne_iff_ne];exact hs)
 by_cases h7:t=268439560
 ·subst h7
  by_cases hs:s=8
  ·subst hs
   exact zxx b F n W hf hF
  ·rw [zb6 _ _ _ _ _ (by omega)]
   exact zcj b _ s 8 n W (hid zgi) (by rw [bne_iff_ne];exact hs)
 by_cases h8:t=268439568
 ·subst h8
  by_cases hs:s=8
  ·subst hs
   rw [zb6 _ _ _ _ _ (by omega)]
   exact zxV b F n W hf hF
  ·rw [zb6 _ _ _ _ _ (by omega)]
   exact zcj b _ s 8 n W (hid zfW) (by rw [bne_iff_ne];exact hs)
 by_cases h9:t=268439576
 ·subst h9
  by_cases hs:s=8
  ·subst hs
   exact zsO b F n W hf hF
  ·rw [zb6 _ _ _ _ _ (by omega)]
   exact zcj b _ s 8 n W (hid zgf) (by rw [bne_iff_ne];exact hs)
 by_cases h10:t=268443648
 ·subst h10
  by_cases hs:s=8
  ·subst hs
   by_cases hq:0<F.length
   ·exact zxI b F n W hf hF hq
   ·exact zoI b F n W hf hF hq
  ·rw [zb6 _ _ _ _ _ (by omega)]
   exact zcj b _ s 8 n W (hid ze4) (by rw [bne_iff_ne];exact hs)
 by_cases h11:t=268443656
 ·subst h11
  by_cases hs:s=8
  ·subst hs
   exact zoX b F n W hf hF
  ·rw [zb6 _ _ _ _ _ (by omega)]
   exact zcj b _ s 8 n W (hid zge) (by rw [bne_iff_ne];exact hs)
 by_cases h12:t=268443664
 ·subst h12
  by_cases hs:s=8
  ·subst hs
   rw [zb6 _ _ _ _ _ (by omega)]
   exact ztw b F n W hf hF
  ·rw [zb6 _ _ _ _ _ (by omega)]
   exact zcj b _ s 8 n W (hid zf5) (by rw [bne_iff_ne];exact hs)
 by_cases h13:t=268443672
 ·subst h13
  by_cases hs:s=8
  ·subst hs
   exact zk3 b F n W hf hF
  ·rw [zb6 _ _ _ _ _ (by omega)]
   exact zcj b _ s 8 n W (hid zgl) (by rw [bne_iff_ne];exact hs)
 have hn:zdk t:=⟨beq_eq_false_iff_ne.2 h0,beq_eq_false_iff_ne.2 h1,beq_eq_false_iff_ne.2 h2,beq_eq_false_iff_ne.2 h3,beq_eq_false_iff_ne.2 h4,beq_eq_false_iff_ne.2 h5,beq_eq_false_iff_ne.2 h6,beq_eq_false_iff_ne.2 h7,beq_eq_false_iff_ne.2 h8,beq_eq_false_iff_ne.2 h9,beq_eq_false_iff_ne.2 h10,beq_eq_false_iff_ne.2 h11,beq_eq_false_iff_ne.2 h12,beq_eq_false_iff_ne.2 h13⟩
 rw [zb6 _ _ _ _ _ (by omega)]
 by_cases hs:s=0
 ·subst hs
  exact zx1 b F t n W hf hF hn
 ·exact zcj b t s 0 n W (hid (zgx t hn)) (by rw [bne_iff_ne];exact hs)
end Go.Proofs.YtplcfdnfeclpmaaGreatDoor
