/- HartQuiet,part 21. -/
import Derived.Test.YtmjjpgaeboaamaaGreatDoorY03
set_option maxHeartbeats 4000000
set_option maxRecDepth 100000
open Go.Lib (hid)
namespace Go.Proofs.YtmjjpgaeboaamaaGreatDoor
open Go.RowKit Go.Deep Go.Joins
theorem zvg (b:Bd) (F:List ByteArray) (n:Int) (W:World) (hf:FAt W (.slice b.fp b.fn b.fc) F) (hF:F.length≤8796093022208):Calls Tryz.prog 214 #[bdV b,.int .u64 33570816,.int .i64 8,.int .u64 n] W (Told W (ldF b F 33570816 8 n).1 (ldF b F 33570816 8 n).2.1 (fun v=>.tuple #[v,.int .u64 (ldF b F 33570816 8 n).2.2.1,.bool (ldF b F 33570816 8 n).2.2.2])):=by
 have hr:ldF b F 33570816 8 n=(b,F,b.cmp,true):=rfl
 rw [hr]
 clear hr
 have HFR:=hid hf
 have HFL:=hid hF
 clear hf hF
 go_enter Tryz.func214,Tryz.ntmps214
 go_upto_region 1 with (fail)
 have X:=hid (KA.new W b)
 generalize (W.alloc (bdO b)).alloc zak=wx at X ⊢
 go_wp2_with (first | (go_at_call 294;(with_reducible refine (zfU _).mono ?_);rintro e w' ⟨rfl,rfl⟩) | (with_reducible refine zaa rfl rfl (Box.load X.out.own) rfl ?_) | (go_at_call 92;(with_reducible refine (za0 b F _ (HFR.out.next X.out.below) HFL.out).mono ?_);rintro e w2 ⟨p,cap,rfl,ho,k2⟩;have HO:=hid (ho.base X.out.below.size);have X:=hid (X.out.next k2);clear ho k2) | (with_reducible refine zaa rfl rfl (Box.load_cmp X.out.own) rfl ?_) | (with_reducible refine zay X.out.own rfl rfl rfl rfl ?_;intro wy hwy;have HO:=hid (HO.out.put X.out.own hwy);have X:=hid (X.out.put hwy);clear hwy) | (with_reducible refine zay X.out.res rfl rfl rfl rfl ?_;intro wy hwy;have HO:=hid (HO.out.put X.out.res hwy);have X:=hid (X.out.tell hwy);clear hwy) | fail)
 exact bodyPost_ret (v:=.tuple #[bdV (b.at p F.length cap),.int .u64 (b.cmp),.bool true]) (zaZ Tryz.results214 _ _ (W.heap.size+1) _ _ _ rfl X.out.res rfl rfl) rfl ⟨p,cap,rfl,HO.out,X.out.below⟩
theorem zpd (b:Bd) (F:List ByteArray) (n:Int) (W:World) (hf:FAt W (.slice b.fp b.fn b.fc) F) (hF:F.length≤8796093022208):Calls Tryz.prog 214 #[bdV b,.int .u64 268439552,.int .i64 8,.int .u64 n] W (Told W (ldF b F 268439552 8 n).1 (ldF b F 268439552 8 n).2.1 (fun v=>.tuple #[v,.int .u64 (ldF b F 268439552 8 n).2.2.1,.bool (ldF b F 268439552 8 n).2.2.2])):=by
 have hr:ldF b F 268439552 8 n=(b,F,b.sector,true):=rfl
 rw [hr]
 clear hr
 have HFR:=hid hf
 have HFL:=hid hF
 clear hf hF
 go_enter Tryz.func214,Tryz.ntmps214
 go_upto_region 1 with (fail)
 have X:=hid (KA.new W b)
 generalize (W.alloc (bdO b)).alloc zak=wx at X ⊢
 go_wp2_with (first | (go_at_call 294;(with_reducible refine (zge _).mono ?_);rintro e w' ⟨rfl,rfl⟩) | (with_reducible refine zaa rfl rfl (Box.load X.out.own) rfl ?_) | (go_at_call 92;(with_reducible refine (za0 b F _ (HFR.out.next X.out.below) HFL.out).mono ?_);rintro e w2 ⟨p,cap,rfl,ho,k2⟩;have HO:=hid (ho.base X.out.below.size);have X:=hid (X.out.next k2);clear ho k2) | (with_reducible refine zaa rfl rfl (Box.load_sector X.out.own) rfl ?_) | (with_reducible refine zay X.out.own rfl rfl rfl rfl ?_;intro wy hwy;have HO:=hid (HO.out.put X.out.own hwy);have X:=hid (X.out.put hwy);clear hwy) | (with_reducible refine zay X.out.res rfl rfl rfl rfl ?_;intro wy hwy;have HO:=hid (HO.out.put X.out.res hwy);have X:=hid (X.out.tell hwy);clear hwy) | fail)
 exact bodyPost_ret (v:=.tuple #[bdV (b.at p F.length cap),.int .u64 (b.sector),.bool true]) (zaZ Tryz.results214 _ _ (W.heap.size+1) _ _ _ rfl X.out.res rfl rfl) rfl ⟨p,cap,rfl,HO.out,X.out.below⟩
theorem zo0 (b:Bd) (F:List ByteArray) (n:Int) (W:World) (hf:FAt W (.slice b.fp b.fn b.fc) F) (hF:F.length≤8796093022208):Calls Tryz.prog 214 #[bdV b,.int .u64 268439560,.int .i64 8,.int .u64 n] W (Told W (ldF b F 268439560 8 n).1 (ldF b F 268439560 8 n).2.1 (fun v=>.tuple #[v,.int .u64 (ldF b F 268439560 8 n).2.2.1,.bool (ldF b F 268439560 8 n).2.2.2])):=by
 have hr:ldF b F 268439560 8 n=(b,F,b.addr,true):=rfl
 rw [hr]
 clear hr
 have HFR:=hid hf
 have HFL:=hid hF
 clear hf hF
 go_enter Tryz.func214,Tryz.ntmps214
 go_upto_region 1 with (fail)
 have X:=hid (KA.new W b)
 generalize (W.alloc (bdO b)).alloc zak=wx at X ⊢
 go_wp2_with (first | (go_at_call 294;(with_reducible refine (zga _).mono ?_);rintro e w' ⟨rfl,rfl⟩) | (with_reducible refine zaa rfl rfl (Box.load X.out.own) rfl ?_) | (go_at_call 92;(with_reducible refine (za0 b F _ (HFR.out.next X.out.below) HFL.out).mono ?_);rintro e w2 ⟨p,cap,rfl,ho,k2⟩;have HO:=hid (ho.base X.out.below.size);have X:=hid (X.out.next k2);clear ho k2) | (with_reducible refine zaa rfl rfl (Box.load_addr X.out.own) rfl ?_) | (with_reducible refine zay X.out.own rfl rfl rfl rfl ?_;intro wy hwy;have HO:=hid (HO.out.put X.out.own hwy);have X:=hid (X.out.put hwy);clear hwy) | (with_reducible refine zay X.out.res rfl rfl rfl rfl ?_;intro wy hwy;have HO:=hid (HO.out.put X.out.res hwy);have X:=hid (X.out.tell hwy);clear hwy) | fail)
 exact bodyPost_ret (v:=.tuple #[bdV (b.at p F.length cap),.int .u64 (b.addr),.bool true]) (zaZ Tryz.results214 _ _ (W.heap.size+1) _ _ _ rfl X.out.res rfl rfl) rfl ⟨p,cap,rfl,HO.out,X.out.below⟩
theorem zmk (b:Bd) (F:List ByteArray) (n:Int) (W:World) (hf:FAt W (.slice b.fp b.fn b.fc) F) (hF:F.length≤8796093022208):Calls Tryz.prog 214 #[bdV b,.int .u64 268443656,.int .i64 8,.int .u64 n] W (Told W (ldF b F 268443656 8 n).1 (ldF b F 268443656 8 n).2.1 (fun v=>.tuple #[v,.int .u64 (ldF b F 268443656 8 n).2.2.1,.bool (ldF b F 268443656 8 n).2.2.2])):=by
 have hr:ldF b F 268443656 8 n=(b,F,b.nicA,true):=rfl
 rw [hr]
 clear hr
 have HFR:=hid hf
 have HFL:=hid hF
 clear hf hF
 go_enter Tryz.func214,Tryz.ntmps214
 go_upto_region 1 with (fail)
 have X:=hid (KA.new W b)
 generalize (W.alloc (bdO b)).alloc zak=wx at X ⊢
 go_wp2_with (first | (go_at_call 294;(with_reducible refine (zfM _).mono ?_);rintro e w' ⟨rfl,rfl⟩) | (with_reducible refine zaa rfl rfl (Box.load X.out.own) rfl ?_) | (go_at_call 92;(with_reducible refine (za0 b F _ (HFR.out.next X.out.below) HFL.out).mono ?_);rintro e w2 ⟨p,cap,rfl,ho,k2⟩;have HO:=hid (ho.base X.out.below.size);have X:=hid (X.out.next k2);clear ho k2) | (with_reducible refine zaa rfl rfl (Box.load_nicA X.out.own) rfl ?_) | (with_reducible refine zay X.out.own rfl rfl rfl rfl ?_;intro wy hwy;have HO:=hid (HO.out.put X.out.own hwy);have X:=hid (X.out.put hwy);clear hwy) | (with_reducible refine zay X.out.res rfl rfl rfl rfl ?_;intro wy hwy;have HO:=hid (HO.out.put X.out.res hwy);have X:=hid (X.out.tell hwy);clear hwy) | fail)
 exact bodyPost_ret (v:=.tuple #[bdV (b.at p F.length cap),.int .u64 (b.nicA),.bool true]) (zaZ Tryz.results214 _ _ (W.heap.size+1) _ _ _ rfl X.out.res rfl rfl) rfl ⟨p,cap,rfl,HO.out,X.out.below⟩
theorem zsn (b:Bd) (F:List ByteArray) (n:Int) (W:World) (hf:FAt W (.slice b.fp b.fn b.fc) F) (hF:F.length≤8796093022208):Calls Tryz.prog 214 #[bdV b,.int .u64 268443672,.int .i64 8,.int .u64 n] W (Told W (ldF b F 268443672 8 n).1 (ldF b F 268443672 8 n).2.1 (fun v=>.tuple #[v,.int .u64 (ldF b F 268443672 8 n).2.2.1,.bool (ldF b F 268443672 8 n).2.2.2])):=by
 have hr:ldF b F 268443672 8 n=(b,F,b.nicL,true):=rfl
 rw [hr]
 clear hr
 have HFR:=hid hf
 have HFL:=hid hF
 clear hf hF
 go_enter Tryz.func214,Tryz.ntmps214
 go_upto_region 1 with (fail)
 have X:=hid (KA.new W b)
 generalize (W.alloc (bdO b)).alloc zak=wx at X ⊢
 go_wp2_with (first | (go_at_call 294;(with_reducible refine (zfR _).mono ?_);rintro e w' ⟨rfl,rfl⟩) | (with_reducible refine zaa rfl rfl (Box.load X.out.own) rfl ?_) | (go_at_call 92;(with_reducible refine (za0 b F _ (HFR.out.next X.out.below) HFL.out).mono ?_);rintro e w2 ⟨p,cap,rfl,ho,k2⟩;have HO:=hid (ho.base X.out.below.size);have X:=hid (X.out.next k2);clear ho k2) | (with_reducible refine zaa rfl rfl (Box.load_nicL X.out.own) rfl ?_) | (with_reducible refine zay X.out.own rfl rfl rfl rfl ?_;intro wy hwy;have HO:=hid (HO.out.put X.out.own hwy);have X:=hid (X.out.put hwy);clear hwy) | (with_reducible refine zay X.out.res rfl rfl rfl rfl ?_;intro wy hwy;have HO:=hid (HO.out.put X.out.res hwy);have X:=hid (X.out.tell hwy);clear hwy) | fail)
 exact bodyPost_ret (v:=.tuple #[bdV (b.at p F.length cap),.int .u64 (b.nicL),.bool true]) (zaZ Tryz.results214 _ _ (W.heap.size+1) _ _ _ rfl X.out.res rfl rfl) rfl ⟨p,cap,rfl,HO.out,X.out.below⟩
theorem znr (b:Bd) (F:List ByteArray) (n:Int) (W:World) (hf:FAt W (.slice b.fp b.fn b.fc) F) (hF:F.length≤8796093022208):Calls Tryz.prog 214 #[bdV b,.int .u64 33603576,.int .i64 8,.int .u64 n] W (Told W (ldF b F 33603576 8 n).1 (ldF b F 33603576 8 n).2.1 (fun v=>.tuple #[v,.int .u64 (ldF b F 33603576 8 n).2.2.1,.bool (ldF b F 33603576 8 n).2.2.2])):=by
 have hr:ldF b F 33603576 8 n=(b,F,n,true):=rfl
 rw [hr]
 clear hr
 have HFR:=hid hf
 have HFL:=hid hF
 clear hf hF
 go_enter Tryz.func214,Tryz.ntmps214
 go_upto_region 1 with (fail)
 have X:=hid (KA.new W b)
 generalize (W.alloc (bdO b)).alloc zak=wx at X ⊢
 go_wp2_with (first | (go_at_call 294;(with_reducible refine (zf8 _).mono ?_);rintro e w' ⟨rfl,rfl⟩) | (with_reducible refine zaa rfl rfl (Box.load X.out.own) rfl ?_) | (go_at_call 92;(with_reducible refine (za0 b F _ (HFR.out.next X.out.below) HFL.out).mono ?_);rintro e w2 ⟨p,cap,rfl,ho,k2⟩;have HO:=hid (ho.base X.out.below.size);have X:=hid (X.out.next k2);clear ho k2) | (with_reducible refine zay X.out.own rfl rfl rfl rfl ?_;intro wy hwy;have HO:=hid (HO.out.put X.out.own hwy);have X:=hid (X.out.put hwy);clear hwy) | (with_reducible refine zay X.out.res rfl rfl rfl rfl ?_;intro wy hwy;have HO:=hid (HO.out.put X.out.res hwy);have X:=hid (X.out.tell hwy);clear hwy) | fail)
 exact bodyPost_ret (v:=.tuple #[bdV (b.at p F.length cap),.int .u64 (n),.bool true]) (zaZ Tryz.results214 _ _ (W.heap.size+1) _ _ _ rfl X.out.res rfl rfl) rfl ⟨p,cap,rfl,HO.out,X.out.below⟩
theorem zmz (b:Bd) (F:List ByteArray) (n:Int) (W:World) (hf:FAt W (.slice b.fp b.fn b.fc) F) (hF:F.length≤8796093022208):Calls Tryz.prog 214 #[bdV b,.int .u64 33554432,.int .i64 4,.int .u64 n] W (Told W (ldF b F 33554432 4 n).1 (ldF b F 33554432 4 n).2.1 (fun v=>.tuple #[v,.int .u64 (ldF b F 33554432 4 n).2.2.1,.bool (ldF b F 33554432 4 n).2.2.2])):=by
 have hr:ldF b F 33554432 4 n=(b,F,bV b.msip 0,true):=rfl
 rw [hr]
 clear hr
 have HFR:=hid hf
 have HFL:=hid hF
 clear hf hF
 go_enter Tryz.func214,Tryz.ntmps214
 go_upto_region 1 with (fail)
 have X:=hid (KA.new W b)
 generalize (W.alloc (bdO b)).alloc zak=wx at X ⊢
 go_wp2_with (first | (go_at_call 294;(with_reducible refine (zfV _).mono ?_);rintro e w' ⟨rfl,rfl⟩) | (with_reducible refine zaa rfl rfl (Box.load X.out.own) rfl ?_) | (go_at_call 92;(with_reducible refine (za0 b F _ (HFR.out.next X.out.below) HFL.out).mono ?_);rintro e w2 ⟨p,cap,rfl,ho,k2⟩;have HO:=hid (ho.base X.out.below.size);have X:=hid (X.out.next k2);clear ho k2) | (with_reducible refine zaa rfl rfl (Box.load_msip X.out.own) rfl ?_) | (go_at_call 98;(with_reducible refine (zfE _ _).mono ?_);rintro e w' ⟨rfl,rfl⟩) | (with_reducible refine zay X.out.own rfl rfl rfl rfl ?_;intro wy hwy;have HO:=hid (HO.out.put X.out.own hwy);have X:=hid (X.out.put hwy);clear hwy) | (with_reducible refine zay X.out.res rfl rfl rfl rfl ?_;intro wy hwy;have HO:=hid (HO.out.put X.out.res hwy);have X:=hid (X.out.tell hwy);clear hwy) | fail)
 exact bodyPost_ret (v:=.tuple #[bdV (b.at p F.length cap),.int .u64 (bV b.msip 0),.bool true]) (zaZ Tryz.results214 _ _ (W.heap.size+1) _ _ _ rfl X.out.res rfl rfl) rfl ⟨p,cap,rfl,HO.out,X.out.below⟩
theorem zuW (b:Bd) (F:List ByteArray) (n:Int) (W:World) (hf:FAt W (.slice b.fp b.fn b.fc) F) (hF:F.length≤8796093022208):Calls Tryz.prog 214 #[bdV b,.int .u64 268435457,.int .i64 1,.int .u64 n] W (Told W (ldF b F 268435457 1 n).1 (ldF b F 268435457 1 n).2.1 (fun v=>.tuple #[v,.int .u64 (ldF b F 268435457 1 n).2.2.1,.bool (ldF b F 268435457 1 n).2.2.2])):=by
 have hr:ldF b F 268435457 1 n=(b,F,bV b.ier 0,true):=rfl
 rw [hr]
 clear hr
 have HFR:=hid hf
 have HFL:=hid hF
 clear hf hF
 go_enter Tryz.func214,Tryz.ntmps214
 go_upto_region 1 with (fail)
 have X:=hid (KA.new W b)
 generalize (W.alloc (bdO b)).alloc zak=wx at X ⊢
 go_wp2_with (first | (go_at_call 294;(with_reducible refine (zgf _).mono ?_);rintro e w' ⟨rfl,rfl⟩) | (with_reducible refine zaa rfl rfl (Box.load X.out.own) rfl ?_) | (go_at_call 92;(with_reducible refine (za0 b F _ (HFR.out.next X.out.below) HFL.out).mono ?_);rintro e w2 ⟨p,cap,rfl,ho,k2⟩;have HO:=hid (ho.base X.out.below.size);have X:=hid (X.out.next k2);clear ho k2) | (with_reducible refine zaa rfl rfl (Box.load_ier X.out.own) rfl ?_) | (go_at_call 98;(with_reducible refine (zfE _ _).mono ?_);rintro e w' ⟨rfl,rfl⟩) | (with_reducible refine zay X.out.own rfl rfl rfl rfl ?_;intro wy hwy;have HO:=hid (HO.out.put X.out.own hwy);have X:=hid (X.out.put hwy);clear hwy) | (with_reducible refine zay X.out.res rfl rfl rfl rfl ?_;intro wy hwy;have HO:=hid (HO.out.put X.out.res hwy);have X:=hid (X.out.tell hwy);clear hwy) | fail)
 exact bodyPost_ret (v:=.tuple #[bdV (b.at p F.length cap),.int .u64 (bV b.ier 0),.bool true]) (zaZ Tryz.results214 _ _ (W.heap.size+1) _ _ _ rfl X.out.res rfl rfl) rfl ⟨p,cap,rfl,HO.out,X.out.below⟩
theorem Box.load_inn_at {w:World} {g n c:Nat} {p:Option Addr} {b:Bd} (k:Box w g (b.at p n c)):(Instr.loadAt 9 (.pointer (some ⟨g,2,none⟩))).run Tryz.prog w=.ok (.string b.inn) w:=k.load_inn
theorem Box.load_fr_at {w:World} {g n c:Nat} {p:Option Addr} {b:Bd} (k:Box w g (b.at p n c)):(Instr.loadAt 28 (.pointer (some ⟨g,9,none⟩))).run Tryz.prog w=.ok (.slice p n c) w:=k.load_fr
theorem zkl (b:Bd) (F:List ByteArray) (n:Int) (W:World) (hf:FAt W (.slice b.fp b.fn b.fc) F) (hF:F.length≤8796093022208):Calls Tryz.prog 214 #[bdV b,.int .u64 268435461,.int .i64 1,.int .u64 n] W (Told W (ldF b F 268435461 1 n).1 (ldF b F 268435461 1 n).2.1 (fun v=>.tuple #[v,.int .u64 (ldF b F 268435461 1 n).2.2.1,.bool (ldF b F 268435461 1 n).2.2.2])):=by
 have hr:ldF b F 268435461 1 n=(b,F,bits .or .u64 (bV (decide (0<b.inn.size)) 0) 96,true):=rfl
 rw [hr]
 clear hr
 have HFR:=hid hf
 have HFL:=hid hF
 clear hf hF
 have HE:=hid (zf3 b.inn)
 go_enter Tryz.func214,Tryz.ntmps214
 go_upto_region 1 with (fail)
 have X:=hid (KA.new W b)
 generalize (W.alloc (bdO b)).alloc zak=wx at X ⊢
 go_wp2_with (first | (go_at_call 294;(with_reducible refine (zfC _).mono ?_);rintro e w' ⟨rfl,rfl⟩) | (with_reducible refine zaa rfl rfl (Box.load X.out.own) rfl ?_) | (go_at_call 92;(with_reducible refine (za0 b F _ (HFR.out.next X.out.below) HFL.out).mono ?_);rintro e w2 ⟨p,cap,rfl,ho,k2⟩;have HO:=hid (ho.base X.out.below.size);have X:=hid (X.out.next k2);clear ho k2) | (with_reducible refine zaa rfl rfl (Box.load_inn_at X.out.own) rfl ?_) | (go_at_call 98;(with_reducible refine (zfE _ _).mono ?_);rintro e w' ⟨rfl,rfl⟩;rw [HE.out]) | (with_reducible refine zay X.out.own rfl rfl rfl rfl ?_;intro wy hwy;have HO:=hid (HO.out.put X.out.own hwy);have X:=hid (X.out.put hwy);clear hwy) | (with_reducible refine zay X.out.res rfl rfl rfl rfl ?_;intro wy hwy;have HO:=hid (HO.out.put X.out.res hwy);have X:=hid (X.out.tell hwy);clear hwy) | fail)
 exact bodyPost_ret (v:=.tuple #[bdV (b.at p F.length cap),.int .u64 (bits .or .u64 (bV (decide (0<b.inn.size)) 0) 96),.bool true]) (zaZ Tryz.results214 _ _ (W.heap.size+1) _ _ _ rfl X.out.res rfl rfl) rfl ⟨p,cap,rfl,HO.out,X.out.below⟩
theorem zw3 (b:Bd) (F:List ByteArray) (n:Int) (W:World) (hf:FAt W (.slice b.fp b.fn b.fc) F) (hF:F.length≤8796093022208) (h0:¬ 0<b.inn.size):Calls Tryz.prog 214 #[bdV b,.int .u64 268435456,.int .i64 1,.int .u64 n] W (Told W (ldF b F 268435456 1 n).1 (ldF b F 268435456 1 n).2.1 (fun v=>.tuple #[v,.int .u64 (ldF b F 268435456 1 n).2.2.1,.bool (ldF b F 268435456 1 n).2.2.2])):=by
 have hr:ldF b F 268435456 1 n=({ b with inn:=zfi b.inn },F,zd5 b.inn,true):=rfl
 rw [hr]
 clear hr
 have HFR:=hid hf
 have HFL:=hid hF
 clear hf hF
 have e0:b.inn.toList.isEmpty=true:=by have h:=zf3 b.inn;rw [decide_eq_false (by omega)] at h;simpa using h
 have HT:Hid (zd5 b.inn=0∧zfi b.inn=b.inn):=hid ⟨dif_neg (by omega),if_neg (by omega)⟩
 rw [HT.out.1,HT.out.2]
 go_enter Tryz.func214,Tryz.ntmps214
 go_upto_region 1 with (fail)
 have X:=hid (KA.new W b)
 generalize (W.alloc (bdO b)).alloc zak=wx at X ⊢
 go_wp2_with (first | (go_at_call 294;(with_reducible refine (zfq _).mono ?_);rintro e w' ⟨rfl,rfl⟩) | (with_reducible refine zaa rfl rfl (Box.load X.out.own) rfl ?_) | (go_at_call 92;(with_reducible refine (za0 b F _ (HFR.out.next X.out.below) HFL.out).mono ?_);rintro e w2 ⟨p,cap,rfl,ho,k2⟩;have HO:=hid (ho.base X.out.below.size);have X:=hid (X.out.next k2);clear ho k2) | (with_reducible refine zaa rfl rfl (Box.load_inn_at X.out.own) rfl ?_) | (with_reducible refine zay X.out.own rfl rfl rfl rfl ?_;intro wy hwy;have HO:=hid (HO.out.put X.out.own hwy);have X:=hid (X.out.put hwy);clear hwy) | (with_reducible refine zay X.out.res rfl rfl rfl rfl ?_;intro wy hwy;have HO:=hid (HO.out.put X.out.res hwy);have X:=hid (X.out.tell hwy);clear hwy) | fail)
 exact bodyPost_ret (v:=.tuple #[bdV (b.at p F.length cap),.int .u64 (0),.bool true]) (zaZ Tryz.results214 _ _ (W.heap.size+1) _ _ _ rfl X.out.res rfl rfl) rfl ⟨p,cap,rfl,HO.out,X.out.below⟩
theorem zkm (b:Bd) (F:List ByteArray) (n:Int) (W:World) (hf:FAt W (.slice b.fp b.fn b.fc) F) (hF:F.length≤8796093022208) (h0:0<b.inn.size):Calls Tryz.prog 214 #[bdV b,.int .u64 268435456,.int .i64 1,.int .u64 n] W (Told W (ldF b F 268435456 1 n).1 (ldF b F 268435456 1 n).2.1 (fun v=>.tuple #[v,.int .u64 (ldF b F 268435456 1 n).2.2.1,.bool (ldF b F 268435456 1 n).2.2.2])):=by
 have hr:ldF b F 268435456 1 n=({ b with inn:=zfi b.inn },F,zd5 b.inn,true):=rfl
 rw [hr]
 clear hr
 have HFR:=hid hf
 have HFL:=hid hF
 clear hf hF
 have e0:b.inn.toList.isEmpty=false:=by have h:=zf3 b.inn;rw [decide_eq_true h0] at h;simpa using h
 have HT:Hid (zd5 b.inn=IntKind.u64.wrap (b.inn[0].toNat:Int)∧zfi b.inn=b.inn.extract 1 b.inn.size):=hid ⟨by unfold zd5;rw [dif_pos h0,IntKind.wrap_u64];have:=b.inn[0].toNat_lt;omega,if_pos h0⟩
 rw [HT.out.1,HT.out.2]
 have e1:b.inn.toList≠[]:=by rw [List.isEmpty_eq_false_iff] at e0;exact e0
 have e2:(1:Int)≤b.inn.size:=by omega
 go_enter Tryz.func214,Tryz.ntmps214
 go_upto_region 1 with (fail)
 have X:=hid (KA.new W b)
 generalize (W.alloc (bdO b)).alloc zak=wx at X ⊢
 go_wp2_with (first | (go_at_call 294;(with_reducible refine (zfq _).mono ?_);rintro e w' ⟨rfl,rfl⟩) | (with_reducible refine zaa rfl rfl (Box.load X.out.own) rfl ?_) | (go_at_call 92;(with_reducible refine (za0 b F _ (HFR.out.next X.out.below) HFL.out).mono ?_);rintro e w2 ⟨p,cap,rfl,ho,k2⟩;have HO:=hid (ho.base X.out.below.size);have X:=hid (X.out.next k2);clear ho k2) | (with_reducible refine zaa rfl rfl (Box.load_inn_at X.out.own) rfl ?_) | (with_reducible refine Box.w_inn X.out.own rfl rfl rfl rfl ?_;intro wy hwy;have HO:=hid (HO.out.put X.out.own hwy);have X:=hid (X.out.put hwy);clear hwy) | (with_reducible refine zay X.out.own rfl rfl rfl rfl ?_;intro wy hwy;have HO:=hid (HO.out.put X.out.own hwy);have X:=hid (X.out.put hwy);clear hwy) | (with_reducible refine zay X.out.res rfl rfl rfl rfl ?_;intro wy hwy;have HO:=hid (HO.out.put X.out.res hwy);have X:=hid (X.out.tell hwy);clear hwy) | fail)
 exact bodyPost_ret (v:=.tuple #[bdV ({ (b.at p F.length cap) with inn:=b.inn.extract 1 b.inn.size }),.int .u64 (IntKind.u64.wrap (b.inn[0].toNat:Int)),.bool true]) (zaZ Tryz.results214 _ _ (W.heap.size+1) _ _ _ rfl X.out.res rfl rfl) rfl ⟨p,cap,rfl,HO.out,X.out.below⟩
theorem Box.cell_done_at {w:World} {g n c:Nat} {p:Option Addr} {b:Bd} (k:Box w g (b.at p n c)):w.cell? ⟨g,7,none⟩=some (.bool b.done):=k.cell_done
theorem Box.cell_bad_at {w:World} {g n c:Nat} {p:Option Addr} {b:Bd} (k:Box w g (b.at p n c)):w.cell? ⟨g,8,none⟩=some (.bool b.bad):=k.cell_bad
theorem znH (b:Bd) (F:List ByteArray) (n:Int) (W:World) (hf:FAt W (.slice b.fp b.fn b.fc) F) (hF:F.length≤8796093022208):Calls Tryz.prog 214 #[bdV b,.int .u64 268439576,.int .i64 8,.int .u64 n] W (Told W (ldF b F 268439576 8 n).1 (ldF b F 268439576 8 n).2.1 (fun v=>.tuple #[v,.int .u64 (ldF b F 268439576 8 n).2.2.1,.bool (ldF b F 268439576 8 n).2.2.2])):=by
 have hr:ldF b F 268439576 8 n=({ b with done:=false },F,bits .or .u64 (bV b.done 0) (bV b.bad 1),true):=rfl
 rw [hr]
 clear hr
 have HFR:=hid hf
 have HFL:=hid hF
 clear hf hF
 obtain ⟨x,Ex⟩:∃ x,bV (b.done) 0=x:=⟨_,rfl⟩
 have Cx:Hid (∀ W,Calls Tryz.prog 98 #[.bool (b.done),.int .i64 0] W fun e W'=>e=.returned (.int .u64 x)∧W'=W):=hid fun W=>(zfE _ W).mono fun _ _ h=>⟨by rw [← Ex];exact h.1,h.2.symm⟩
 replace Ex:=hid Ex
 obtain ⟨y,Ey⟩:∃ x,bV (b.bad) 1=x:=⟨_,rfl⟩
 have Cy:Hid (∀ W,Calls Tryz.prog 98 #[.bool (b.bad),.int .i64 1] W fun e W'=>e=.returned (.int .u64 y)∧W'=W):=hid fun W=>(zhe _ W).mono fun _ _ h=>⟨by rw [← Ey];exact h.1,h.2.symm⟩
 replace Ey:=hid Ey
 have HE:Hid (bits .or .u64 (bV b.done 0) (bV b.bad 1)=bits .or .u64 x y):=hid (by rw [Ex.out,Ey.out])
 rw [HE.out]
 go_enter Tryz.func214,Tryz.ntmps214
 go_upto_region 1 with (fail)
 have X:=hid (KA.new W b)
 generalize (W.alloc (bdO b)).alloc zak=wx at X ⊢
 go_upto_region 26 with (first | (go_at_call 294;(with_reducible refine (zfG _).mono ?_);rintro e w' ⟨rfl,rfl⟩) | (with_reducible refine zaa rfl rfl (Box.load X.out.own) rfl ?_) | (go_at_call 92;(with_reducible refine (za0 b F _ (HFR.out.next X.out.below) HFL.out).mono ?_);rintro e w2 ⟨p,cap,rfl,ho,k2⟩;have HO:=hid (ho.base X.out.below.size);have X:=hid (X.out.next k2);clear ho k2) | (with_reducible refine zay X.out.own rfl rfl rfl rfl ?_;intro wy hwy;have HO:=hid (HO.out.put X.out.own hwy);have X:=hid (X.out.put hwy);clear hwy) | (with_reducible refine zay X.out.res rfl rfl rfl rfl ?_;intro wy hwy;have HO:=hid (HO.out.put X.out.res hwy);have X:=hid (X.out.tell hwy);clear hwy) | fail)
 have m7:=X.out.own.cell_done_at
 have m8:=X.out.own.cell_bad_at
 go_quiet (first | (go_at_call 98;with_reducible exact Calls.quiet_of_same (Cx.out _)) | (go_at_call 98;with_reducible exact Calls.quiet_of_same (Cy.out _)))
 clear m7 m8
 replace X:=hid (X.out.drewN nq)
 replace HO:=hid (HO.out.drewN nq)
 go_wp2_with (first | (with_reducible refine Box.w_done X.out.own rfl rfl rfl rfl ?_;intro wy hwy;have HO:=hid (HO.out.put X.out.own hwy);have X:=hid (X.out.put hwy);clear hwy) | (with_reducible refine zaa rfl rfl (Box.load X.out.own) rfl ?_) | (with_reducible refine zay X.out.res rfl rfl rfl rfl ?_;intro wy hwy;have HO:=hid (HO.out.put X.out.res hwy);have X:=hid (X.out.tell hwy);clear hwy) | fail)
 exact bodyPost_ret (v:=.tuple #[bdV ({ (b.at p F.length cap) with done:=false }),.int .u64 (bits .or .u64 x y),.bool true]) (zaZ Tryz.results214 _ _ (W.heap.size+1) _ _ _ rfl X.out.res rfl rfl) rfl ⟨p,cap,rfl,HO.out,X.out.below⟩
theorem zt9 (b:Bd) (F:List ByteArray) (n:Int) (W:World) (hf:FAt W (.slice b.fp b.fn b.fc) F) (hF:F.length≤8796093022208) (h0:¬ 0<F.length):Calls Tryz.prog 214 #[bdV b,.int .u64 268443648,.int .i64 8,.int .u64 n] W (Told W (ldF b F 268443648 8 n).1 (ldF b F 268443648 8 n).2.1 (fun v=>.tuple #[v,.int .u64 (ldF b F 268443648 8 n).2.2.1,.bool (ldF b F 268443648 8 n).2.2.2])):=by
 have hr:ldF b F 268443648 8 n=(b,F,lenF F,true):=rfl
 rw [hr]
 clear hr
 have HFR:=hid hf
 have HFL:=hid hF
 clear hf hF
 have HT:Hid (lenF F=0):=hid (dif_neg h0)
 rw [HT.out]
 have g0:decide (0<F.length)=false:=decide_eq_false h0
 go_enter Tryz.func214,Tryz.ntmps214
 go_upto_region 1 with (fail)
 have X:=hid (KA.new W b)
 generalize (W.alloc (bdO b)).alloc zak=wx at X ⊢
 go_wp2_with (first | (go_at_call 294;(with_reducible refine (zey _).mono ?_);rintro e w' ⟨rfl,rfl⟩) | (with_reducible refine zaa rfl rfl (Box.load X.out.own) rfl ?_) | (go_at_call 92;(with_reducible refine (za0 b F _ (HFR.out.next X.out.below) HFL.out).mono ?_);rintro e w2 ⟨p,cap,rfl,ho,k2⟩;have HO:=hid (ho.base X.out.below.size);have X:=hid (X.out.next k2);clear ho k2) | (with_reducible refine zaa rfl rfl (Box.load_fr_at X.out.own) rfl ?_) | (with_reducible refine zay X.out.own rfl rfl rfl rfl ?_;intro wy hwy;have HO:=hid (HO.out.put X.out.own hwy);have X:=hid (X.out.put hwy);clear hwy) | (with_reducible refine zay X.out.res rfl rfl rfl rfl ?_;intro wy hwy;have HO:=hid (HO.out.put X.out.res hwy);have X:=hid (X.out.tell hwy);clear hwy) | fail)
 exact bodyPost_ret (v:=.tuple #[bdV (b.at p F.length cap),.int .u64 (0),.bool true]) (zaZ Tryz.results214 _ _ (W.heap.size+1) _ _ _ rfl X.out.res rfl rfl) rfl ⟨p,cap,rfl,HO.out,X.out.below⟩
theorem zmh (b:Bd) (F:List ByteArray) (n:Int) (W:World) (hf:FAt W (.slice b.fp b.fn b.fc) F) (hF:F.length≤8796093022208) (h0:0<F.length):Calls Tryz.prog 214 #[bdV b,.int .u64 268443648,.int .i64 8,.int .u64 n] W (Told W (ldF b F 268443648 8 n).1 (ldF b F 268443648 8 n).2.1 (fun v=>.tuple #[v,.int .u64 (ldF b F 268443648 8 n).2.2.1,.bool (ldF b F 268443648 8 n).2.2.2])):=by
 have hr:ldF b F 268443648 8 n=(b,F,lenF F,true):=rfl
 rw [hr]
 clear hr
 have HFR:=hid hf
 have HFL:=hid hF
 clear hf hF
 have HT:Hid (lenF F=IntKind.u64.wrap (F[0].size:Int)):=hid (dif_pos h0)
 rw [HT.out]
 have g0:decide (0<F.length)=true:=decide_eq_true h0
 go_enter Tryz.func214,Tryz.ntmps214
 go_upto_region 1 with (fail)
 have X:=hid (KA.new W b)
 generalize (W.alloc (bdO b)).alloc zak=wx at X ⊢
 go_upto_region 29 with (first | (go_at_call 294;(with_reducible refine (zey _).mono ?_);rintro e w' ⟨rfl,rfl⟩) | (with_reducible refine zaa rfl rfl (Box.load X.out.own) rfl ?_) | (go_at_call 92;(with_reducible refine (za0 b F _ (HFR.out.next X.out.below) HFL.out).mono ?_);rintro e w2 ⟨p,cap,rfl,ho,k2⟩;have HO:=hid (ho.base X.out.below.size);have X:=hid (X.out.next k2);clear ho k2) | (with_reducible refine zaa rfl rfl (Box.load_fr_at X.out.own) rfl ?_) | (with_reducible refine zay X.out.own rfl rfl rfl rfl ?_;intro wy hwy;have HO:=hid (HO.out.put X.out.own hwy);have X:=hid (X.out.put hwy);clear hwy) | (with_reducible refine zay X.out.res rfl rfl rfl rfl ?_;intro wy hwy;have HO:=hid (HO.out.put X.out.res hwy);have X:=hid (X.out.tell hwy);clear hwy) | fail)
 obtain ⟨g,off,c2,e,_,_,hg,hc⟩:=HO.out.at.cell h0
 simp only [Value.slice.injEq] at e
 obtain ⟨rfl,_,rfl⟩:=e
 have c0:=hc 0 h0
 rw [Nat.add_zero] at c0
 clear hc
 go_wp2_with (first | (go_at_call 294;(with_reducible refine (zey _).mono ?_);rintro e w' ⟨rfl,rfl⟩) | (with_reducible refine zaa rfl rfl (Box.load X.out.own) rfl ?_) | (go_at_call 92;(with_reducible refine (za0 b F _ (HFR.out.next X.out.below) HFL.out).mono ?_);rintro e w2 ⟨p,cap,rfl,ho,k2⟩;have HO:=hid (ho.base X.out.below.size);have X:=hid (X.out.next k2);clear ho k2) | (with_reducible refine zaa rfl rfl (Box.load_fr_at X.out.own) rfl ?_) | (with_reducible refine zay X.out.own rfl rfl rfl rfl ?_;intro wy hwy;have HO:=hid (HO.out.put X.out.own hwy);have X:=hid (X.out.put hwy);clear hwy) | (with_reducible refine zay X.out.res rfl rfl rfl rfl ?_;intro wy hwy;have HO:=hid (HO.out.put X.out.res hwy);have X:=hid (X.out.tell hwy);clear hwy) | fail)
 exact bodyPost_ret (v:=.tuple #[bdV (b.at _ F.length _),.int .u64 (IntKind.u64.wrap (F[0].size:Int)),.bool true]) (zaZ Tryz.results214 _ _ (W.heap.size+1) _ _ _ rfl X.out.res rfl rfl) rfl ⟨_,_,rfl,HO.out,X.out.below⟩
theorem zck (b:Bd) (t s v n:Int) (W:World) (c:Hid (∀ W,TW 294 #[.int .u64 t] W (.int .i64 v))) (hs:(s != v)=true):Calls Tryz.prog 214 #[bdV b,.int .u64 t,.int .i64 s,.int .u64 n] W (Told W bdZ [] (fun v=>.tuple #[v,.int .u64 0,.bool false])):=by
 go_enter Tryz.func214,Tryz.ntmps214
 go_upto_region 1 with (fail)
 have X:=hid (KA.new W b)
 generalize (W.alloc (bdO b)).alloc zak=wx at X ⊢
 go_wp2_with (first | (go_at_call 294;(with_reducible refine (c.out _).mono ?_);rintro e w' ⟨rfl,rfl⟩) | ((with_reducible show wpList _ _ _ (⟨none,Op.store 35 (.tmp 8) (.tmp 16),_,_,_,_⟩ :: _) _ _);refine zay (b:=bdZ) X.out.res rfl rfl rfl (by rfl) ?_;intro wy hwy;have X:=hid (X.out.tell hwy);clear hwy) | fail)
 exact bodyPost_ret (v:=.tuple #[bdV bdZ,.int .u64 0,.bool false]) (zaZ Tryz.results214 _ _ (W.heap.size+1) _ _ _ rfl X.out.res rfl rfl) rfl (zdr (fun v=>.tuple #[v,.int .u64 0,.bool false]) X.out.below)
theorem zxw (b:Bd) (F:List ByteArray) (n:Int) (W:World) (hf:FAt W (.slice b.fp b.fn b.fc) F) (hF:F.length≤8796093022208):Calls Tryz.prog 214 #[bdV b,.int .u64 268439568,.int .i64 8,.int .u64 n] W (Told W bdZ [] (fun v=>.tuple #[v,.int .u64 0,.bool false])):=by
 have HFR:=hid hf
 have HFL:=hid hF
 clear hf hF
 go_enter Tryz.func214,Tryz.ntmps214
 go_upto_region 1 with (fail)
 have X:=hid (KA.new W b)
 generalize (W.alloc (bdO b)).alloc zak=wx at X ⊢
 go_wp2_with (first | (go_at_call 294;(with_reducible refine (zgn _).mono ?_);rintro e w' ⟨rfl,rfl⟩) | (with_reducible refine zaa rfl rfl (Box.load X.out.own) rfl ?_) | (go_at_call 92;(with_reducible refine (za0 b F _ (HFR.out.next X.out.below) HFL.out).mono ?_);rintro e w2 ⟨p,cap,rfl,ho,k2⟩;have HO:=hid (ho.base X.out.below.size);have X:=hid (X.out.next k2);clear ho k2) | (with_reducible refine zay X.out.own rfl rfl rfl rfl ?_;intro wy hwy;have HO:=hid (HO.out.put X.out.own hwy);have X:=hid (X.out.put hwy);clear hwy) | ((with_reducible show wpList _ _ _ (⟨none,Op.store 35 (.tmp 8) (.tmp 20),_,_,_,_⟩ :: _) _ _);refine zay (b:=bdZ) X.out.res rfl rfl rfl (by rfl) ?_;intro wy hwy;have X:=hid (X.out.tell hwy);clear hwy) | fail)
 exact bodyPost_ret (v:=.tuple #[bdV bdZ,.int .u64 0,.bool false]) (zaZ Tryz.results214 _ _ (W.heap.size+1) _ _ _ rfl X.out.res rfl rfl) rfl (zdr (fun v=>.tuple #[v,.int .u64 0,.bool false]) X.out.below)
theorem zv1 (b:Bd) (F:List ByteArray) (n:Int) (W:World) (hf:FAt W (.slice b.fp b.fn b.fc) F) (hF:F.length≤8796093022208):Calls Tryz.prog 214 #[bdV b,.int .u64 268443664,.int .i64 8,.int .u64 n] W (Told W bdZ [] (fun v=>.tuple #[v,.int .u64 0,.bool false])):=by
 have HFR:=hid hf
 have HFL:=hid hF
 clear hf hF
 go_enter Tryz.func214,Tryz.ntmps214
 go_upto_region 1 with (fail)
 have X:=hid (KA.new W b)
 generalize (W.alloc (bdO b)).alloc zak=wx at X ⊢
 go_wp2_with (first | (go_at_call 294;(with_reducible refine (zfY _).mono ?_);rintro e w' ⟨rfl,rfl⟩) | (with_reducible refine zaa rfl rfl (Box.load X.out.own) rfl ?_) | (go_at_call 92;(with_reducible refine (za0 b F _ (HFR.out.next X.out.below) HFL.out).mono ?_);rintro e w2 ⟨p,cap,rfl,ho,k2⟩;have HO:=hid (ho.base X.out.below.size);have X:=hid (X.out.next k2);clear ho k2) | (with_reducible refine zay X.out.own rfl rfl rfl rfl ?_;intro wy hwy;have HO:=hid (HO.out.put X.out.own hwy);have X:=hid (X.out.put hwy);clear hwy) | ((with_reducible show wpList _ _ _ (⟨none,Op.store 35 (.tmp 8) (.tmp 20),_,_,_,_⟩ :: _) _ _);refine zay (b:=bdZ) X.out.res rfl rfl rfl (by rfl) ?_;intro wy hwy;have X:=hid (X.out.tell hwy);clear hwy) | fail)
 exact bodyPost_ret (v:=.tuple #[bdV bdZ,.int .u64 0,.bool false]) (zaZ Tryz.results214 _ _ (W.heap.size+1) _ _ _ rfl X.out.res rfl rfl) rfl (zdr (fun v=>.tuple #[v,.int .u64 0,.bool false]) X.out.below)
theorem zvS (b:Bd) (F:List ByteArray) (t n:Int) (W:World) (hf:FAt W (.slice b.fp b.fn b.fc) F) (hF:F.length≤8796093022208) (h:zdg t):Calls Tryz.prog 214 #[bdV b,.int .u64 t,.int .i64 0,.int .u64 n] W (Told W bdZ [] (fun v=>.tuple #[v,.int .u64 0,.bool false])):=by
 have HFR:=hid hf
 have HFL:=hid hF
 clear hf hF
 have c0:=hid (zgb t h)
 obtain ⟨h0,h1,h2,h3,h4,h5,h6,h7,h8,h9,h10,h11,h12,h13⟩:=h
 go_enter Tryz.func214,Tryz.ntmps214
 go_upto_region 1 with (fail)
 have X:=hid (KA.new W b)
 generalize (W.alloc (bdO b)).alloc zak=wx at X ⊢
 go_wp2_with (first | (go_at_call 294;(with_reducible refine (c0.out _).mono ?_);rintro e w' ⟨rfl,rfl⟩) | (with_reducible refine zaa rfl rfl (Box.load X.out.own) rfl ?_) | (go_at_call 92;(with_reducible refine (za0 b F _ (HFR.out.next X.out.below) HFL.out).mono ?_);rintro e w2 ⟨p,cap,rfl,ho,k2⟩;have HO:=hid (ho.base X.out.below.size);have X:=hid (X.out.next k2);clear ho k2) | (with_reducible refine zay X.out.own rfl rfl rfl rfl ?_;intro wy hwy;have HO:=hid (HO.out.put X.out.own hwy);have X:=hid (X.out.put hwy);clear hwy) | ((with_reducible show wpList _ _ _ (⟨none,Op.store 35 (.tmp 8) (.tmp 20),_,_,_,_⟩ :: _) _ _);refine zay (b:=bdZ) X.out.res rfl rfl rfl (by rfl) ?_;intro wy hwy;have X:=hid (X.out.tell hwy);clear hwy) | fail)
 exact bodyPost_ret (v:=.tuple #[bdV bdZ,.int .u64 0,.bool false]) (zaZ Tryz.results214 _ _ (W.heap.size+1) _ _ _ rfl X.out.res rfl rfl) rfl (zdr (fun v=>.tuple #[v,.int .u64 0,.bool false]) X.out.below)
theorem znJ (b:Bd) (F:List ByteArray) (t s n:Int) (W:World) (hf:FAt W (.slice b.fp b.fn b.fc) F) (hF:F.length≤8796093022208):Calls Tryz.prog 214 #[bdV b,.int .u64 t,.int .i64 s,.int .u64 n] W (Told W (ldF b F t s n).1 (ldF b F t s n).2.1 (fun v=>.tuple #[v,.int .u64 (ldF b F t s n).2.2.1,.bool (ldF b F t s n).2.2.2])):=by
 by_cases h0:t=33554432
 ·subst h0
  by_cases hs:s=4
  ·subst hs
   exact zmz b F n W hf hF
  ·rw [zb8 _ _ _ _ _ (by omega)]
   exact zck b _ s 4 n W (hid zfV) (by rw [bne_iff_ne];exact hs)
 by_cases h1:t=33570816
 ·subst h1
  by_cases hs:s=8
  ·subst hs
   exact zvg b F n W hf hF
  ·rw [zb8 _ _ _ _ _ (by omega)]
   exact zck b _ s 8 n W (hid zfU) (by rw [bne_iff_ne];exact hs)
 by_cases h2:t=33603576
 ·subst h2
  by_cases hs:s=8
  ·subst hs
   exact znr b F n W hf hF
  ·rw [zb8 _ _ _ _ _ (by omega)]
   exact zck b _ s 8 n W (hid zf8) (by rw [bne_iff_ne];exact hs)
 by_cases h3:t=268435456
 ·subst h3
  by_cases hs:s=1
  ·subst hs
   by_cases hq:0<b.inn.size
   ·exact zkm b F n W hf hF hq
   ·exact zw3 b F n W hf hF hq
  ·rw [zb8 _ _ _ _ _ (by omega)]
   exact zck b _ s 1 n W (hid zfq) (by rw [bne_iff_ne];exact hs)
 by_cases h4:t=268435457
 ·subst h4
  by_cases hs:s=1
  ·subst hs
   exact zuW b F n W hf hF
  ·rw [zb8 _ _ _ _ _ (by omega)]
   exact zck b _ s 1 n W (hid zgf) (by rw [bne_iff_ne];exact hs)
 by_cases h5:t=268435461
 ·subst h5
  by_cases hs:s=1
  ·subst hs
   exact zkl b F n W hf hF
  ·rw [zb8 _ _ _ _ _ (by omega)]
   exact zck b _ s 1 n W (hid zfC) (by rw [bne_iff_ne];exact hs)
 by_cases h6:t=268439552
 ·subst h6
  by_cases hs:s=8
  ·subst hs
   exact zpd b F n W hf hF
  ·rw [zb8 _ _ _ _ _ (by omega)]
   exact zck b _ s 8 n W (hid zge) (by rw [bne_iff_ne];exact hs)
 by_cases h7:t=268439560
 ·subst h7
  by_cases hs:s=8
  ·subst hs
   exact zo0 b F n W hf hF
  ·rw [zb8 _ _ _ _ _ (by omega)]
   exact zck b _ s 8 n W (hid zga) (by rw [bne_iff_ne];exact hs)
 by_cases h8:t=268439568
 ·subst h8
  by_cases hs:s=8
  ·subst hs
   rw [zb8 _ _ _ _ _ (by omega)]
   exact zxw b F n W hf hF
  ·rw [zb8 _ _ _ _ _ (by omega)]
   exact zck b _ s 8 n W (hid zgn) (by rw [bne_iff_ne];exact hs)
 by_cases h9:t=268439576
 ·subst h9
  by_cases hs:s=8
  ·subst hs
   exact znH b F n W hf hF
  ·rw [zb8 _ _ _ _ _ (by omega)]
   exact zck b _ s 8 n W (hid zfG) (by rw [bne_iff_ne];exact hs)
 by_cases h10:t=268443648
 ·subst h10
  by_cases hs:s=8
  ·subst hs
   by_cases hq:0<F.length
   ·exact zmh b F n W hf hF hq
   ·exact zt9 b F n W hf hF hq
  ·rw [zb8 _ _ _ _ _ (by omega)]
   exact zck b _ s 8 n W (hid zey) (by rw [bne_iff_ne];exact hs)
 by_cases h11:t=268443656
 ·subst h11
  by_cases hs:s=8
  ·subst hs
   exact zmk b F n W hf hF
  ·rw [zb8 _ _ _ _ _ (by omega)]
   exact zck b _ s 8 n W (hid zfM) (by rw [bne_iff_ne];exact hs)
 by_cases h12:t=268443664
 ·subst h12
  by_cases hs:s=8
  ·subst hs
   rw [zb8 _ _ _ _ _ (by omega)]
   exact zv1 b F n W hf hF
  ·rw [zb8 _ _ _ _ _ (by omega)]
   exact zck b _ s 8 n W (hid zfY) (by rw [bne_iff_ne];exact hs)
 by_cases h13:t=268443672
 ·subst h13
  by_cases hs:s=8
  ·subst hs
   exact zsn b F n W hf hF
  ·rw [zb8 _ _ _ _ _ (by omega)]
   exact zck b _ s 8 n W (hid zfR) (by rw [bne_iff_ne];exact hs)
 have hn:zdg t:=⟨beq_eq_false_iff_ne.2 h0,beq_eq_false_iff_ne.2 h1,beq_eq_false_iff_ne.2 h2,beq_eq_false_iff_ne.2 h3,beq_eq_false_iff_ne.2 h4,beq_eq_false_iff_ne.2 h5,beq_eq_false_iff_ne.2 h6,beq_eq_false_iff_ne.2 h7,beq_eq_false_iff_ne.2 h8,beq_eq_false_iff_ne.2 h9,beq_eq_false_iff_ne.2 h10,beq_eq_false_iff_ne.2 h11,beq_eq_false_iff_ne.2 h12,beq_eq_false_iff_ne.2 h13⟩
 rw [zb8 _ _ _ _ _ (by omega)]
 by_cases hs:s=0
 ·subst hs
  exact zvS b F t n W hf hF hn
 ·exact zck b t s 0 n W (hid (zgb t hn)) (by rw [bne_iff_ne];exact hs)
end Go.Proofs.YtmjjpgaeboaamaaGreatDoor
